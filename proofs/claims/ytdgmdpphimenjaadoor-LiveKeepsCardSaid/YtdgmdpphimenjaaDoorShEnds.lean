/-
  Layer 8: the program's test of ends.
-/
import Derived.Test.YtdgmdpphimenjaaDoorShPlaces
import Derived.Lib.Hide
import Derived.Lib.Walk
import Derived.Laws.MakeOwn
import Derived.Laws.OwnMore
import Derived.OwnWalk
namespace Go.Proofs.YtdgmdpphimenjaaDoor.Sh8
open Go.RowKit Api Mem Go.Maps

theorem run_row {P : Program} {t e : TypeId} {z : Value} {bytes : Nat} (ht : P.underlying t = some (.slice e)) (hinf : (P.info? e).map (fun i => (i.zero, i.size, i.bytes)) = some (some z, 1, bytes)) (hzc : z.cells = #[z]) (hby : bytes ≤ 64) (n : Nat) (hn : n ≤ 1099511627776) (w : World) :
    (Instr.makeSlice t (.int .i64 (n : Int)) (.int .i64 (n : Int))).run P w = .ok (.slice (some ⟨w.heap.size, 0, none⟩) n n) (w.alloc (.cells (List.replicate n z).toArray e)) := by
  obtain ⟨i0, hi, hz0, hz1, hz2⟩ := info_parts hinf
  have h := run_make (P := P) w t e i0 z ht hi hz0 .i64 .i64 (n : Int) (n : Int) (by omega) (by omega) (by
    rw [hz2]
    have : bytes * n ≤ 64 * 1099511627776 := Nat.mul_le_mul hby hn
    have h2 : ((bytes * n : Nat) : Int) ≤ 281474976710656 := by omega
    rwa [Int.natCast_mul] at h2) (by omega)
  rw [hz1, hzc] at h
  have e1 : madeCells #[z] n = (List.replicate n z).toArray := by rw [← toList_madeCells_one]
  simp only [Int.toNat_natCast, Nat.mul_one, e1] at h
  exact h
theorem owns_below {P : Program} {k : TypeId} {R : Value → Option (DataW Unit × List MemPlace)} {w w' : World} {g n B : Nat} {D : DataW Unit} (h : w.ownsMap P k R g n D) (hb : Below B w w') (hg : g < B) : w'.ownsMap P k R g n D := by
  obtain ⟨es, clock, h1, r⟩ := h
  exact ⟨es, clock, (hb.block g hg).trans h1, r⟩
theorem tab_found {ns : List Wd} {x : Wd} {p : Nat} (h : plc ns x = some p) : (tab 0 ns).atKey (kS x) (dI 0) = dI (p : Int) ∧ has (tab 0 ns) (kS x) = true := by
  rw [tab_at, tab_has, h]
  simp
theorem tab_lost {ns : List Wd} {x : Wd} (h : plc ns x = none) : (tab 0 ns).atKey (kS x) (dI 0) = dI 0 ∧ has (tab 0 ns) (kS x) = false := by
  rw [tab_at, tab_has, h]
  simp
theorem info_int : (Tryd.prog.info? 3).map (fun i => (i.zero, i.size, i.bytes)) = some (some (.int .i64 0), 1, 8) := by kernel_rfl
theorem info_bool : (Tryd.prog.info? 4).map (fun i => (i.zero, i.size, i.bytes)) = some (some (.bool false), 1, 1) := by kernel_rfl
/-- A bool is answered that tells whether it is so; what was there stays. -/
def BP (p : Prop) (w : World) (e : Ending) (w' : World) : Prop := ∃ b : Bool, e = .returned (.bool b) ∧ (b = true ↔ p) ∧ Below w.heap.size w w'
abbrev toG (bl : List Bl) : Prop := ∀ b ∈ bl, ∀ x ∈ b.fin.dest, x.length ≤ 140737488351232
/-- what the row 'last' holds while the k-th block's end is gone through: behind which block each place was named last. -/
def Last (ns : List Wd) (L : List Int) (k : Nat) (done : List Wd) : Prop := L.length = ns.length ∧ (∀ (p : Nat) (v : Int), L[p]? = some v → v ≤ (k : Int) + 1 ∧ (v = (k : Int) + 1 ↔ ∃ y ∈ done, plc ns y = some p))
theorem last_zero (ns : List Wd) : Last ns (List.replicate ns.length 0) 0 [] := by
  refine ⟨by simp, fun p v h => ?_⟩
  have : v = 0 := by
    have := List.mem_of_getElem? h
    exact (List.mem_replicate.1 this).2
  subst this
  simp
  try omega
theorem last_next {ns : List Wd} {L : List Int} {k : Nat} {done : List Wd} (h : Last ns L k done) : Last ns L (k + 1) [] := by
  refine ⟨h.1, fun p v hv => ?_⟩
  have := (h.2 p v hv).1
  refine ⟨by omega, ⟨fun e => by omega, fun ⟨y, hy, _⟩ => by cases hy⟩⟩
theorem last_put {ns : List Wd} {L : List Int} {k p : Nat} {done : List Wd} {x : Wd} (h : Last ns L k done) (hx : plc ns x = some p) : Last ns (L.set p ((k : Int) + 1)) k (done ++ [x]) := by
  refine ⟨by simp [h.1], fun q v hv => ?_⟩
  by_cases e : p = q
  · subst e
    have hlt : p < L.length := by rw [h.1]; exact plc_lt hx
    rw [List.getElem?_set_self hlt] at hv
    cases hv
    exact ⟨Int.le_refl _, ⟨fun _ => ⟨x, by simp, hx⟩, fun _ => rfl⟩⟩
  · rw [List.getElem?_set_ne e] at hv
    obtain ⟨h1, h2⟩ := h.2 q v hv
    refine ⟨h1, h2.trans ⟨fun ⟨y, hy, e2⟩ => ⟨y, by simp [hy], e2⟩, fun ⟨y, hy, e2⟩ => ?_⟩⟩
    rcases List.mem_append.1 hy with hy | hy
    · exact ⟨y, hy, e2⟩
    · simp at hy
      subst hy
      rw [hx] at e2
      cases e2
      exact absurd rfl e
theorem last_at {ns : List Wd} {L : List Int} {k p : Nat} {done : List Wd} {x : Wd} (h : Last ns L k done) (hx : plc ns x = some p) : ∃ v, L[p]? = some v ∧ (v = (k : Int) + 1 ↔ x ∈ done) := by
  have hlt : p < L.length := by rw [h.1]; exact plc_lt hx
  refine ⟨L[p], List.getElem?_eq_getElem hlt, ((h.2 p _ (List.getElem?_eq_getElem hlt)).2).trans ⟨fun ⟨y, hy, e⟩ => ?_, fun hm => ⟨x, hm, hx⟩⟩⟩
  have := plc_at e
  rw [plc_at hx] at this
  cases this
  exact hy
theorem end_next {ns to : List Wd} {j : Nat} {x : Wd} (h : EndOk ns (to.take j)) (hx : to[j]? = some x) (h1 : x ∈ ns) (h2 : ns[0]? ≠ some x) (h3 : x ∉ to.take j) : EndOk ns (to.take (j + 1)) := by
  obtain ⟨hj, e⟩ := List.getElem?_eq_some_iff.1 hx
  rw [List.take_succ_eq_append_getElem hj, e]
  refine ⟨List.nodup_append.2 ⟨h.1, by simp, fun a ha b hb e9 => ?_⟩, fun y hy => ?_⟩
  · simp only [List.mem_singleton] at hb
    exact h3 (by rw [← hb, ← e9]; exact ha)
  · rcases List.mem_append.1 hy with hy | hy
    · exact h.2 y hy
    · simp at hy
      subst hy
      exact ⟨h1, h2⟩
theorem end_bad {ns to : List Wd} {j : Nat} {x : Wd} (hx : to[j]? = some x) (h : x ∉ ns ∨ ns[0]? = some x ∨ x ∈ to.take j) : ¬ EndOk ns to := by
  intro ⟨g1, g2⟩
  obtain ⟨hj, e⟩ := List.getElem?_eq_some_iff.1 hx
  rcases h with h | h | h
  · exact h (g2 x (List.mem_of_getElem? hx)).1
  · exact (g2 x (List.mem_of_getElem? hx)).2 h
  · obtain ⟨i, hi, e2⟩ := List.mem_take_iff_getElem.1 h
    have := List.nodup_iff_pairwise_ne.1 g1
    exact (List.pairwise_iff_getElem.1 this i j (by omega) hj (by omega)) (e2.trans e.symm)
theorem take_in {α : Type} {l : List α} {k : Nat} {x : α} (hx : l[k]? = some x) {Q : α → Prop} (h : ∀ y ∈ l.take k, Q y) (hq : Q x) : ∀ y ∈ l.take (k + 1), Q y := by
  obtain ⟨hk, e⟩ := List.getElem?_eq_some_iff.1 hx
  intro y hy
  rw [List.take_succ_eq_append_getElem hk, e] at hy
  rcases List.mem_append.1 hy with hy | hy
  · exact h y hy
  · simp at hy
    subst hy
    exact hq
end Go.Proofs.YtdgmdpphimenjaaDoor.Sh8
