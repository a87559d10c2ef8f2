/-
  Layer 8: the program's test of ends.
-/
import Derived.Test.YtdmjghhgmpnacaaShPlaces
import Derived.Lib.Hide
import Derived.Lib.Walk
import Derived.Laws.MakeOwn
import Derived.Laws.OwnMore
import Derived.OwnWalk
namespace Go.Proofs.Ytdmjghhgmpnacaa.Sh8
open Go.RowKit Api Mem Go.Maps

theorem run_row {P : Program} {t e : TypeId} {z : Value} {bytes : Nat} (ht : P.underlying t = some (.slice e)) (hinf : (P.info? e).map (fun i => (i.zero, i.size, i.bytes)) = some (some z, 1, bytes)) (hzc : z.cells = #[z]) (hby : bytes ≤ 64) (n : Nat) (hn : n ≤ 1099511627776) (w : World) :
    (Instr.makeSlice t (.int .i64 (n : Int)) (.int .i64 (n : Int))).run P w = .ok (.slice (some ⟨w.heap.size, 0, none⟩) n n) (w.alloc (.cells (List.replicate n z).toArray e)) := by
  obtain ⟨i0, hi, hz0, hz1, hz2⟩ := info_parts hinf
  have h := run_make (P := P) w t e i0 z ht hi hz0 .i64 .i64 (n : Int) (n : Int) (by omega) (by omega) (by
    rw [hz2]
    have : bytes * n ≤ 64 * 1099511627776 := Nat.mul_le_mul hby hn
    have h2 : ((bytes * n : Nat) : Int) ≤ 281474976710656 := by omega
    rwa [Int.natCast_mul] at h2) (by omega)
  rw [hz1, hzc] at h
  have e1 : madeCells #[z] n = (List.replicate n z).toArray := by rw [← toList_madeCells_one]
  simp only [Int.toNat_natCast, Nat.mul_one, e1] at h
  exact h
theorem owns_below {P : Program} {k : TypeId} {R : Value → Option (DataW Unit × List MemPlace)} {w w' : World} {g n B : Nat} {D : DataW Unit} (h : w.ownsMap P k R g n D) (hb : Below B w w') (hg : g < B) : w'.ownsMap P k R g n D := by
  obtain ⟨es, clock, h1, r⟩ := h
  exact ⟨es, clock, (hb.block g hg).trans h1, r⟩
theorem tab_found {ns : List Wd} {x : Wd} {p : Nat} (h : plc ns x = some p) : (tab 0 ns).atKey (kS x) (dI 0) = dI (p : Int) ∧ has (tab 0 ns) (kS x) = true := by
  rw [tab_at, tab_has, h]
  simp
theorem tab_lost {ns : List Wd} {x : Wd} (h : plc ns x = none) : (tab 0 ns).atKey (kS x) (dI 0) = dI 0 ∧ has (tab 0 ns) (kS x) = false := by
  rw [tab_at, tab_has, h]
  simp
theorem info_int : (Try.prog.info? 3).map (fun i => (i.zero, i.size, i.bytes)) = some (some (.int .i64 0), 1, 8) := by kernel_rfl
theorem info_bool : (Try.prog.info? 4).map (fun i => (i.zero, i.size, i.bytes)) = some (some (.bool false), 1, 1) := by kernel_rfl
/-- A bool is answered that tells whether it is so; what was there stays. -/
def BP (p : Prop) (w : World) (e : Ending) (w' : World) : Prop := ∃ b : Bool, e = .returned (.bool b) ∧ (b = true ↔ p) ∧ Below w.heap.size w w'
abbrev toG (bl : List Bl) : Prop := ∀ b ∈ bl, ∀ x ∈ b.fin.dest, x.length ≤ 140737488351232
/-- what the row 'last' holds while the k-th block's end is gone through: behind which block each place was named last. -/
def Last (ns : List Wd) (L : List Int) (k : Nat) (done : List Wd) : Prop := L.length = ns.length ∧ (∀ (p : Nat) (v : Int), L[p]? = some v → v ≤ (k : Int) + 1 ∧ (v = (k : Int) + 1 ↔ ∃ y ∈ done, plc ns y = some p))
theorem last_zero (ns : List Wd) : Last ns (List.replicate ns.length 0) 0 [] := by
  refine ⟨by simp, fun p v h => ?_⟩
  have : v = 0 := by
    have := List.mem_of_getElem? h
    exact (List.mem_replicate.1 this).2
  subst this
  simp
  try omega
theorem last_next {ns : List Wd} {L : List Int} {k : Nat} {done : List Wd} (h : Last ns L k done) : Last ns L (k + 1) [] := by
  refine ⟨h.1, fun p v hv => ?_⟩
  have := (h.2 p v hv).1
  refine ⟨by omega, ⟨fun e => by omega, fun ⟨y, hy, _⟩ => by cases hy⟩⟩
theorem last_put {ns : List Wd} {L : List Int} {k p : Nat} {done : List Wd} {x : Wd} (h : Last ns L k done) (hx : plc ns x = some p) : Last ns (L.set p ((k : Int) + 1)) k (done ++ [x]) := by
  refine ⟨by simp [h.1], fun q v hv => ?_⟩
  by_cases e : p = q
  · subst e
    have hlt : p < L.length := by rw [h.1]; exact plc_lt hx
    rw [List.getElem?_set_self hlt] at hv
    cases hv
    exact ⟨Int.le_refl _, ⟨fun _ => ⟨x, by simp, hx⟩, fun _ => rfl⟩⟩
  · rw [List.getElem?_set_ne e] at hv
    obtain ⟨h1, h2⟩ := h.2 q v hv
    refine ⟨h1, h2.trans ⟨fun ⟨y, hy, e2⟩ => ⟨y, by simp [hy], e2⟩, fun ⟨y, hy, e2⟩ => ?_⟩⟩
    rcases List.mem_append.1 hy with hy | hy
    · exact ⟨y, hy, e2⟩
    · simp at hy
      subst hy
      rw [hx] at e2
      cases e2
      exact absurd rfl e
theorem last_at {ns : List Wd} {L : List Int} {k p : Nat} {done : List Wd} {x : Wd} (h : Last ns L k done) (hx : plc ns x = some p) : ∃ v, L[p]? = some v ∧ (v = (k : Int) + 1 ↔ x ∈ done) := by
  have hlt : p < L.length := by rw [h.1]; exact plc_lt hx
  refine ⟨L[p], List.getElem?_eq_getElem hlt, ((h.2 p _ (List.getElem?_eq_getElem hlt)).2).trans ⟨fun ⟨y, hy, e⟩ => ?_, fun hm => ⟨x, hm, hx⟩⟩⟩
  have := plc_at e
  rw [plc_at hx] at this
  cases this
  exact hy
theorem end_next {ns to : List Wd} {j : Nat} {x : Wd} (h : EndOk ns (to.take j)) (hx : to[j]? = some x) (h1 : x ∈ ns) (h2 : ns[0]? ≠ some x) (h3 : x ∉ to.take j) : EndOk ns (to.take (j + 1)) := by
  obtain ⟨hj, e⟩ := List.getElem?_eq_some_iff.1 hx
  rw [List.take_succ_eq_append_getElem hj, e]
  refine ⟨List.nodup_append.2 ⟨h.1, by simp, fun a ha b hb e9 => ?_⟩, fun y hy => ?_⟩
  · simp only [List.mem_singleton] at hb
    exact h3 (by rw [← hb, ← e9]; exact ha)
  · rcases List.mem_append.1 hy with hy | hy
    · exact h.2 y hy
    · simp at hy
      subst hy
      exact ⟨h1, h2⟩
theorem end_bad {ns to : List Wd} {j : Nat} {x : Wd} (hx : to[j]? = some x) (h : x ∉ ns ∨ ns[0]? = some x ∨ x ∈ to.take j) : ¬ EndOk ns to := by
  intro ⟨g1, g2⟩
  obtain ⟨hj, e⟩ := List.getElem?_eq_some_iff.1 hx
  rcases h with h | h | h
  · exact h (g2 x (List.mem_of_getElem? hx)).1
  · exact (g2 x (List.mem_of_getElem? hx)).2 h
  · obtain ⟨i, hi, e2⟩ := List.mem_take_iff_getElem.1 h
    have := List.nodup_iff_pairwise_ne.1 g1
    exact (List.pairwise_iff_getElem.1 this i j (by omega) hj (by omega)) (e2.trans e.symm)
theorem take_in {α : Type} {l : List α} {k : Nat} {x : α} (hx : l[k]? = some x) {Q : α → Prop} (h : ∀ y ∈ l.take k, Q y) (hq : Q x) : ∀ y ∈ l.take (k + 1), Q y := by
  obtain ⟨hk, e⟩ := List.getElem?_eq_some_iff.1 hx
  intro y hy
  rw [List.take_succ_eq_append_getElem hk, e] at hy
  rcases List.mem_append.1 hy with hy | hy
  · exact h y hy
  · simp at hy
    subst hy
    exact hq
set_option maxRecDepth 100000 in
set_option maxHeartbeats 8000000 in
theorem ends_any (lo hi : Nat) (w : World) (cs : List Value) (f : Api.Func) (hf : FuncC lo hi w cs f) (hh : hi ≤ w.heap.size) (g m : Nat) (hM : w.ownsMap Try.prog 9 (plainElem Try.prog 3) g m (tab 0 (names f.blocks))) (hn : f.blocks.length ≤ 1099511627776) (hG : toG f.blocks) :
    Calls Try.prog 19 #[.agg cs.toArray, .map (some g)] w (BP (∀ c ∈ f.blocks, EndOk (names f.blocks) c.fin.dest) w) := by
  have hgl := hM.lt
  obtain ⟨u1, u2, u3, rfl, kp, kv, kb⟩ := hf
  obtain ⟨nm, rs, ps, vs, bl⟩ := f
  simp only at kp kv kb hG hM hn ⊢
  obtain ⟨A1, k1, rfl⟩ := kp.form
  obtain ⟨A2, k2, rfl⟩ := kv.form
  obtain ⟨A3, k3, rfl⟩ := kb.form
  obtain ⟨W, hW⟩ : ∃ W, w.alloc (.cells #[str nm, str rs, .slice A1 ps.length k1, .slice A2 vs.length k2, .slice A3 bl.length k3] 25) = W := ⟨_, rfl⟩
  obtain ⟨o1, b1, z1⟩ := box8 (c := [str nm, str rs, .slice A1 ps.length k1, .slice A2 vs.length k2, .slice A3 bl.length k3]) hW
  have hlb : bl.length ≤ 4611686018427387903 := by obtain ⟨_, _, _, h, _⟩ := kb.get; exact h
  have KB := Lib.hid (Blocks.move (Still.of_below (b1.mono hh)) kb)
  have HO := Lib.hid o1
  have HB := Lib.hid b1
  have HW := Lib.hid hW
  have HHW : Hid (hi ≤ W.heap.size) := Lib.hid (by omega)
  have GB := Lib.hid hG
  have zlt := o1.lt
  clear o1 b1 hW kp kv kb hG
  have HM := Lib.hid (owns_below hM HB.out hgl)
  have HR0 := Lib.hid (Own.made W 3 (List.replicate bl.length (.int .i64 0)))
  have HBR0 : Hid (Below W.heap.size W (W.alloc (.cells (List.replicate bl.length (.int .i64 0)).toArray 3))) := Lib.hid ((Below.refl _ _).alloc (Nat.le_refl _) _)
  have hmm := fun (w : World) => run_row (P := Try.prog) (t := 41) Try.underlying41 info_int rfl (by decide) bl.length hn w
  have HN := Lib.hid hn
  have HGL := Lib.hid hgl
  clear hn hM hgl
  go_enter Try.func19, Try.ntmps19
  go_wp2_with fail
  rw [HW.out]
  have f4' := HO.out.cell 4
  simp only [List.getElem?_cons_succ, List.getElem?_cons_zero] at f4'
  go_wp2_with fail
  go_loopw [18] (fun i wr => ∃ (k : Nat) (L : List Int), k ≤ bl.length ∧ i = .int .i64 k ∧ Hid (Own wr (w.heap.size + 1) 3 (L.map i64)) ∧ Hid (Last (names bl) L k []) ∧ Hid (∀ c ∈ bl.take k, EndOk (names bl) c.fin.dest) ∧ Hid (Below W.heap.size W wr)) (fun i _ => bl.length - (intOf i).toNat)
  case atStart => exact ⟨0, List.replicate bl.length 0, Nat.zero_le _, rfl, Lib.hid (by rw [List.map_replicate, ← z1]; exact HR0.out), Lib.hid (by have := last_zero (names bl); rwa [names_len] at this), Lib.hid (fun c hc => by simp at hc), HBR0⟩
  case round =>
  obtain ⟨k, L, hk, rfl, HR, HL, HE, HBr⟩ := hrel
  clear f4'
  have f4 := (HO.out.below HBr.out HO.out.lt).cell 4
  simp only [List.getElem?_cons_succ, List.getElem?_cons_zero] at f4
  by_cases hlt : k < bl.length
  · obtain ⟨⟨bn, phs, cod, ⟨tk, ⟨ak, as_, an⟩, td, tn⟩⟩, hx⟩ : ∃ y, bl[k]? = some y := ⟨_, List.getElem?_eq_getElem (by omega)⟩
    obtain ⟨b3, of3, hn3, hm3, a3, j3⟩ := KB.out.get
    obtain ⟨rfl, _, hb3⟩ := a3 (by omega)
    obtain ⟨cs3, _, q3, hu⟩ := j3 k _ hx
    obtain ⟨x1, x2, x3, e1', kph, kco, x4, e2', kto⟩ := hu
    subst e2'
    subst e1'
    obtain ⟨m0, m1, m2, m3, m4, m5, m6, m7, m8⟩ := at9 (cells_later q3 HBr.out (by have := HHW.out; omega))
    obtain ⟨At, kt, rfl⟩ := Row.form kto
    have htl : td.length ≤ 4611686018427387903 := by obtain ⟨_, _, _, h, _⟩ := kto.get; exact h
    have HX := Lib.hid hx
    have KT := Lib.hid kto
    clear q3 j3 a3 hx kph kco kto
    go_wp2_with fail
    go_loopw [29] (fun i wr2 => ∃ (j : Nat) (L : List Int), j ≤ td.length ∧ i = .int .i64 j ∧ Hid (Own wr2 (w.heap.size + 1) 3 (L.map i64)) ∧ Hid (Last (names bl) L k (td.take j)) ∧ Hid (EndOk (names bl) (td.take j)) ∧ Hid (Below W.heap.size W wr2)) (fun i _ => td.length - (intOf i).toNat)
    case atStart => exact ⟨0, L, Nat.zero_le _, rfl, HR, HL, Lib.hid ⟨by simp, fun x hx => by simp at hx⟩, HBr⟩
    case round =>
    obtain ⟨j, L2, hj, rfl, HR2, HL2, HE2, HBr2⟩ := hrel
    clear m0 m1 m2 m3 m4 m5 m6 m7 m8 f4
    by_cases hlt2 : j < td.length
    · obtain ⟨x, hxj⟩ : ∃ y, td[j]? = some y := ⟨_, List.getElem?_eq_getElem hlt2⟩
      have kt2 := KT.out
      obtain ⟨b5, of5, hn5, hm5, a5, j5⟩ := Row.get kt2
      obtain ⟨rfl, _, hb5⟩ := a5 (by omega)
      obtain ⟨cs5, _, q5, hu5⟩ := j5 j _ hxj
      subst hu5
      have n0 := cells_later q5 HBr2.out (by have := HHW.out; omega) 0 _ rfl
      simp only [Nat.mul_one, Nat.add_zero] at n0
      clear q5 j5 a5 kt2
      have HKEY := Lib.hid (key_at (GB.out _ (List.mem_of_getElem? HX.out) _ (List.mem_of_getElem? hxj)))
      have HMW := Lib.hid (owns_below HM.out HBr2.out (by have := HGL.out; omega))
      have HXJ := Lib.hid hxj
      clear hxj
      cases hp : plc (names bl) x with
      | none =>
        have HT := Lib.hid (tab_lost hp)
        have HBAD := Lib.hid (end_bad (ns := names bl) HXJ.out (.inl (plc_none.1 hp)))
        clear hp
        go_wp2_with (first | (at_lookup; refine look_ok _ rfl _ _ 52 rfl 9 3 lawS Try.underlying52 Try.underlying3 (zeroI _) g m _ rfl HMW.out _ _ rfl HKEY.out _ HT.out.1 _ HT.out.2 ?_) | go_in)
        go_ret
        exact ⟨false, rfl, ⟨fun h => (by cases h), fun h => absurd (h _ (List.mem_of_getElem? HX.out)) HBAD.out⟩, HB.out.trans (HBr2.out.mono HB.out.size)⟩
      | some p =>
        have HT := Lib.hid (tab_found hp)
        have HP := Lib.hid hp
        clear hp
        by_cases hp0 : p = 0
        · subst hp0
          have HBAD := Lib.hid (end_bad (ns := names bl) HXJ.out (.inr (.inl (plc_at HP.out))))
          go_wp2_with (first | (at_lookup; refine look_ok _ rfl _ _ 52 rfl 9 3 lawS Try.underlying52 Try.underlying3 (zeroI _) g m _ rfl HMW.out _ _ rfl HKEY.out _ HT.out.1 _ HT.out.2 ?_) | go_in)
          go_ret
          exact ⟨false, rfl, ⟨fun h => (by cases h), fun h => absurd (h _ (List.mem_of_getElem? HX.out)) HBAD.out⟩, HB.out.trans (HBr2.out.mono HB.out.size)⟩
        · have ep : ((p : Int) == 0) = false := by simpa using hp0
          have HP0 := Lib.hid hp0
          obtain ⟨v, hv, hvd⟩ := last_at HL2.out HP.out
          have hpl : p < bl.length := by have := plc_lt HP.out; rwa [names_len] at this
          have c0 := (HR2.out.cell p).trans (show (L2.map i64)[p]? = some (i64 v) by rw [List.getElem?_map, hv]; rfl)
          have t0 := HR2.out.thaw p
          have ylt := HR2.out.lt
          by_cases hd : x ∈ td.take j
          · have ev : (v == (k : Int) + 1) = true := by simpa using (hvd.2 hd)
            have HBAD := Lib.hid (end_bad (ns := names bl) HXJ.out (.inr (.inr hd)))
            have HV := Lib.hid hvd
            clear hv hvd hd hp0
            go_wp2_with (first | (at_lookup; refine look_ok _ rfl _ _ 52 rfl 9 3 lawS Try.underlying52 Try.underlying3 (zeroI _) g m _ rfl HMW.out _ _ rfl HKEY.out _ HT.out.1 _ HT.out.2 ?_) | go_in)
            go_ret
            exact ⟨false, rfl, ⟨fun h => (by cases h), fun h => absurd (h _ (List.mem_of_getElem? HX.out)) HBAD.out⟩, HB.out.trans (HBr2.out.mono HB.out.size)⟩
          · have ev : (v == (k : Int) + 1) = false := by simpa using (fun e => hd (hvd.1 e))
            have HEN := Lib.hid (end_next HE2.out HXJ.out (List.mem_of_getElem? (plc_at HP.out)) (fun e => HP0.out (by have := plc_first e (fun i hi => by omega); rw [HP.out] at this; cases this; rfl)) hd)
            clear hv hvd hd hp0
            go_wp2_with (first | (at_lookup; refine look_ok _ rfl _ _ 52 rfl 9 3 lawS Try.underlying52 Try.underlying3 (zeroI _) g m _ rfl HMW.out _ _ rfl HKEY.out _ HT.out.1 _ HT.out.2 ?_) | go_in)
            go_roundw
            case rel => exact ⟨j + 1, L2.set p ((k : Int) + 1), by omega, by go_num, Lib.hid (by rw [List.map_set]; exact HR2.out.store p _), Lib.hid (by
              obtain ⟨hj9, e9⟩ := List.getElem?_eq_some_iff.1 HXJ.out
              rw [List.take_succ_eq_append_getElem hj9, e9]
              exact last_put HL2.out HP.out), HEN, Lib.hid (HBr2.out.setCell (p := ⟨w.heap.size + 1, p, none⟩) (Nat.le_of_eq z1) _)⟩
            case measure => simp [intOf]; omega
    · go_wp2_with fail
      go_roundw
      case rel => exact ⟨k + 1, L2, by omega, by go_num, HR2, Lib.hid (last_next HL2.out), Lib.hid (take_in HX.out HE.out (by have := HE2.out; rwa [List.take_of_length_le (by omega)] at this)), HBr2⟩
      case measure => simp [intOf]; omega
  · go_wp2_with fail
    go_ret
    exact ⟨true, rfl, ⟨fun _ => by have := HE.out; rwa [List.take_of_length_le (by omega)] at this, fun _ => rfl⟩, HB.out.trans (HBr.out.mono HB.out.size)⟩
end Go.Proofs.Ytdmjghhgmpnacaa.Sh8
