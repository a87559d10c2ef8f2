/-
  Layer 15: maps from numbers to numbers, as they are written; the pairing in memory.
-/
import Derived.Test.YtclikfeaodfmkaaHpAlk
import Derived.Test.YtclikfeaodfmkaaHpOwn
import Derived.Maps.OwnSet
import Derived.Maps.OwnOps
import Derived.Test.YtclikfeaodfmkaaHpEnt
namespace Go.Proofs.Ytclikfeaodfmkaa.Hp15
open Go.RowKit Api Mem Go.Maps

abbrev kI (x : Int) : Lit := .int .i64 x
abbrev dI (n : Int) : DataW Unit := .lit (.int .i64 n)
theorem keyI (x : Int) : WideAt.IsKeyLit (kI x) := by simp [WideAt.IsKeyLit]
theorem kI_ne {x y : Int} (h : x ≠ y) : kI x ≠ kI y := fun e => h (by injection e)
/-- pairs of numbers, as a map that they were put into one by one. -/
def tabI (T : PT) : DataW Unit := T.foldl (fun D p => D.put (kI p.1) (dI p.2)) (.map [])
theorem tabI_snoc (T : PT) (n m : Int) : tabI (T ++ [(n, m)]) = (tabI T).put (kI n) (dI m) := by
  unfold tabI; rw [List.foldl_append]; rfl
theorem tabI_tidy : ∀ (n : Nat) (T : PT), T.length = n → Tidy (tabI T)
  | 0, T, h => by
    have : T = [] := List.eq_nil_of_length_eq_zero h
    subst this
    exact tidy_empty
  | n + 1, T, h => by
    rcases List.eq_nil_or_concat T with e | ⟨r, y, e⟩
    · subst e; cases h
    · subst e
      simp at h
      obtain ⟨a, b⟩ := y
      rw [List.concat_eq_append, tabI_snoc]
      exact (tabI_tidy n r h).put (keyI _) _
theorem tabI_has_n : ∀ (n : Nat) (T : PT) (x : Int), T.length = n → has (tabI T) (kI x) = decide (x ∈ T.map (·.1))
  | 0, T, x, h => by
    have : T = [] := List.eq_nil_of_length_eq_zero h
    subst this
    rfl
  | n + 1, T, x, h => by
    rcases List.eq_nil_or_concat T with e | ⟨r, y, e⟩
    · subst e; cases h
    · subst e
      simp at h
      obtain ⟨a, b⟩ := y
      rw [List.concat_eq_append, tabI_snoc]
      by_cases e2 : x = a
      · subst e2
        rw [has_put_same (tabI_tidy _ r rfl).isMap (keyI _)]
        simp
      · rw [has_put_other (kI_ne e2), tabI_has_n n r x h]
        simp [e2]
theorem tabI_has (T : PT) (x : Int) : has (tabI T) (kI x) = decide (x ∈ T.map (·.1)) := tabI_has_n _ T x rfl
theorem tabI_at_n : ∀ (n : Nat) (T : PT) (x m : Int), T.length = n → (T.map (·.1)).Nodup → (x, m) ∈ T → (tabI T).atKey (kI x) (dI 0) = dI m
  | 0, T, x, m, h, _, hm => by
    have : T = [] := List.eq_nil_of_length_eq_zero h
    subst this
    cases hm
  | n + 1, T, x, m, h, hn, hm => by
    rcases List.eq_nil_or_concat T with e | ⟨r, y, e⟩
    · subst e; cases h
    · subst e
      simp at h
      obtain ⟨a, b⟩ := y
      rw [List.concat_eq_append] at hn hm ⊢
      rw [tabI_snoc]
      rw [List.map_append, List.nodup_append] at hn
      by_cases e2 : x = a
      · subst e2
        rw [atKey_put_same (tabI_tidy _ r rfl).isMap (keyI _)]
        rcases List.mem_append.1 hm with hm | hm
        · exact absurd rfl (hn.2.2 x (List.mem_map.2 ⟨(x, m), hm, rfl⟩) x (by simp))
        · simp at hm
          rw [hm]
      · rw [atKey_put_other (kI_ne e2)]
        refine tabI_at_n n r x m h hn.1 ?_
        rcases List.mem_append.1 hm with hm | hm
        · exact hm
        · simp at hm
          exact absurd hm.1 e2
theorem tabI_at {T : PT} {x m : Int} (hn : (T.map (·.1)).Nodup) (hm : (x, m) ∈ T) : (tabI T).atKey (kI x) (dI 0) = dI m := tabI_at_n _ T x m rfl hn hm
theorem tabI_none_n : ∀ (n : Nat) (T : PT) (x : Int), T.length = n → x ∉ T.map (·.1) → (tabI T).atKey (kI x) (dI 0) = dI 0
  | 0, T, x, h, _ => by
    have : T = [] := List.eq_nil_of_length_eq_zero h
    subst this
    rfl
  | n + 1, T, x, h, hm => by
    rcases List.eq_nil_or_concat T with e | ⟨r, y, e⟩
    · subst e; cases h
    · subst e
      simp at h
      obtain ⟨a, b⟩ := y
      rw [List.concat_eq_append] at hm ⊢
      rw [tabI_snoc]
      simp only [List.map_append, List.map_cons, List.map_nil, List.mem_append, List.mem_singleton, not_or] at hm
      rw [atKey_put_other (kI_ne hm.2)]
      exact tabI_none_n n r x h hm.1
theorem tabI_none {T : PT} {x : Int} (hm : x ∉ T.map (·.1)) : (tabI T).atKey (kI x) (dI 0) = dI 0 := tabI_none_n _ T x rfl hm
/-- what is found at a number, and whether. -/
theorem look_tab {T : PT} (hn : (T.map (·.1)).Nodup) (x : Int) : ∃ c d, (tabI T).atKey (kI x) (dI 0) = dI c ∧ has (tabI T) (kI x) = d ∧ ((d = true ∧ (x, c) ∈ T) ∨ (d = false ∧ c = 0 ∧ x ∉ T.map (·.1))) := by
  by_cases hm : x ∈ T.map (·.1)
  · obtain ⟨p, hp, rfl⟩ := List.mem_map.1 hm
    exact ⟨p.2, true, tabI_at hn hp, by rw [tabI_has]; simpa using hm, .inl ⟨rfl, hp⟩⟩
  · exact ⟨0, false, tabI_none hm, by rw [tabI_has]; simpa using hm, .inr ⟨rfl, rfl, hm⟩⟩
theorem lawI : Keyed Try.prog 2 := int_keyed Try.underlying2
theorem zeroI64 (w : World) : (zeroValue 2).run Try.prog w = .ok (.int .i64 0) w := by kernel_rfl
theorem key_int {x : Int} (h : NumM.In x) : keyOf Try.prog 2 (i64 x) = some (kI x) := keyOf_int_mk Try.underlying2 (WalkArith.wf_i64 h)
/-- the map of pairs in block g. -/
def MO (w : World) (g : Nat) (T : PT) : Prop := w.ownsMap Try.prog 2 (plainElem Try.prog 2) g T.length (tabI T)
theorem MO.made (w : World) : MO (w.alloc (.map #[] 0)) w.heap.size [] := World.ownsMap_made (H := Unit) w Try.prog 2 (plainElem Try.prog 2)
theorem MO.block {w w' : World} {g : Nat} {T : PT} (h : MO w g T) (hk : w'.heap[g]? = w.heap[g]?) : MO w' g T := by
  obtain ⟨es, clock, h1, r⟩ := h
  exact ⟨es, clock, hk.trans h1, r⟩
theorem MO.lt {w : World} {g : Nat} {T : PT} (h : MO w g T) : g < w.heap.size := World.ownsMap.lt h
theorem MO.below {w w' : World} {g B : Nat} {T : PT} (h : MO w g T) (hb : Below B w w') (hg : g < B) : MO w' g T := h.block (hb.block g hg)
theorem MO.not_cells {w : World} {g : Nat} {T : PT} (h : MO w g T) (cur : Array Value) (e : TypeId) (p : Nat × Nat) : w.heap[g]? ≠ some (.cells cur e p) := by
  obtain ⟨es, clock, h1, r⟩ := h
  rw [h1]
  simp
/-- a pairing in memory. -/
structure PM (w : World) (B pb : Nat) (v1 v2 vr : Value) (g1 g2 : Nat) (T : PT) (q : List Int) : Prop where
  box : Mem.Own w pb 49 [v1, v2, .map (some g1), .map (some g2), vr]
  m1 : MO w g1 T
  m2 : MO w g2 (T.map Prod.swap)
  ne : g1 ≠ g2
  row : w.ownsRow B 2 1 vr q.length (q.map i64)
  b1 : B ≤ pb
  b2 : B ≤ g1
  b3 : B ≤ g2
section
variable {w w' : World} {B pb : Nat} {v1 v2 vr : Value} {g1 g2 : Nat} {T : PT} {q : List Int}
theorem PM.below (h : PM w B pb v1 v2 vr g1 g2 T q) (hb : Below w.heap.size w w') : PM w' B pb v1 v2 vr g1 g2 T q :=
  ⟨h.box.below hb h.box.lt, h.m1.below hb h.m1.lt, h.m2.below hb h.m2.lt, h.ne, Hold.Rec.on.below (r := ⟨2, 1, vr, q.length, q.map i64⟩) h.row hb, h.b1, h.b2, h.b3⟩
theorem PM.cells (h : PM w B pb v1 v2 vr g1 g2 T q) : w.cell? ⟨pb, 0, none⟩ = some v1 ∧ w.cell? ⟨pb, 1, none⟩ = some v2 ∧ w.cell? ⟨pb, 2, none⟩ = some (.map (some g1)) ∧ w.cell? ⟨pb, 3, none⟩ = some (.map (some g2)) ∧ w.cell? ⟨pb, 4, none⟩ = some vr :=
  ⟨h.box.cell 0, h.box.cell 1, h.box.cell 2, h.box.cell 3, h.box.cell 4⟩
theorem row_nb {e : TypeId} {xs : List Value} {n size : Nat} (hrow : w.ownsRow B e size vr n xs) (hg : w.grownBy w' vr.ownBlock) {b : Nat} {o : Obj} (hb : w.heap[b]? = some o) (ho : ∀ cur, o ≠ .cells cur e (0, 0)) : w'.heap[b]? = w.heap[b]? := by
  have hlt : b < w.heap.size := (Array.getElem?_eq_some_iff.1 hb).1
  refine hg.block b hlt fun e => ?_
  rcases hrow.2 with ⟨e9, _⟩ | ⟨g, cap, cur, e9, _, hk, _⟩
  · rw [e9] at e; cases e
  · rw [e9] at e
    simp only [Value.ownBlock, Option.some.injEq] at e
    subst e
    rw [hb] at hk
    exact ho cur (Option.some.inj hk)
theorem PM.box_at (h : PM w B pb v1 v2 vr g1 g2 T q) (hg : w.grownBy w' vr.ownBlock) : Mem.Own w' pb 49 [v1, v2, .map (some g1), .map (some g2), vr] :=
  (row_nb h.row hg (o := .cells _ _ _) h.box (by intro cur e; simp only [Obj.cells.injEq] at e; exact absurd e.2.1 (by decide))).trans h.box
/-- the row of what is to be looked at, in whatever world that has turned nothing else. -/
theorem PM.turn_row {vr' : Value} {q' : List Int} (h : PM w B pb v1 v2 vr g1 g2 T q) (hg : w.grownBy w' vr.ownBlock) (hr : w'.ownsRow B 2 1 vr' q'.length (q'.map i64)) :
    PM (w'.setCell ⟨pb, 4, none⟩ vr') B pb v1 v2 vr' g1 g2 T q' := by
  have hbx := h.box_at hg
  have hm : ∀ {g : Nat} {T : PT}, MO w g T → MO (w'.setCell ⟨pb, 4, none⟩ vr') g T ∧ g ≠ pb := fun {g T} hm => by
    have hne : g ≠ pb := fun e => by subst e; exact hm.not_cells _ _ _ h.box
    obtain ⟨es, clock, h1, r⟩ := hm
    have h2 : w'.heap[g]? = w.heap[g]? := row_nb h.row hg h1 (by intro cur e; cases e)
    exact ⟨⟨es, clock, (Below.heap_setCell w' ⟨pb, 4, none⟩ vr' g hne).trans (h2.trans h1), r⟩, hne⟩
  refine ⟨hbx.store 4 vr', (hm h.m1).1, (hm h.m2).1, h.ne, ?_, h.b1, h.b2, h.b3⟩
  refine ⟨hr.1, ?_⟩
  rcases hr.2 with hn | ⟨g, cap, cur, e2, hb, hg2, r⟩
  · exact .inl hn
  · refine .inr ⟨g, cap, cur, e2, hb, (Below.heap_setCell w' ⟨pb, 4, none⟩ vr' g fun e => ?_).trans hg2, r⟩
    simp only at e
    subst e
    have h3 : w'.heap[g]? = some (.cells _ 49 (0, 0)) := hbx
    rw [h3] at hg2
    simp only [Option.some.injEq, Obj.cells.injEq] at hg2
    exact absurd hg2.2.1 (by decide)
theorem row_form15 {e : TypeId} {size n : Nat} {v : Value} {xs : List Value} (h : w.ownsRow B e size v n xs) : ∃ A c, v = .slice A n c := by
  rcases h.2 with ⟨rfl, rfl⟩ | ⟨g, cap, cur, rfl, _⟩
  · exact ⟨_, _, rfl⟩
  · exact ⟨_, _, rfl⟩
theorem info_i64 : (Try.prog.info? 2).map (fun i => (i.zero, i.size, i.bytes)) = some (some (.int .i64 0), 1, 8) := by kernel_rfl
/-- both maps turned. -/
theorem PM.turn_both {n m : Int} (h : PM w B pb v1 v2 vr g1 g2 T q) (h1 : MO w' g1 (T ++ [(n, m)])) (h2 : MO w' g2 (T.map Prod.swap ++ [(m, n)])) (hk : ∀ b, b < w.heap.size → b ≠ g1 → b ≠ g2 → w'.heap[b]? = w.heap[b]?) : PM w' B pb v1 v2 vr g1 g2 (T ++ [(n, m)]) q := by
  have nc : ∀ {g : Nat} {o : Obj}, w.heap[g]? = some o → g ≠ g1 → g ≠ g2 → w'.heap[g]? = w.heap[g]? := fun {g o} hb n1 n2 => hk g (Array.getElem?_eq_some_iff.1 hb).1 n1 n2
  have np : ∀ {cs : Array Value} {e : TypeId} {p : Nat × Nat} {g : Nat}, w.heap[g]? = some (.cells cs e p) → g ≠ g1 ∧ g ≠ g2 := fun {cs e p g} hb => ⟨fun e1 => by subst e1; exact h.m1.not_cells _ _ _ hb, fun e1 => by subst e1; exact h.m2.not_cells _ _ _ hb⟩
  refine ⟨(nc h.box (np h.box).1 (np h.box).2).trans h.box, h1, by rw [List.map_append]; exact h2, h.ne, ?_, h.b1, h.b2, h.b3⟩
  refine ⟨h.row.1, ?_⟩
  rcases h.row.2 with hn | ⟨g, cap, cur, e2, hb, hg, r⟩
  · exact .inl hn
  · exact .inr ⟨g, cap, cur, e2, hb, (nc hg (np hg).1 (np hg).2).trans hg, r⟩
end
end Go.Proofs.Ytclikfeaodfmkaa.Hp15
