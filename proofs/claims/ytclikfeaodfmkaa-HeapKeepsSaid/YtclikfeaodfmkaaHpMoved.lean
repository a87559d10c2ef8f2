/-
  Layer 15: the statements' moved.
-/
import Derived.Test.YtclikfeaodfmkaaHpShift
import Derived.Test.YtclikfeaodfmkaaHpApp
import Derived.Test.YtclikfeaodfmkaaHpMap
import Derived.Test.YtclikfeaodfmkaaChunk
namespace Go.Proofs.Ytclikfeaodfmkaa.Hp15
open Go.RowKit Api Mem

theorem own_row_by {w w' : World} {B n size b : Nat} {e t : TypeId} {vr : Value} {xs cs : List Value} (hrow : w.ownsRow B e size vr n xs) (hg : w.grownBy w' vr.ownBlock) (ho : Mem.Own w b t cs) (hne : t ≠ e) : Mem.Own w' b t cs :=
  (row_nb hrow hg (o := .cells _ _ _) ho (by intro cur e2; simp only [Obj.cells.injEq] at e2; exact hne e2.2.1)).trans ho
theorem row_set_by {w : World} {B n size b : Nat} {e t : TypeId} {vr : Value} {xs cs : List Value} (hrow : w.ownsRow B e size vr n xs) (ho : Mem.Own w b t cs) (hne : t ≠ e) (i : Nat) (u : Value) : (w.setCell ⟨b, i, none⟩ u).ownsRow B e size vr n xs := by
  refine ⟨hrow.1, ?_⟩
  rcases hrow.2 with hn | ⟨g, cap, cur, e2, hb, hg, r⟩
  · exact .inl hn
  · refine .inr ⟨g, cap, cur, e2, hb, (Below.heap_setCell w ⟨b, i, none⟩ u g fun e3 => ?_).trans hg, r⟩
    simp only at e3
    subst e3
    have h3 : w.heap[g]? = some (.cells cs.toArray t (0, 0)) := ho
    rw [h3] at hg
    simp only [Option.some.injEq, Obj.cells.injEq] at hg
    exact hne hg.2.1
theorem moved_snoc {h : Hp} {n : Int} {a l : List Vl} {m : Nat} {x y : Vl} (hm : ∀ (i : Nat) (x y : Vl), a[i]? = some x → l[i]? = some y → MovedV h n x y) (hx : a[m]? = some x) (hl : l.length = m) (hy : MovedV h n x y) : ∀ (i : Nat) (x' y' : Vl), a[i]? = some x' → (l ++ [y])[i]? = some y' → MovedV h n x' y' := fun i x' y' h1 h2 => by
  by_cases e : i < m
  · rw [List.getElem?_append_left (by omega)] at h2
    exact hm i x' y' h1 h2
  · have h3 := (List.getElem?_eq_some_iff.1 h2).1
    rw [List.length_append, List.length_singleton] at h3
    obtain rfl : i = m := by omega
    rw [hx] at h1
    cases h1
    rw [List.getElem?_append_right (by omega), hl, Nat.sub_self] at h2
    cases h2
    exact hy
theorem ones_ob {lo hi : Nat} {w : World} (ds : List Value) (x : Ob) (h : ObC lo hi w ds x) : ∀ u ∈ ds, u.oneCell' = true := by
  obtain ⟨u, rfl, hu⟩ := h
  intro z hz
  simp only [List.mem_cons, List.not_mem_nil, or_false] at hz
  rcases hz with rfl | rfl
  · rfl
  · exact Chk.ones_slice hu
theorem chunks_obC {w : World} {base : Nat} : ∀ {us : List Value} {D : Hp}, us.length = D.length → (∀ r ∈ inns us D, r.on w base) → (∀ x ∈ D, x.vals.length ≤ 4611686018427387903) → Chk.Chunks 2 (ObC 0 w.heap.size w) (obC us D) D
  | [], [], _, _, _ => Chk.Chunks.nil _ _
  | [], _ :: _, h, _, _ => by simp at h
  | _ :: _, [], h, _, _ => by simp at h
  | u :: us, x :: D, h, hr, hs =>
    Chk.Chunks.app (cs := [str x.cls, u]) (xs := [x]) (Chk.Chunks.one rfl ⟨u, rfl, VOwn.vls (base := 0) (VOwn.lower (hr (inV u x.vals) (by simp [inns])) (Nat.zero_le _)) (Nat.le_refl _) (hs x (by simp))⟩)
      (chunks_obC (us := us) (D := D) (by simpa using h) (fun r h2 => hr r (by unfold inns at *; simp only [List.zipWith_cons_cons, List.mem_cons]; exact .inr h2)) (fun y h2 => hs y (by simp [h2])))
theorem moved_obs {lo hi base n : Nat} {w w' : World} {t : TypeId} {csF us : List Value} {front D : Hp} {v : Value} (hcF : Chk.Chunks 2 (ObC lo hi w) csF front) (hap : Hold.Apart w' base (⟨t, 2, v, n, csF ++ obC us D⟩ :: inns us D)) (hul : us.length = D.length) (hs : Still lo hi 0 w'.heap.size w w') (hn : (front ++ D).length ≤ 4611686018427387903) (hv : ∀ x ∈ D, x.vals.length ≤ 4611686018427387903) : Obs 0 w'.heap.size w' v (front ++ D) :=
  Chk.to_row (base := base) (show w'.ownsRow base t 2 v n (csF ++ obC us D) from hap.head) (Chk.Chunks.app (hcF.mono fun ds x h => ObC.move hs h) (chunks_obC hul (fun r hr => hap.1 r (List.mem_cons_of_mem _ hr)) hv)) (by decide) hn (Nat.le_refl _) (Nat.zero_le _)
theorem moved_len {h D : Hp} {n : Int} {b : Nat} (hm : ∀ (i : Nat) (o p : Ob), h[i]? = some o → D[i]? = some p → MovedO h n o p) (hl : D.length = h.length) (hb : ∀ x ∈ h, x.vals.length ≤ b) : ∀ x ∈ D, x.vals.length ≤ b := fun x hx => by
  obtain ⟨i, hi⟩ := List.getElem?_of_mem hx
  have h1 := (List.getElem?_eq_some_iff.1 hi).1
  obtain ⟨o, ho⟩ : ∃ o, h[i]? = some o := ⟨_, List.getElem?_eq_getElem (by omega)⟩
  rw [← (hm i o x ho hi).2.1]
  exact hb o (List.mem_of_getElem? ho)
theorem objs_snoc {h : Hp} {n : Int} {D : Hp} {m : Nat} {x y : Ob} (hm : ∀ (i : Nat) (x y : Ob), h[i]? = some x → D[i]? = some y → MovedO h n x y) (hx : h[m]? = some x) (hl : D.length = m) (hy : MovedO h n x y) : ∀ (i : Nat) (x' y' : Ob), h[i]? = some x' → (D ++ [y])[i]? = some y' → MovedO h n x' y' := fun i x' y' h1 h2 => by
  by_cases e : i < m
  · rw [List.getElem?_append_left (by omega)] at h2
    exact hm i x' y' h1 h2
  · have h3 := (List.getElem?_eq_some_iff.1 h2).1
    rw [List.length_append, List.length_singleton] at h3
    obtain rfl : i = m := by omega
    rw [hx] at h1
    cases h1
    rw [List.getElem?_append_right (by omega), hl, Nat.sub_self] at h2
    cases h2
    exact hy
end Go.Proofs.Ytclikfeaodfmkaa.Hp15
