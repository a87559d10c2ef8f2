/-
  Layer 12: what is live at blocks' first places.
-/
import Derived.Test.YtaeklfljibjpiaaLvAtG
namespace Go.Proofs.Ytaeklfljibjpiaa.Lv12
open Go.RowKit Go.Shelf Api Mem Sh8 Go.Maps

/-- rows of names, n of them: those at i are what Q i asks for, rising. -/
def RowsQ (Q : Nat → Wd → Prop) (w : World) (base Bv n k : Nat) : Prop := ∃ vs : List Value, Mem.Own w Bv 31 vs ∧ vs.length = n ∧ base ≤ Bv ∧ ∀ i, i < k → ∃ v r, vs[i]? = some v ∧ Rise r ∧ (∀ x, x ∈ r ↔ Q i x) ∧ w.ownsRow base 9 1 v r.length (r.map str)
theorem RowsQ.below {Q : Nat → Wd → Prop} {w w' : World} {base Bv n k : Nat} (h : RowsQ Q w base Bv n k) (hb : Below w.heap.size w w') : RowsQ Q w' base Bv n k := by
  obtain ⟨vs, h1, h2, h3, h4⟩ := h
  refine ⟨vs, h1.below hb h1.lt, h2, h3, fun i hi => ?_⟩
  obtain ⟨v, r, q1, q2, q3, q4⟩ := h4 i hi
  exact ⟨v, r, q1, q2, q3, own_below q4 hb⟩
theorem RowsQ.lt {Q : Nat → Wd → Prop} {w : World} {base Bv n k : Nat} (h : RowsQ Q w base Bv n k) : Bv < w.heap.size := by
  obtain ⟨vs, h1, _⟩ := h
  exact h1.lt
theorem RowsQ.thaw {Q : Nat → Wd → Prop} {w : World} {base Bv n k : Nat} (h : RowsQ Q w base Bv n k) (j : Nat) : w.frozen? ⟨Bv, j, none⟩ = false := by
  obtain ⟨vs, h1, _⟩ := h
  exact h1.thaw j
theorem RowsQ.there {Q : Nat → Wd → Prop} {w : World} {base Bv n k : Nat} (h : RowsQ Q w base Bv n k) {j : Nat} (hj : j < n) : ∃ u, w.cell? ⟨Bv, j, none⟩ = some u := by
  obtain ⟨vs, h1, h2, _⟩ := h
  exact ⟨_, (h1.cell j).trans (List.getElem?_eq_getElem (by omega))⟩
theorem RowsQ.store {Q : Nat → Wd → Prop} {w : World} {base Bv n k : Nat} (h : RowsQ Q w base Bv n k) (hk : k < n) {v : Value} {r : List Wd} (hr : Rise r) (hm : ∀ x, x ∈ r ↔ Q k x) (ho : w.ownsRow base 9 1 v r.length (r.map str)) : RowsQ Q (w.setCell ⟨Bv, k, none⟩ v) base Bv n (k + 1) := by
  obtain ⟨vs, h1, h2, h3, h4⟩ := h
  have gc := grown_cell w ⟨Bv, k, none⟩ v
  have hn := notT_own h1 (e := 9) (by decide)
  refine ⟨vs.set k v, h1.store k v, by rw [List.length_set]; exact h2, h3, fun i hi => ?_⟩
  by_cases e : i = k
  · subst e
    exact ⟨v, r, by rw [List.getElem?_set_self (by omega)], hr, hm, row_other ho gc hn⟩
  · obtain ⟨v', r', q1, q2, q3, q4⟩ := h4 i (by omega)
    exact ⟨v', r', by rw [List.getElem?_set_ne (Ne.symm e)]; exact q1, q2, q3, row_other q4 gc hn⟩
theorem RowsQ.at {Q : Nat → Wd → Prop} {w : World} {base Bv n : Nat} (h : RowsQ Q w base Bv n n) {i : Nat} (hi : i < n) : ∃ v r, w.cell? ⟨Bv, i, none⟩ = some v ∧ Rise r ∧ (∀ x, x ∈ r ↔ Q i x) ∧ w.ownsRow base 9 1 v r.length (r.map str) := by
  obtain ⟨vs, h1, h2, h3, h4⟩ := h
  obtain ⟨v, r, q1, q2, q3, q4⟩ := h4 i hi
  exact ⟨v, r, (h1.cell i).trans q1, q2, q3, q4⟩
theorem info_strs : (Try.prog.info? 31).map (fun i => (i.zero, i.size, i.bytes)) = some (some (.slice none 0 0), 1, 24) := by kernel_rfl
theorem RowsQ.made (Q : Nat → Wd → Prop) (w : World) (base n : Nat) (hb : base ≤ w.heap.size) : RowsQ Q (w.alloc (.cells (List.replicate n (.slice none 0 0)).toArray 31)) base w.heap.size n 0 :=
  ⟨_, Mem.Own.made w _ _, by simp, hb, fun i hi => absurd hi (Nat.not_lt_zero _)⟩
def InsP (bl : List Api.Block) (w : World) (e : Ending) (w' : World) : Prop := ∃ Bv, e = .returned (.slice (some ⟨Bv, 0, none⟩) bl.length bl.length) ∧ RowsQ (LvB bl) w' w.heap.size Bv bl.length bl.length ∧ Below w.heap.size w w'
end Go.Proofs.Ytaeklfljibjpiaa.Lv12
