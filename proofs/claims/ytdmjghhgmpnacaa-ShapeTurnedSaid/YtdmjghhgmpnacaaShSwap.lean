/-
  Layer 8: two blocks change their places.
-/
import Derived.Test.YtdmjghhgmpnacaaShApp
import Derived.Test.YtdmjghhgmpnacaaChunk
namespace Go.Proofs.Ytdmjghhgmpnacaa.Sh8
open Go.RowKit Api Mem Go.Maps

def swapL {α : Type} (l : List α) (a b : Nat) (x y : α) : List α := (l.set a y).set b x
theorem swap_perm {α : Type} {l : List α} {a b : Nat} {x y : α} (ha : l[a]? = some x) (hb : l[b]? = some y) : (swapL l a b x y).Perm l := by
  unfold swapL
  obtain ⟨ha1, ha2⟩ := List.getElem?_eq_some_iff.1 ha
  obtain ⟨hb1, hb2⟩ := List.getElem?_eq_some_iff.1 hb
  by_cases e : a = b
  · subst e
    have : x = y := by rw [← ha2, hb2]
    subst this
    rw [List.set_set, ← ha2, List.set_getElem_self]
  · subst ha2
    subst hb2
    exact List.set_set_perm ha1 hb1
theorem swap_head {α : Type} {b0 : α} {r : List α} {a b : Nat} {x y : α} (ha : (b0 :: r)[a]? = some x) (hb : (b0 :: r)[b]? = some y) (h1 : 1 ≤ a) (h2 : 1 ≤ b) : ∃ r2, swapL (b0 :: r) a b x y = b0 :: r2 ∧ r2.Perm r := by
  obtain ⟨a, rfl⟩ : ∃ k, a = k + 1 := ⟨a - 1, by omega⟩
  obtain ⟨b, rfl⟩ : ∃ k, b = k + 1 := ⟨b - 1, by omega⟩
  refine ⟨swapL r a b x y, by simp [swapL], swap_perm (by simpa using ha) (by simpa using hb)⟩
/-- cells laid over those from k on. -/
def setR (cs : List Value) : Nat → List Value → List Value
  | _, [] => cs
  | k, d :: ds => setR (cs.set k d) (k + 1) ds
def setW (w : World) (g : Nat) : Nat → List Value → World
  | _, [] => w
  | k, d :: ds => setW (w.setCell ⟨g, k, none⟩ d) g (k + 1) ds
theorem setR_len : ∀ {ds cs : List Value} {k : Nat}, (setR cs k ds).length = cs.length
  | [], _, _ => rfl
  | d :: ds, cs, k => by rw [setR, setR_len, List.length_set]
theorem setR_get : ∀ {ds cs : List Value} {k : Nat} (_ : k + ds.length ≤ cs.length) (m : Nat), (setR cs k ds)[m]? = if k ≤ m ∧ m < k + ds.length then ds[m - k]? else cs[m]?
  | [], cs, k, h, m => by rw [setR, if_neg (by simp only [List.length_nil]; omega)]
  | d :: ds, cs, k, h, m => by
    simp only [List.length_cons] at h ⊢
    rw [setR, setR_get (by rw [List.length_set]; omega)]
    by_cases e : m = k
    · subst e
      rw [if_neg (by omega), if_pos (by omega), List.getElem?_set_self (by omega), Nat.sub_self]
      rfl
    · by_cases e2 : k + 1 ≤ m ∧ m < k + 1 + ds.length
      · rw [if_pos e2, if_pos (by omega), show m - k = (m - (k + 1)) + 1 by omega, List.getElem?_cons_succ]
      · rw [if_neg e2, if_neg (by omega), List.getElem?_set_ne (fun e3 => e e3.symm)]
theorem owns_setW : ∀ {ds : List Value} {w : World} {base n size g cap k : Nat} {e : TypeId} {cs : List Value} (_ : w.ownsRow base e size (.slice (some ⟨g, 0, none⟩) n cap) n cs), (setW w g k ds).ownsRow base e size (.slice (some ⟨g, 0, none⟩) n cap) n (setR cs k ds)
  | [], _, _, _, _, _, _, _, _, _, h => h
  | d :: ds, w, base, n, size, g, cap, k, e, cs, h => by
    show (setW (w.setCell ⟨g, k, none⟩ d) g (k + 1) ds).ownsRow base e size (.slice (some ⟨g, 0, none⟩) n cap) n (setR (cs.set k d) (k + 1) ds)
    exact owns_setW (h.stored k d).1
theorem below_setW : ∀ {ds : List Value} {w w' : World} {B g k : Nat} (_ : Below B w w') (_ : B ≤ g), Below B w (setW w' g k ds)
  | [], _, _, _, _, _, h, _ => h
  | d :: ds, w, w', B, g, k, h, hg => by
    show Below B w (setW (w'.setCell ⟨g, k, none⟩ d) g (k + 1) ds)
    exact below_setW (h.setCell (p := ⟨g, k, none⟩) hg d) hg
theorem own_setW : ∀ {ds : List Value} {w : World} {g k b : Nat} {t : TypeId} {cs : List Value} (_ : Own w b t cs) (_ : b ≠ g), Own (setW w g k ds) b t cs
  | [], _, _, _, _, _, _, h, _ => h
  | d :: ds, w, g, k, b, t, cs, h, hg => by
    show Own (setW (w.setCell ⟨g, k, none⟩ d) g (k + 1) ds) b t cs
    exact own_setW (show Own (w.setCell ⟨g, k, none⟩ d) b t cs from (Below.heap_setCell w ⟨g, k, none⟩ d b hg).trans h) hg
theorem chunks_put {α : Type} {size : Nat} {P : List Value → α → Prop} {cs ds : List Value} {xs : List α} {a : Nat} {y : α} (h : Chk.Chunks size P cs xs) (ha : a < xs.length) (hl : ds.length = size) (hp : P ds y) : Chk.Chunks size P (setR cs (a * size) ds) (xs.set a y) := by
  have hfit : a * size + ds.length ≤ cs.length := by
    rw [h.1, hl, ← Nat.succ_mul]
    exact Nat.mul_le_mul_right _ ha
  refine ⟨by rw [setR_len, List.length_set]; exact h.1, fun i x hx => ?_⟩
  by_cases e : a = i
  · subst e
    rw [List.getElem?_set_self ha] at hx
    cases hx
    refine ⟨ds, hl, fun j u hj => ?_, hp⟩
    have hjl := (List.getElem?_eq_some_iff.1 hj).1
    rw [setR_get hfit, if_pos (by omega), Nat.add_sub_cancel_left]
    exact hj
  · rw [List.getElem?_set_ne e] at hx
    obtain ⟨es, e1, e2, e3⟩ := h.2 i x hx
    refine ⟨es, e1, fun j u hj => ?_, e3⟩
    have hjl := (List.getElem?_eq_some_iff.1 hj).1
    rw [setR_get hfit, if_neg]
    · exact e2 j u hj
    · rintro ⟨g1, g2⟩
      rcases Nat.lt_or_gt_of_ne e with hlt | hlt
      · have := Nat.mul_le_mul_right size (show a + 1 ≤ i from hlt)
        rw [Nat.succ_mul] at this
        omega
      · have := Nat.mul_le_mul_right size (show i + 1 ≤ a from hlt)
        rw [Nat.succ_mul] at this
        omega
theorem row_drew {w : World} {base n size : Nat} {e : TypeId} {v : Value} {cs : List Value} (h : w.ownsRow base e size v n cs) : w.drew.ownsRow base e size v n cs := h
theorem chain_eq (w : World) (g k : Nat) (d0 d1 d2 d3 d4 d5 d6 d7 d8 : Value) : setW w g (k * 9) [d0, d1, d2, d3, d4, d5, d6, d7, d8] = (((((((((w.setCell ⟨g, k * 9, none⟩ d0).setCell ⟨g, k * 9 + 1, none⟩ d1).setCell ⟨g, k * 9 + 2, none⟩ d2).setCell ⟨g, k * 9 + 3, none⟩ d3).setCell ⟨g, k * 9 + 4, none⟩ d4).setCell ⟨g, k * 9 + 5, none⟩ d5).setCell ⟨g, k * 9 + 6, none⟩ d6).setCell ⟨g, k * 9 + 7, none⟩ d7).setCell ⟨g, k * 9 + 8, none⟩ d8) := rfl
theorem swap9 {w : World} {base g n c a b : Nat} {e : TypeId} {cs : List Value} (h : w.ownsRow base e 9 (.slice (some ⟨g, 0, none⟩) n c) n cs) (d0 d1 d2 d3 d4 d5 d6 d7 d8 e0 e1 e2 e3 e4 e5 e6 e7 e8 : Value) {W : World} (hW : ((((((((((((((((((w.setCell ⟨g, a * 9, none⟩ d0).setCell ⟨g, a * 9 + 1, none⟩ d1).setCell ⟨g, a * 9 + 2, none⟩ d2).setCell ⟨g, a * 9 + 3, none⟩ d3).setCell ⟨g, a * 9 + 4, none⟩ d4).setCell ⟨g, a * 9 + 5, none⟩ d5).setCell ⟨g, a * 9 + 6, none⟩ d6).setCell ⟨g, a * 9 + 7, none⟩ d7).setCell ⟨g, a * 9 + 8, none⟩ d8).setCell ⟨g, b * 9, none⟩ e0).setCell ⟨g, b * 9 + 1, none⟩ e1).setCell ⟨g, b * 9 + 2, none⟩ e2).setCell ⟨g, b * 9 + 3, none⟩ e3).setCell ⟨g, b * 9 + 4, none⟩ e4).setCell ⟨g, b * 9 + 5, none⟩ e5).setCell ⟨g, b * 9 + 6, none⟩ e6).setCell ⟨g, b * 9 + 7, none⟩ e7).setCell ⟨g, b * 9 + 8, none⟩ e8).drew = W) :
    W.ownsRow base e 9 (.slice (some ⟨g, 0, none⟩) n c) n (setR (setR cs (a * 9) [d0, d1, d2, d3, d4, d5, d6, d7, d8]) (b * 9) [e0, e1, e2, e3, e4, e5, e6, e7, e8]) ∧ (∀ (k : Nat) (t : TypeId) (xs : List Value), k ≠ g → Own w k t xs → Own W k t xs) ∧ (∀ (w0 : World) (B : Nat), B ≤ g → Below B w0 w → Below B w0 W) := by
  subst hW
  rw [← chain_eq, ← chain_eq]
  exact ⟨row_drew (owns_setW (k := b * 9) (ds := [e0, e1, e2, e3, e4, e5, e6, e7, e8]) (owns_setW (k := a * 9) (ds := [d0, d1, d2, d3, d4, d5, d6, d7, d8]) h)), fun k t xs hk o => (own_setW (own_setW o hk) hk).drew, fun w0 B hB hb => (below_setW (below_setW hb hB) hB).drew⟩
end Go.Proofs.Ytdmjghhgmpnacaa.Sh8
