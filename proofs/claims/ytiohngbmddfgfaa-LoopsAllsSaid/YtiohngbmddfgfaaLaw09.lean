/-
  The statements of layer 9: what they share.
-/
import Derived.Test.YtiohngbmddfgfaaFlPreds
namespace Go.Proofs.Ytiohngbmddfgfaa.L09
open Go.RowKit Api Mem Fl9

theorem made_as9 {w : World} {g : Nat} (hg : g = w.heap.size) (t : TypeId) (cs : List Value) : Own (w.alloc (.cells cs.toArray t)) g t cs := hg ▸ Own.made w t cs
theorem ints_lit {w : World} {hi b : Nat} {l : List Int} (o : Own w b 3 (iC l)) (hb : b < hi) (hl : l.length ≤ 1000) : Ints 0 hi w (.slice (some ⟨b, 0, none⟩) l.length l.length) l := by
  refine ⟨_, l.length, l.length, b, 0, rfl, rfl, ⟨by omega, Nat.le_refl _⟩, fun _ => ⟨rfl, Nat.zero_le _, hb⟩, fun i x hx => ⟨[i64 x], rfl, fun j u hj => ?_, rfl⟩⟩
  have hj2 := (List.getElem?_eq_some_iff.1 hj).1
  simp only [List.length_singleton] at hj2
  obtain rfl : j = 0 := by omega
  rw [show 0 + i * 1 + 0 = i by omega, o.cell, List.getElem?_map, hx]
  exact hj
theorem ints_none {w : World} {hi : Nat} : Ints 0 hi w (.slice none 0 0) [] := ⟨none, 0, 0, 0, 0, rfl, rfl, by omega, by omega, fun i x h => by simp at h⟩
theorem graph_none {w : World} {hi : Nat} : Graph 0 hi w (.slice none 0 0) [] := ⟨none, 0, 0, 0, 0, rfl, rfl, by omega, by omega, fun i x h => by simp at h⟩
theorem graph_lit {w : World} {hi b : Nat} {L : List (List Int)} {vs : List Value} (o : Own w b 31 vs) (hb : b < hi) (hl : L.length ≤ 1000) (hv : vs.length = L.length) (h : ∀ (i : Nat) (v : Value) (l : List Int), vs[i]? = some v → L[i]? = some l → Ints 0 hi w v l) : Graph 0 hi w (.slice (some ⟨b, 0, none⟩) L.length L.length) L := by
  refine ⟨_, L.length, L.length, b, 0, rfl, rfl, ⟨by omega, Nat.le_refl _⟩, fun _ => ⟨rfl, Nat.zero_le _, hb⟩, fun i l hx => ?_⟩
  have hi := (List.getElem?_eq_some_iff.1 hx).1
  obtain ⟨v, hvi⟩ : ∃ v, vs[i]? = some v := ⟨_, List.getElem?_eq_getElem (by omega)⟩
  refine ⟨[v], rfl, fun j u hj => ?_, v, rfl, h i v l hvi hx⟩
  have hj2 := (List.getElem?_eq_some_iff.1 hj).1
  simp only [List.length_singleton] at hj2
  obtain rfl : j = 0 := by omega
  rw [show 0 + i * 1 + 0 = i by omega, o.cell, hvi]
  exact hj
theorem still_up {lo hi hi' : Nat} {w w' : World} (hb : Below hi w w') (h : hi ≤ hi') : Still lo hi 0 hi' w w' := ⟨fun k _ hk => hb.block k hk, Nat.zero_le _, h⟩
theorem alloc_up (w : World) (o : Obj) : Below w.heap.size w (w.alloc o) := (Below.refl _ _).alloc (Nat.le_refl _) _
abbrev exG : List (List Int) := [[1, 2], [3], [3], []]
abbrev exP : List (List Int) := [[], [0], [0], [1, 2]]
theorem ex_order : orderV exG = [0, 2, 1, 3] := by decide
theorem ex_preds : predsV exG = exP := by decide
theorem ex_made (w : World) (W : World) (h : (((w.alloc (.cells #[i64 1, i64 2] 3)).alloc (.cells #[i64 3] 3)).alloc (.cells #[i64 3] 3)).alloc (.cells #[.slice (some ⟨w.heap.size, 0, none⟩) 2 2, .slice (some ⟨w.heap.size + 1, 0, none⟩) 1 1, .slice (some ⟨w.heap.size + 1 + 1, 0, none⟩) 1 1, .slice none 0 0] 31) = W) :
    Graph 0 W.heap.size W (.slice (some ⟨w.heap.size + 1 + 1 + 1, 0, none⟩) 4 4) exG ∧ Below w.heap.size w W ∧ W.heap.size = w.heap.size + 4 := by
  subst h
  have o1 := (((made_as9 (w := w) rfl 3 (iC [1, 2])).alloc (.cells #[i64 3] 3)).alloc (.cells #[i64 3] 3)).alloc (.cells #[.slice (some ⟨w.heap.size, 0, none⟩) 2 2, .slice (some ⟨w.heap.size + 1, 0, none⟩) 1 1, .slice (some ⟨w.heap.size + 1 + 1, 0, none⟩) 1 1, .slice none 0 0] 31)
  have o2 := ((made_as9 (w := (w.alloc (.cells #[i64 1, i64 2] 3))) (g := w.heap.size + 1) (by simp) 3 (iC [3])).alloc (.cells #[i64 3] 3)).alloc (.cells #[.slice (some ⟨w.heap.size, 0, none⟩) 2 2, .slice (some ⟨w.heap.size + 1, 0, none⟩) 1 1, .slice (some ⟨w.heap.size + 1 + 1, 0, none⟩) 1 1, .slice none 0 0] 31)
  have o3 := (made_as9 (w := ((w.alloc (.cells #[i64 1, i64 2] 3)).alloc (.cells #[i64 3] 3))) (g := w.heap.size + 1 + 1) (by simp) 3 (iC [3])).alloc (.cells #[.slice (some ⟨w.heap.size, 0, none⟩) 2 2, .slice (some ⟨w.heap.size + 1, 0, none⟩) 1 1, .slice (some ⟨w.heap.size + 1 + 1, 0, none⟩) 1 1, .slice none 0 0] 31)
  have o4 := made_as9 (w := (((w.alloc (.cells #[i64 1, i64 2] 3)).alloc (.cells #[i64 3] 3)).alloc (.cells #[i64 3] 3))) (g := w.heap.size + 1 + 1 + 1) (by simp) 31 [.slice (some ⟨w.heap.size, 0, none⟩) 2 2, .slice (some ⟨w.heap.size + 1, 0, none⟩) 1 1, .slice (some ⟨w.heap.size + 1 + 1, 0, none⟩) 1 1, .slice none 0 0]
  refine ⟨graph_lit (L := exG) o4 o4.lt (by decide) rfl fun i v l hv hl => ?_, ((((Below.refl _ _).alloc (Nat.le_refl _) _).alloc (by simp) _).alloc (by simp; omega) _).alloc (by simp; omega) _, by simp⟩
  match i, hv, hl with
  | 0, hv, hl => simp at hv hl; subst hv; subst hl; exact ints_lit (l := [1, 2]) o1 o1.lt (by decide)
  | 1, hv, hl => simp at hv hl; subst hv; subst hl; exact ints_lit (l := [3]) o2 o2.lt (by decide)
  | 2, hv, hl => simp at hv hl; subst hv; subst hl; exact ints_lit (l := [3]) o3 o3.lt (by decide)
  | 3, hv, hl => simp at hv hl; subst hv; subst hl; exact ints_none
  | i + 4, hv, _ => simp at hv
theorem ex_want (w : World) (W : World) (h : (((w.alloc (.cells #[i64 0] 3)).alloc (.cells #[i64 0] 3)).alloc (.cells #[i64 1, i64 2] 3)).alloc (.cells #[.slice none 0 0, .slice (some ⟨w.heap.size, 0, none⟩) 1 1, .slice (some ⟨w.heap.size + 1, 0, none⟩) 1 1, .slice (some ⟨w.heap.size + 1 + 1, 0, none⟩) 2 2] 31) = W) :
    Graph 0 W.heap.size W (.slice (some ⟨w.heap.size + 1 + 1 + 1, 0, none⟩) 4 4) exP ∧ Below w.heap.size w W ∧ W.heap.size = w.heap.size + 4 := by
  subst h
  have o1 := (((made_as9 (w := w) rfl 3 (iC [0])).alloc (.cells #[i64 0] 3)).alloc (.cells #[i64 1, i64 2] 3)).alloc (.cells #[.slice none 0 0, .slice (some ⟨w.heap.size, 0, none⟩) 1 1, .slice (some ⟨w.heap.size + 1, 0, none⟩) 1 1, .slice (some ⟨w.heap.size + 1 + 1, 0, none⟩) 2 2] 31)
  have o2 := ((made_as9 (w := (w.alloc (.cells #[i64 0] 3))) (g := w.heap.size + 1) (by simp) 3 (iC [0])).alloc (.cells #[i64 1, i64 2] 3)).alloc (.cells #[.slice none 0 0, .slice (some ⟨w.heap.size, 0, none⟩) 1 1, .slice (some ⟨w.heap.size + 1, 0, none⟩) 1 1, .slice (some ⟨w.heap.size + 1 + 1, 0, none⟩) 2 2] 31)
  have o3 := (made_as9 (w := ((w.alloc (.cells #[i64 0] 3)).alloc (.cells #[i64 0] 3))) (g := w.heap.size + 1 + 1) (by simp) 3 (iC [1, 2])).alloc (.cells #[.slice none 0 0, .slice (some ⟨w.heap.size, 0, none⟩) 1 1, .slice (some ⟨w.heap.size + 1, 0, none⟩) 1 1, .slice (some ⟨w.heap.size + 1 + 1, 0, none⟩) 2 2] 31)
  have o4 := made_as9 (w := (((w.alloc (.cells #[i64 0] 3)).alloc (.cells #[i64 0] 3)).alloc (.cells #[i64 1, i64 2] 3))) (g := w.heap.size + 1 + 1 + 1) (by simp) 31 [.slice none 0 0, .slice (some ⟨w.heap.size, 0, none⟩) 1 1, .slice (some ⟨w.heap.size + 1, 0, none⟩) 1 1, .slice (some ⟨w.heap.size + 1 + 1, 0, none⟩) 2 2]
  refine ⟨graph_lit (L := exP) o4 o4.lt (by decide) rfl fun i v l hv hl => ?_, ((((Below.refl _ _).alloc (Nat.le_refl _) _).alloc (by simp) _).alloc (by simp; omega) _).alloc (by simp; omega) _, by simp⟩
  match i, hv, hl with
  | 0, hv, hl => simp at hv hl; subst hv; subst hl; exact ints_none
  | 1, hv, hl => simp at hv hl; subst hv; subst hl; exact ints_lit (l := [0]) o1 o1.lt (by decide)
  | 2, hv, hl => simp at hv hl; subst hv; subst hl; exact ints_lit (l := [0]) o2 o2.lt (by decide)
  | 3, hv, hl => simp at hv hl; subst hv; subst hl; exact ints_lit (l := [1, 2]) o3 o3.lt (by decide)
  | i + 4, hv, _ => simp at hv
theorem yes9 {P : Program} {f : FuncId} {args : Array Value} {p : Prop} {w w0 : World} (h : Calls P f args w (BP9 p w0)) (hp : p) : Calls P f args w fun e w' => e = .returned (.bool true) ∧ Below w0.heap.size w0 w' := h.mono (by
  rintro e w' ⟨b, rfl, hb, hw⟩
  obtain rfl : b = true := hb.2 hp
  exact ⟨rfl, hw⟩)
theorem not9 {P : Program} {f : FuncId} {args : Array Value} {p : Prop} {w w0 : World} (h : Calls P f args w (BP9 p w0)) (hp : ¬ p) : Calls P f args w fun e w' => e = .returned (.bool false) ∧ Below w0.heap.size w0 w' := h.mono (by
  rintro e w' ⟨b, rfl, hb, hw⟩
  cases b with
  | false => exact ⟨rfl, hw⟩
  | true => exact absurd (hb.1 rfl) hp)
end Go.Proofs.Ytiohngbmddfgfaa.L09
