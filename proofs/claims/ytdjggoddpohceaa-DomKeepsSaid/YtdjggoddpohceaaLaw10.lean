/-
  The statements of layer 10: what they share.
-/
import Derived.Test.YtdjggoddpohceaaLaw09
import Derived.Test.YtdjggoddpohceaaDomE
namespace Go.Proofs.Ytdjggoddpohceaa.L10
open Go.RowKit Api Mem Fl9 Dm10 L09

abbrev rdG : List (List Int) := [[1], [1]]
abbrev exF : List (List Int) := [[], [3], [3], []]
abbrev rdF : List (List Int) := [[], [1]]
theorem ex_near : nearestV exG = [-1, 0, 0, 0] := by decide
theorem ex_front : frontV exG = exF := by decide
theorem rd_front : frontV rdG = rdF := by decide
theorem rd_made (w : World) (W : World) (b : Nat) (hb : b = w.heap.size) (h : ((w.alloc (.cells #[i64 1] 3)).alloc (.cells #[i64 1] 3)).alloc (.cells #[.slice (some ⟨b, 0, none⟩) 1 1, .slice (some ⟨b + 1, 0, none⟩) 1 1] 25) = W) :
    Graph 0 W.heap.size W (.slice (some ⟨b + 1 + 1, 0, none⟩) 2 2) rdG ∧ Below w.heap.size w W ∧ W.heap.size = w.heap.size + 3 := by
  subst hb
  subst h
  have o1 := ((made_as9 (w := w) rfl 3 (iC [1])).alloc (.cells #[i64 1] 3)).alloc (.cells #[.slice (some ⟨w.heap.size, 0, none⟩) 1 1, .slice (some ⟨w.heap.size + 1, 0, none⟩) 1 1] 25)
  have o2 := (made_as9 (w := (w.alloc (.cells #[i64 1] 3))) (g := w.heap.size + 1) (by simp) 3 (iC [1])).alloc (.cells #[.slice (some ⟨w.heap.size, 0, none⟩) 1 1, .slice (some ⟨w.heap.size + 1, 0, none⟩) 1 1] 25)
  have o4 := made_as9 (w := ((w.alloc (.cells #[i64 1] 3)).alloc (.cells #[i64 1] 3))) (g := w.heap.size + 1 + 1) (by simp) 25 [.slice (some ⟨w.heap.size, 0, none⟩) 1 1, .slice (some ⟨w.heap.size + 1, 0, none⟩) 1 1]
  refine ⟨graph_lit (L := rdG) o4 o4.lt (by decide) rfl fun i v l hv hl => ?_, (((Below.refl _ _).alloc (Nat.le_refl _) _).alloc (by simp) _).alloc (by simp; omega) _, by simp⟩
  match i, hv, hl with
  | 0, hv, hl => simp at hv hl; subst hv; subst hl; exact ints_lit (l := [1]) o1 o1.lt (by decide)
  | 1, hv, hl => simp at hv hl; subst hv; subst hl; exact ints_lit (l := [1]) o2 o2.lt (by decide)
  | i + 2, hv, _ => simp at hv
theorem exf_made (w : World) (W : World) (h : ((w.alloc (.cells #[i64 3] 3)).alloc (.cells #[i64 3] 3)).alloc (.cells #[.slice none 0 0, .slice (some ⟨w.heap.size, 0, none⟩) 1 1, .slice (some ⟨w.heap.size + 1, 0, none⟩) 1 1, .slice none 0 0] 25) = W) :
    Graph 0 W.heap.size W (.slice (some ⟨w.heap.size + 1 + 1, 0, none⟩) 4 4) exF ∧ Below w.heap.size w W := by
  subst h
  have o1 := ((made_as9 (w := w) rfl 3 (iC [3])).alloc (.cells #[i64 3] 3)).alloc (.cells #[.slice none 0 0, .slice (some ⟨w.heap.size, 0, none⟩) 1 1, .slice (some ⟨w.heap.size + 1, 0, none⟩) 1 1, .slice none 0 0] 25)
  have o2 := (made_as9 (w := (w.alloc (.cells #[i64 3] 3))) (g := w.heap.size + 1) (by simp) 3 (iC [3])).alloc (.cells #[.slice none 0 0, .slice (some ⟨w.heap.size, 0, none⟩) 1 1, .slice (some ⟨w.heap.size + 1, 0, none⟩) 1 1, .slice none 0 0] 25)
  have o4 := made_as9 (w := ((w.alloc (.cells #[i64 3] 3)).alloc (.cells #[i64 3] 3))) (g := w.heap.size + 1 + 1) (by simp) 25 [.slice none 0 0, .slice (some ⟨w.heap.size, 0, none⟩) 1 1, .slice (some ⟨w.heap.size + 1, 0, none⟩) 1 1, .slice none 0 0]
  refine ⟨graph_lit (L := exF) o4 o4.lt (by decide) rfl fun i v l hv hl => ?_, (((Below.refl _ _).alloc (Nat.le_refl _) _).alloc (by simp) _).alloc (by simp; omega) _⟩
  match i, hv, hl with
  | 0, hv, hl => simp at hv hl; subst hv; subst hl; exact ints_none
  | 1, hv, hl => simp at hv hl; subst hv; subst hl; exact ints_lit (l := [3]) o1 o1.lt (by decide)
  | 2, hv, hl => simp at hv hl; subst hv; subst hl; exact ints_lit (l := [3]) o2 o2.lt (by decide)
  | 3, hv, hl => simp at hv hl; subst hv; subst hl; exact ints_none
  | i + 4, hv, _ => simp at hv
theorem rdf_made (w : World) (W : World) (h : (w.alloc (.cells #[i64 1] 3)).alloc (.cells #[.slice none 0 0, .slice (some ⟨w.heap.size, 0, none⟩) 1 1] 25) = W) :
    Graph 0 W.heap.size W (.slice (some ⟨w.heap.size + 1, 0, none⟩) 2 2) rdF ∧ Below w.heap.size w W := by
  subst h
  have o1 := (made_as9 (w := w) rfl 3 (iC [1])).alloc (.cells #[.slice none 0 0, .slice (some ⟨w.heap.size, 0, none⟩) 1 1] 25)
  have o4 := made_as9 (w := (w.alloc (.cells #[i64 1] 3))) (g := w.heap.size + 1) (by simp) 25 [.slice none 0 0, .slice (some ⟨w.heap.size, 0, none⟩) 1 1]
  refine ⟨graph_lit (L := rdF) o4 o4.lt (by decide) rfl fun i v l hv hl => ?_, ((Below.refl _ _).alloc (Nat.le_refl _) _).alloc (by simp) _⟩
  match i, hv, hl with
  | 0, hv, hl => simp at hv hl; subst hv; subst hl; exact ints_none
  | 1, hv, hl => simp at hv hl; subst hv; subst hl; exact ints_lit (l := [1]) o1 o1.lt (by decide)
  | i + 2, hv, _ => simp at hv
set_option maxRecDepth 100000 in
set_option maxHeartbeats 16000000 in
theorem awake10_any (w : World) : Calls Try.prog 9 #[] w fun e w' => e = .returned (.bool true) ∧ Below w.heap.size w w' := by
  obtain ⟨W, hW⟩ : ∃ W, (((w.alloc (.cells #[i64 1, i64 2] 3)).alloc (.cells #[i64 3] 3)).alloc (.cells #[i64 3] 3)).alloc (.cells #[.slice (some ⟨w.heap.size, 0, none⟩) 2 2, .slice (some ⟨w.heap.size + 1, 0, none⟩) 1 1, .slice (some ⟨w.heap.size + 1 + 1, 0, none⟩) 1 1, .slice none 0 0] 25) = W := ⟨_, rfl⟩
  obtain ⟨h1, h2, h3⟩ := ex_made w W hW
  obtain ⟨V, hV⟩ : ∃ V, ((W.alloc (.cells #[i64 1] 3)).alloc (.cells #[i64 1] 3)).alloc (.cells #[.slice (some ⟨w.heap.size + 1 + 1 + 1 + 1, 0, none⟩) 1 1, .slice (some ⟨w.heap.size + 1 + 1 + 1 + 1 + 1, 0, none⟩) 1 1] 25) = V := ⟨_, rfl⟩
  obtain ⟨h4, h5, h6⟩ := rd_made W V (w.heap.size + 1 + 1 + 1 + 1) h3.symm hV
  have HG := Lib.hid (Graph.move (still_up h5 h5.size) h1)
  have HR := Lib.hid h4
  have HB := Lib.hid (h2.trans (h5.mono h2.size))
  have HV := Lib.hid (show ((((((w.alloc (.cells #[i64 1, i64 2] 3)).alloc (.cells #[i64 3] 3)).alloc (.cells #[i64 3] 3)).alloc (.cells #[.slice (some ⟨w.heap.size, 0, none⟩) 2 2, .slice (some ⟨w.heap.size + 1, 0, none⟩) 1 1, .slice (some ⟨w.heap.size + 1 + 1, 0, none⟩) 1 1, .slice none 0 0] 25)).alloc (.cells #[i64 1] 3)).alloc (.cells #[i64 1] 3)).alloc (.cells #[.slice (some ⟨w.heap.size + 1 + 1 + 1 + 1, 0, none⟩) 1 1, .slice (some ⟨w.heap.size + 1 + 1 + 1 + 1 + 1, 0, none⟩) 1 1] 25) = V by rw [hW]; exact hV)
  clear h1 h2 h3 hW h4 h5 h6 hV
  go_enter Try.func9, Try.ntmps9
  go_wp2_with fail
  rw [HV.out]
  refine (near_any _ _ _ _ exG HG.out (Nat.le_refl _) (by decide)).mono ?_
  rintro e w1 ⟨vo, rfl, ho, hb, _, _⟩
  rw [ex_near] at ho
  have HX1 := Lib.hid hb
  have HO := Lib.hid (ints_own ho (Nat.le_refl _) (by decide))
  clear ho hb
  go_wp2_with fail
  obtain ⟨W2, hW2⟩ : ∃ W, w1.alloc (.cells #[i64 (-1), i64 0, i64 0, i64 0] 3) = W := ⟨_, rfl⟩
  have HL := Lib.hid (show Ints 0 W2.heap.size W2 (.slice (some ⟨w1.heap.size, 0, none⟩) 4 4) [-1, 0, 0, 0] by rw [← hW2]; exact ints_lit (l := [-1, 0, 0, 0]) (made_as9 (w := w1) rfl 3 (iC [-1, 0, 0, 0])) (by simp) (by decide))
  have HU2 := Lib.hid (show Below w1.heap.size w1 W2 by rw [← hW2]; exact alloc_up w1 _)
  rw [hW2]
  clear hW2
  refine (yes9 (same_any 0 W2.heap.size W2 _ _ [-1, 0, 0, 0] [-1, 0, 0, 0] (Ints.move (still_up HU2.out HU2.out.size) HO.out) HL.out (Nat.le_refl _)) rfl).mono ?_
  rintro e w3 ⟨rfl, hb⟩
  have HX3 := Lib.hid (HX1.out.trans ((HU2.out.trans (hb.mono HU2.out.size)).mono HX1.out.size))
  clear hb
  go_wp2_with fail
  refine (front_any _ _ _ _ exG (Graph.move (Still.of_below HX3.out) HG.out) HX3.out.size (by decide)).mono ?_
  rintro e w4 ⟨vp, rfl, hp, hb⟩
  rw [ex_front] at hp
  have HX4 := Lib.hid (HX3.out.trans (hb.mono HX3.out.size))
  have HP := Lib.hid (hp.graph (Nat.le_refl _) (by decide) (by decide))
  clear hp hb
  go_wp2_with fail
  obtain ⟨W5, hW5⟩ : ∃ W, ((w4.alloc (.cells #[i64 3] 3)).alloc (.cells #[i64 3] 3)).alloc (.cells #[.slice none 0 0, .slice (some ⟨w4.heap.size, 0, none⟩) 1 1, .slice (some ⟨w4.heap.size + 1, 0, none⟩) 1 1, .slice none 0 0] 25) = W := ⟨_, rfl⟩
  obtain ⟨h1, h2⟩ := exf_made w4 W5 hW5
  have HL5 := Lib.hid h1
  have HU5 := Lib.hid h2
  rw [hW5]
  clear h1 h2 hW5
  refine (yes9 (lists_any 0 W5.heap.size W5 _ _ exF exF (Graph.move (still_up HU5.out HU5.out.size) HP.out) HL5.out (Nat.le_refl _)) rfl).mono ?_
  rintro e w6 ⟨rfl, hb⟩
  have HX6 := Lib.hid (HX4.out.trans ((HU5.out.trans (hb.mono HU5.out.size)).mono HX4.out.size))
  clear hb
  go_wp2_with fail
  refine (front_any _ _ _ _ rdG (Graph.move (Still.of_below HX6.out) HR.out) HX6.out.size (by decide)).mono ?_
  rintro e w7 ⟨vp7, rfl, hp, hb⟩
  rw [rd_front] at hp
  have HX7 := Lib.hid (HX6.out.trans (hb.mono HX6.out.size))
  have HP7 := Lib.hid (hp.graph (Nat.le_refl _) (by decide) (by decide))
  clear hp hb
  go_wp2_with fail
  obtain ⟨W8, hW8⟩ : ∃ W, (w7.alloc (.cells #[i64 1] 3)).alloc (.cells #[.slice none 0 0, .slice (some ⟨w7.heap.size, 0, none⟩) 1 1] 25) = W := ⟨_, rfl⟩
  obtain ⟨h1, h2⟩ := rdf_made w7 W8 hW8
  have HL8 := Lib.hid h1
  have HU8 := Lib.hid h2
  rw [hW8]
  clear h1 h2 hW8
  refine (yes9 (lists_any 0 W8.heap.size W8 _ _ rdF rdF (Graph.move (still_up HU8.out HU8.out.size) HP7.out) HL8.out (Nat.le_refl _)) rfl).mono ?_
  rintro e w9 ⟨rfl, hb⟩
  have HX9 := Lib.hid (HX7.out.trans ((HU8.out.trans (hb.mono HU8.out.size)).mono HX7.out.size))
  clear hb
  go_wp2_with fail
  refine (near_any _ _ _ _ exG (Graph.move (Still.of_below HX9.out) HG.out) HX9.out.size (by decide)).mono ?_
  rintro e w10 ⟨vo10, rfl, ho, hb, _, _⟩
  rw [ex_near] at ho
  have HX10 := Lib.hid (HX9.out.trans (hb.mono HX9.out.size))
  have HO10 := Lib.hid (ints_own ho (Nat.le_refl _) (by decide))
  clear ho hb
  go_wp2_with fail
  refine (dominates_any _ _ w10 _ [-1, 0, 0, 0] HO10.out (Nat.le_refl _) (by decide) 0 3).mono ?_
  rintro e w11 ⟨rfl, hb⟩
  rw [show dmV [-1, 0, 0, 0] 0 ([-1, 0, 0, 0] : List Int).length 3 = true by decide]
  have HX11 := Lib.hid (HX10.out.trans (hb.mono HX10.out.size))
  clear hb
  go_wp2_with fail
  refine (near_any _ _ _ _ exG (Graph.move (Still.of_below HX11.out) HG.out) HX11.out.size (by decide)).mono ?_
  rintro e w12 ⟨vo12, rfl, ho, hb, _, _⟩
  rw [ex_near] at ho
  have HX12 := Lib.hid (HX11.out.trans (hb.mono HX11.out.size))
  have HO12 := Lib.hid (ints_own ho (Nat.le_refl _) (by decide))
  clear ho hb
  go_wp2_with fail
  refine (dominates_any _ _ w12 _ [-1, 0, 0, 0] HO12.out (Nat.le_refl _) (by decide) 1 3).mono ?_
  rintro e w13 ⟨rfl, hb⟩
  rw [show dmV [-1, 0, 0, 0] 1 ([-1, 0, 0, 0] : List Int).length 3 = false by decide]
  have HX13 := Lib.hid (HX12.out.trans (hb.mono HX12.out.size))
  clear hb
  go_wp2_with fail
  go_ret
  exact ⟨rfl, HB.out.trans (HX13.out.mono HB.out.size)⟩
set_option maxRecDepth 100000 in
set_option maxHeartbeats 8000000 in
theorem few10_any (lo hi : Nat) (w : World) (v : Value) (g : List (List Int)) (hg : Graph lo hi w v g) (hh : hi ≤ w.heap.size) :
    Calls Try.prog 10 #[v] w (TP9 (FewG g 24) w) := by
  have QF := Lib.hid (fewG_any lo hi w v g hg hh 24)
  obtain ⟨A1, k1, rfl⟩ := Row.form hg
  clear hg
  go_enter Try.func10, Try.ntmps10
  go_wp2_with fail
  refine QF.out.mono ?_
  rintro e w2 ⟨b, rfl, hf, hb⟩
  have HF := Lib.hid hf
  have HB := Lib.hid hb
  clear hf hb
  go_wp2_with fail
  go_ret
  exact ⟨b, rfl, HF.out, HB.out⟩
end Go.Proofs.Ytdjggoddpohceaa.L10
