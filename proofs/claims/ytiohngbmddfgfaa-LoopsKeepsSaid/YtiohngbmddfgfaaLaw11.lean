/-
  The statements of layer 11: what they share.
-/
import Derived.Test.YtiohngbmddfgfaaLpBackL
namespace Go.Proofs.Ytiohngbmddfgfaa.L11
open Go.RowKit Api Mem Fl9 Dm10 Lp11 L09

abbrev g1 : List (List Int) := [[1], [2, 3], [1], []]
abbrev g2 : List (List Int) := [[1, 2], [2], [1]]
abbrev l1 : List LpT := [(1, [1, 2], [2])]
theorem g1_loops : loopsV g1 = l1 := by kernel_rfl
theorem g2_loops : loopsV g2 = [] := by kernel_rfl
theorem g2_cross : crossV g2 = true := by kernel_rfl
theorem g1_made (w : World) (W : World) (h : (((w.alloc (.cells #[i64 1] 3)).alloc (.cells #[i64 2, i64 3] 3)).alloc (.cells #[i64 1] 3)).alloc (.cells #[.slice (some ⟨w.heap.size, 0, none⟩) 1 1, .slice (some ⟨w.heap.size + 1, 0, none⟩) 2 2, .slice (some ⟨w.heap.size + 1 + 1, 0, none⟩) 1 1, .slice none 0 0] 31) = W) :
    Graph 0 W.heap.size W (.slice (some ⟨w.heap.size + 1 + 1 + 1, 0, none⟩) 4 4) g1 ∧ Below w.heap.size w W := by
  subst h
  have o1 := (((made_as9 (w := w) rfl 3 (iC [1])).alloc (.cells #[i64 2, i64 3] 3)).alloc (.cells #[i64 1] 3)).alloc (.cells #[.slice (some ⟨w.heap.size, 0, none⟩) 1 1, .slice (some ⟨w.heap.size + 1, 0, none⟩) 2 2, .slice (some ⟨w.heap.size + 1 + 1, 0, none⟩) 1 1, .slice none 0 0] 31)
  have o2 := ((made_as9 (w := (w.alloc (.cells #[i64 1] 3))) (g := w.heap.size + 1) (by simp) 3 (iC [2, 3])).alloc (.cells #[i64 1] 3)).alloc (.cells #[.slice (some ⟨w.heap.size, 0, none⟩) 1 1, .slice (some ⟨w.heap.size + 1, 0, none⟩) 2 2, .slice (some ⟨w.heap.size + 1 + 1, 0, none⟩) 1 1, .slice none 0 0] 31)
  have o3 := (made_as9 (w := ((w.alloc (.cells #[i64 1] 3)).alloc (.cells #[i64 2, i64 3] 3))) (g := w.heap.size + 1 + 1) (by simp) 3 (iC [1])).alloc (.cells #[.slice (some ⟨w.heap.size, 0, none⟩) 1 1, .slice (some ⟨w.heap.size + 1, 0, none⟩) 2 2, .slice (some ⟨w.heap.size + 1 + 1, 0, none⟩) 1 1, .slice none 0 0] 31)
  have o4 := made_as9 (w := (((w.alloc (.cells #[i64 1] 3)).alloc (.cells #[i64 2, i64 3] 3)).alloc (.cells #[i64 1] 3))) (g := w.heap.size + 1 + 1 + 1) (by simp) 31 [.slice (some ⟨w.heap.size, 0, none⟩) 1 1, .slice (some ⟨w.heap.size + 1, 0, none⟩) 2 2, .slice (some ⟨w.heap.size + 1 + 1, 0, none⟩) 1 1, .slice none 0 0]
  refine ⟨graph_lit (L := g1) o4 o4.lt (by decide) rfl fun i v l hv hl => ?_, ((((Below.refl _ _).alloc (Nat.le_refl _) _).alloc (by simp) _).alloc (by simp; omega) _).alloc (by simp; omega) _⟩
  match i, hv, hl with
  | 0, hv, hl => simp at hv hl; subst hv; subst hl; exact ints_lit (l := [1]) o1 o1.lt (by decide)
  | 1, hv, hl => simp at hv hl; subst hv; subst hl; exact ints_lit (l := [2, 3]) o2 o2.lt (by decide)
  | 2, hv, hl => simp at hv hl; subst hv; subst hl; exact ints_lit (l := [1]) o3 o3.lt (by decide)
  | 3, hv, hl => simp at hv hl; subst hv; subst hl; exact ints_none
  | i + 4, hv, _ => simp at hv
theorem g2_made (w : World) (W : World) (h : (((w.alloc (.cells #[i64 1, i64 2] 3)).alloc (.cells #[i64 2] 3)).alloc (.cells #[i64 1] 3)).alloc (.cells #[.slice (some ⟨w.heap.size, 0, none⟩) 2 2, .slice (some ⟨w.heap.size + 1, 0, none⟩) 1 1, .slice (some ⟨w.heap.size + 1 + 1, 0, none⟩) 1 1] 31) = W) :
    Graph 0 W.heap.size W (.slice (some ⟨w.heap.size + 1 + 1 + 1, 0, none⟩) 3 3) g2 ∧ Below w.heap.size w W := by
  subst h
  have o1 := (((made_as9 (w := w) rfl 3 (iC [1, 2])).alloc (.cells #[i64 2] 3)).alloc (.cells #[i64 1] 3)).alloc (.cells #[.slice (some ⟨w.heap.size, 0, none⟩) 2 2, .slice (some ⟨w.heap.size + 1, 0, none⟩) 1 1, .slice (some ⟨w.heap.size + 1 + 1, 0, none⟩) 1 1] 31)
  have o2 := ((made_as9 (w := (w.alloc (.cells #[i64 1, i64 2] 3))) (g := w.heap.size + 1) (by simp) 3 (iC [2])).alloc (.cells #[i64 1] 3)).alloc (.cells #[.slice (some ⟨w.heap.size, 0, none⟩) 2 2, .slice (some ⟨w.heap.size + 1, 0, none⟩) 1 1, .slice (some ⟨w.heap.size + 1 + 1, 0, none⟩) 1 1] 31)
  have o3 := (made_as9 (w := ((w.alloc (.cells #[i64 1, i64 2] 3)).alloc (.cells #[i64 2] 3))) (g := w.heap.size + 1 + 1) (by simp) 3 (iC [1])).alloc (.cells #[.slice (some ⟨w.heap.size, 0, none⟩) 2 2, .slice (some ⟨w.heap.size + 1, 0, none⟩) 1 1, .slice (some ⟨w.heap.size + 1 + 1, 0, none⟩) 1 1] 31)
  have o4 := made_as9 (w := (((w.alloc (.cells #[i64 1, i64 2] 3)).alloc (.cells #[i64 2] 3)).alloc (.cells #[i64 1] 3))) (g := w.heap.size + 1 + 1 + 1) (by simp) 31 [.slice (some ⟨w.heap.size, 0, none⟩) 2 2, .slice (some ⟨w.heap.size + 1, 0, none⟩) 1 1, .slice (some ⟨w.heap.size + 1 + 1, 0, none⟩) 1 1]
  refine ⟨graph_lit (L := g2) o4 o4.lt (by decide) rfl fun i v l hv hl => ?_, ((((Below.refl _ _).alloc (Nat.le_refl _) _).alloc (by simp) _).alloc (by simp; omega) _).alloc (by simp; omega) _⟩
  match i, hv, hl with
  | 0, hv, hl => simp at hv hl; subst hv; subst hl; exact ints_lit (l := [1, 2]) o1 o1.lt (by decide)
  | 1, hv, hl => simp at hv hl; subst hv; subst hl; exact ints_lit (l := [2]) o2 o2.lt (by decide)
  | 2, hv, hl => simp at hv hl; subst hv; subst hl; exact ints_lit (l := [1]) o3 o3.lt (by decide)
  | i + 3, hv, _ => simp at hv
theorem l1_made (w : World) (W : World) (h : ((w.alloc (.cells #[i64 1, i64 2] 3)).alloc (.cells #[i64 2] 3)).alloc (.cells #[i64 1, .slice (some ⟨w.heap.size, 0, none⟩) 2 2, .slice (some ⟨w.heap.size + 1, 0, none⟩) 1 1] 35) = W) :
    LRead 0 W.heap.size W (.slice (some ⟨w.heap.size + 1 + 1, 0, none⟩) 1 1) l1 ∧ Below w.heap.size w W := by
  subst h
  have o1 := ((made_as9 (w := w) rfl 3 (iC [1, 2])).alloc (.cells #[i64 2] 3)).alloc (.cells #[i64 1, .slice (some ⟨w.heap.size, 0, none⟩) 2 2, .slice (some ⟨w.heap.size + 1, 0, none⟩) 1 1] 35)
  have o2 := (made_as9 (w := (w.alloc (.cells #[i64 1, i64 2] 3))) (g := w.heap.size + 1) (by simp) 3 (iC [2])).alloc (.cells #[i64 1, .slice (some ⟨w.heap.size, 0, none⟩) 2 2, .slice (some ⟨w.heap.size + 1, 0, none⟩) 1 1] 35)
  have o4 := made_as9 (w := ((w.alloc (.cells #[i64 1, i64 2] 3)).alloc (.cells #[i64 2] 3))) (g := w.heap.size + 1 + 1) (by simp) 35 [i64 1, .slice (some ⟨w.heap.size, 0, none⟩) 2 2, .slice (some ⟨w.heap.size + 1, 0, none⟩) 1 1]
  refine ⟨lread_row (t := 35) (base := 0) (vs := [(.slice (some ⟨w.heap.size, 0, none⟩) 2 2, .slice (some ⟨w.heap.size + 1, 0, none⟩) 1 1)]) (L := l1) ⟨rfl, .inr ⟨w.heap.size + 1 + 1, 1, _, rfl, Nat.zero_le _, o4, Nat.le_refl _, by unfold maxLen; omega, rfl, rfl⟩⟩ rfl (Nat.le_refl _) (by decide) fun i p x hp hx => ?_, ((((Below.refl _ _).alloc (Nat.le_refl _) _).alloc (by simp) _).alloc (by simp; omega) _)⟩
  match i, hp, hx with
  | 0, hp, hx =>
    simp at hp hx
    subst hp; subst hx
    exact ⟨ints_lit (l := [1, 2]) o1 o1.lt (by decide), ints_lit (l := [2]) o2 o2.lt (by decide)⟩
  | i + 1, hp, _ => simp at hp
set_option maxRecDepth 100000 in
set_option maxHeartbeats 16000000 in
theorem awake11_any (w : World) : Calls Try.prog 5 #[] w fun e w' => e = .returned (.bool true) ∧ Below w.heap.size w w' := by
  obtain ⟨W, hW⟩ : ∃ W, (((w.alloc (.cells #[i64 1] 3)).alloc (.cells #[i64 2, i64 3] 3)).alloc (.cells #[i64 1] 3)).alloc (.cells #[.slice (some ⟨w.heap.size, 0, none⟩) 1 1, .slice (some ⟨w.heap.size + 1, 0, none⟩) 2 2, .slice (some ⟨w.heap.size + 1 + 1, 0, none⟩) 1 1, .slice none 0 0] 31) = W := ⟨_, rfl⟩
  obtain ⟨h1, h2⟩ := g1_made w W hW
  have HG := Lib.hid h1
  have HB := Lib.hid h2
  have HW := Lib.hid hW
  clear h1 h2 hW
  go_enter Try.func5, Try.ntmps5
  go_wp2_with fail
  rw [HW.out]
  refine (lall_any _ _ _ _ g1 HG.out (Nat.le_refl _) (by decide)).mono ?_
  rintro e w1 ⟨vl, rfl, ho, hb⟩
  rw [g1_loops] at ho
  have HX1 := Lib.hid (HB.out.trans (hb.mono HB.out.size))
  have HO := Lib.hid (ho.read (hi := w1.heap.size) (n := 2) (Nat.le_refl _) ⟨by decide, by decide⟩ (by decide))
  clear ho hb
  go_wp2_with fail
  obtain ⟨V, hV⟩ : ∃ W, (((w1.alloc (.cells #[i64 1, i64 2] 3)).alloc (.cells #[i64 2] 3)).alloc (.cells #[i64 1] 3)).alloc (.cells #[.slice (some ⟨w1.heap.size, 0, none⟩) 2 2, .slice (some ⟨w1.heap.size + 1, 0, none⟩) 1 1, .slice (some ⟨w1.heap.size + 1 + 1, 0, none⟩) 1 1] 31) = W := ⟨_, rfl⟩
  obtain ⟨h1, h2⟩ := g2_made w1 V hV
  have HG2 := Lib.hid h1
  have HXV := Lib.hid (HX1.out.trans (h2.mono HX1.out.size))
  have HO2 := Lib.hid (LRead.move (still_up h2 h2.size) HO.out)
  rw [hV]
  clear h1 h2 hV HO
  refine (back_any 0 V.heap.size V _ l1 HO2.out (Nat.le_refl _) (by decide)).mono ?_
  rintro e w2 ⟨vb, rfl, hr, hb⟩
  have HX2 := Lib.hid (HXV.out.trans (hb.mono HXV.out.size))
  have HR := Lib.hid hr
  have HG3 := Lib.hid (Graph.move (still_up hb hb.size) HG2.out)
  clear hr hb
  go_wp2_with fail
  obtain ⟨U, hU⟩ : ∃ W, ((w2.alloc (.cells #[i64 1, i64 2] 3)).alloc (.cells #[i64 2] 3)).alloc (.cells #[i64 1, .slice (some ⟨w2.heap.size, 0, none⟩) 2 2, .slice (some ⟨w2.heap.size + 1, 0, none⟩) 1 1] 35) = W := ⟨_, rfl⟩
  obtain ⟨h1, h2⟩ := l1_made w2 U hU
  have HL1 := Lib.hid h1
  have HXU := Lib.hid (HX2.out.trans (h2.mono HX2.out.size))
  have HR2 := Lib.hid (LRead.move (still_up h2 h2.size) HR.out)
  have HG4 := Lib.hid (Graph.move (still_up h2 h2.size) HG3.out)
  rw [hU]
  clear h1 h2 hU HR HG3
  refine (lsame_any 0 U.heap.size U _ _ l1 HR2.out HL1.out (Nat.le_refl _)).mono ?_
  rintro e w3 ⟨rfl, hb⟩
  have HX3 := Lib.hid (HXU.out.trans (hb.mono HXU.out.size))
  have HG5 := Lib.hid (Graph.move (still_up hb hb.size) HG4.out)
  clear hb HG4
  go_wp2_with fail
  refine (lcross_any 0 w3.heap.size w3 _ g2 HG5.out (Nat.le_refl _) (by decide)).mono ?_
  rintro e w4 ⟨rfl, hb⟩
  rw [g2_cross]
  have HX4 := Lib.hid (HX3.out.trans (hb.mono HX3.out.size))
  have HG6 := Lib.hid (Graph.move (still_up hb hb.size) HG5.out)
  clear hb HG5
  go_wp2_with fail
  refine (lall_any 0 w4.heap.size w4 _ g2 HG6.out (Nat.le_refl _) (by decide)).mono ?_
  rintro e w5 ⟨vq, rfl, hq, hb⟩
  rw [g2_loops] at hq
  have HX5 := Lib.hid (HX4.out.trans (hb.mono HX4.out.size))
  obtain ⟨Aq, cq, hvq⟩ : ∃ A c, vq = .slice A 0 c := by
    obtain ⟨vs, _, ha⟩ := hq
    obtain ⟨A, c, e⟩ := ha.head.form
    exact ⟨A, c, e⟩
  subst hvq
  clear hb hq
  go_wp2_with fail
  go_ret
  exact ⟨rfl, HX5.out⟩
end Go.Proofs.Ytiohngbmddfgfaa.L11
