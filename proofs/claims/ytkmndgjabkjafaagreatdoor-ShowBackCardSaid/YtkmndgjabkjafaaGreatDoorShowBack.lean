/-
  what is shown is read as the program that it was, and what is read is shown in one way. No condition.
-/
import Derived.Test.YtkmndgjabkjafaaGreatDoorEndT
import Derived.Test.YtkmndgjabkjafaaGreatDoorCallsS
import Derived.ProofKit
import Derived.OpenShut
import Derived.SizedLaws
import Derived.Test.YtkmndgjabkjafaaGreatDoorTie
import Derived.Test.YtkmndgjabkjafaaGreatDoorCards
import Derived.LaidMore
import Derived.Stop.Joined
import Derived.SevenTiedAt
namespace Go.Proofs.YtkmndgjabkjafaaGreatDoor.showBack
open Go.ChangeShapes Go.WideShapes Go.ChangeAt Go.RowKit
open Api Mem
set_option maxRecDepth 100000 in
set_option maxHeartbeats 16000000 in
theorem walk_nofew (p : Prog) (cs : List Value) {w : World} (hp : ProgC 0 w.heap.size w cs p) (hg : OpenP.progG p) (s : ByteArray) (hs : s.size ≤ 140737488351232) (hL : Rd5.LaidS w) (hfew : Few6.fewB 20000 p = false) :
    Calls Tryz.prog 6 #[.agg cs.toArray, .string s] w fun e w' => e = .returned (.bool true) ∧ Below w.heap.size w w' := by
  have hp0 := hp
  obtain ⟨u1, u2, u3, u4, rfl, k1, k2, k3, k4⟩ := hp
  obtain ⟨B1, c1, rfl⟩ := k1.form
  obtain ⟨B2, c2, rfl⟩ := k2.form
  obtain ⟨B3, c3, rfl⟩ := k3.form
  obtain ⟨B4, c4, rfl⟩ := k4.form
  obtain ⟨W, hW⟩ : ∃ W, w.alloc (.cells #[.bool p.ssa, .slice B1 p.classes.length c1, .slice B2 p.globals.length c2, .slice B3 p.externs.length c3, .slice B4 p.funcs.length c4] 27) = W := ⟨_, rfl⟩
  obtain ⟨oW, bW, zW⟩ := Sh6.boxed1 (c := [.bool p.ssa, .slice B1 p.classes.length c1, .slice B2 p.globals.length c2, .slice B3 p.externs.length c3, .slice B4 p.funcs.length c4]) hW
  have HW := Lib.hid hW
  have HO := Lib.hid oW
  have HBW := Lib.hid bW
  have HL := Lib.hid hL
  have HP := Lib.hid hp0
  have HS := Lib.hid hs
  have QA := Lib.hid fun w' (hb : Below w.heap.size w w') => L06.awake_any w' (hL.below hb (Nat.le_refl _))
  have QF := Lib.hid fun w' (hb : Below w.heap.size w w') => Few6.few_any 0 w.heap.size w' _ p (ProgC.move (Still.of_below hb) hp0) hb.size 20000 (by omega) (Cv6.prog_s hg)
  have HI := Lib.hid (Cv6.prog_i hg)
  have HE := Lib.hid (Cv6.prog_e hg)
  have HZ : Hid (w.heap.size < W.heap.size) := Lib.hid (by omega)
  clear hW oW bW zW hp0 k1 k2 k3 k4 hs
  go_enter Tryz.func6, Tryz.ntmps6
  go_wp2_with fail
  rw [HW.out]
  refine (QA.out W HBW.out).mono ?_
  rintro e w1 ⟨rfl, hb1⟩
  have hb1' := HBW.out.trans (hb1.mono HBW.out.size)
  have HB1 := Lib.hid hb1'
  have o1 := HO.out.below hb1 HZ.out
  have HO1 := Lib.hid o1
  have g0 := o1.cell 0
  have g1 := o1.cell 1
  have g2 := o1.cell 2
  have g3 := o1.cell 3
  have g4 := o1.cell 4
  simp only [List.getElem?_cons_succ, List.getElem?_cons_zero] at g0 g1 g2 g3 g4
  have QF1 := QF.out w1 hb1'
  clear hb1 hb1' o1
  rw [hfew] at QF1
  have HFEW := Lib.hid hfew
  clear hfew
  go_wp2_with fail
  refine QF1.mono ?_
  rintro e w2 ⟨rfl, hb2⟩
  have hb2' := HB1.out.trans (hb2.mono HB1.out.size)
  have HB2 := Lib.hid hb2'
  have o2 := HO1.out.below hb2 HO1.out.lt
  have HO2 := Lib.hid o2
  clear g0 g1 g2 g3 g4 QF1
  clear hb2 hb2' o2
  go_wp2_with fail
  refine (QA.out _ HB2.out).mono ?_
  rintro e w9 ⟨rfl, hb9⟩
  have HB9 := Lib.hid (HB2.out.trans (hb9.mono HB2.out.size))
  clear hb9
  go_wp2_with fail
  go_ret
  exact ⟨rfl, HB9.out⟩
set_option maxRecDepth 100000 in
set_option maxHeartbeats 16000000 in
theorem walk_long (p : Prog) (cs : List Value) {w : World} (hp : ProgC 0 w.heap.size w cs p) (hg : OpenP.progG p) (s : ByteArray) (hs : s.size ≤ 140737488351232) (hL : Rd5.LaidS w) (hfew : Few6.fewB 20000 p = true) (hl : 100000 < s.size) :
    Calls Tryz.prog 6 #[.agg cs.toArray, .string s] w fun e w' => e = .returned (.bool true) ∧ Below w.heap.size w w' := by
  have hp0 := hp
  obtain ⟨u1, u2, u3, u4, rfl, k1, k2, k3, k4⟩ := hp
  obtain ⟨B1, c1, rfl⟩ := k1.form
  obtain ⟨B2, c2, rfl⟩ := k2.form
  obtain ⟨B3, c3, rfl⟩ := k3.form
  obtain ⟨B4, c4, rfl⟩ := k4.form
  obtain ⟨W, hW⟩ : ∃ W, w.alloc (.cells #[.bool p.ssa, .slice B1 p.classes.length c1, .slice B2 p.globals.length c2, .slice B3 p.externs.length c3, .slice B4 p.funcs.length c4] 27) = W := ⟨_, rfl⟩
  obtain ⟨oW, bW, zW⟩ := Sh6.boxed1 (c := [.bool p.ssa, .slice B1 p.classes.length c1, .slice B2 p.globals.length c2, .slice B3 p.externs.length c3, .slice B4 p.funcs.length c4]) hW
  have HW := Lib.hid hW
  have HO := Lib.hid oW
  have HBW := Lib.hid bW
  have HL := Lib.hid hL
  have HP := Lib.hid hp0
  have HS := Lib.hid hs
  have QA := Lib.hid fun w' (hb : Below w.heap.size w w') => L06.awake_any w' (hL.below hb (Nat.le_refl _))
  have QF := Lib.hid fun w' (hb : Below w.heap.size w w') => Few6.few_any 0 w.heap.size w' _ p (ProgC.move (Still.of_below hb) hp0) hb.size 20000 (by omega) (Cv6.prog_s hg)
  have HI := Lib.hid (Cv6.prog_i hg)
  have HE := Lib.hid (Cv6.prog_e hg)
  have HZ : Hid (w.heap.size < W.heap.size) := Lib.hid (by omega)
  clear hW oW bW zW hp0 k1 k2 k3 k4 hs
  have e9 : decide ((100000 : Int) < (s.size : Int)) = true := decide_eq_true (by omega)
  go_enter Tryz.func6, Tryz.ntmps6
  go_wp2_with fail
  rw [HW.out]
  refine (QA.out W HBW.out).mono ?_
  rintro e w1 ⟨rfl, hb1⟩
  have hb1' := HBW.out.trans (hb1.mono HBW.out.size)
  have HB1 := Lib.hid hb1'
  have o1 := HO.out.below hb1 HZ.out
  have HO1 := Lib.hid o1
  have g0 := o1.cell 0
  have g1 := o1.cell 1
  have g2 := o1.cell 2
  have g3 := o1.cell 3
  have g4 := o1.cell 4
  simp only [List.getElem?_cons_succ, List.getElem?_cons_zero] at g0 g1 g2 g3 g4
  have QF1 := QF.out w1 hb1'
  clear hb1 hb1' o1
  rw [hfew] at QF1
  have HFEW := Lib.hid hfew
  clear hfew
  go_wp2_with fail
  refine QF1.mono ?_
  rintro e w2 ⟨rfl, hb2⟩
  have hb2' := HB1.out.trans (hb2.mono HB1.out.size)
  have HB2 := Lib.hid hb2'
  have o2 := HO1.out.below hb2 HO1.out.lt
  have HO2 := Lib.hid o2
  clear g0 g1 g2 g3 g4 QF1
  clear hb2 hb2' o2
  go_wp2_with fail
  refine (QA.out _ HB2.out).mono ?_
  rintro e w9 ⟨rfl, hb9⟩
  have HB9 := Lib.hid (HB2.out.trans (hb9.mono HB2.out.size))
  clear hb9
  go_wp2_with fail
  go_ret
  exact ⟨rfl, HB9.out⟩
set_option maxRecDepth 100000 in
set_option maxHeartbeats 16000000 in
theorem walk_main (p : Prog) (cs : List Value) {w : World} (hp : ProgC 0 w.heap.size w cs p) (hg : OpenP.progG p) (s : ByteArray) (hs : s.size ≤ 140737488351232) (hL : Rd5.LaidS w) (hfew : Few6.fewB 20000 p = true) (hl : ¬ 100000 < s.size) (hA : (∃ T, Rd5.textV p = (T, 0) ∧ Rd5.textE T = .ok p ∧ T.length ≤ 4194304) ∨ ∃ T er, Rd5.textV p = (T, er) ∧ er ≠ 0)
    (hB : (∃ kk why, Rd5.textE s.data.toList = .error (kk, why)) ∨ ∃ x U, Rd5.textE s.data.toList = .ok x ∧ Rd5.textV x = (U, 0) ∧ Rd5.textE U = .ok x ∧ U.length ≤ 4194304 ∧ (∀ f ∈ x.funcs, Sh6.Bd f) ∧ Rd5.progI x ∧ ∀ e ∈ x.externs, NumM.In e.n) :
    Calls Tryz.prog 6 #[.agg cs.toArray, .string s] w fun e w' => e = .returned (.bool true) ∧ Below w.heap.size w w' := by
  have hp0 := hp
  obtain ⟨u1, u2, u3, u4, rfl, k1, k2, k3, k4⟩ := hp
  obtain ⟨B1, c1, rfl⟩ := k1.form
  obtain ⟨B2, c2, rfl⟩ := k2.form
  obtain ⟨B3, c3, rfl⟩ := k3.form
  obtain ⟨B4, c4, rfl⟩ := k4.form
  obtain ⟨W, hW⟩ : ∃ W, w.alloc (.cells #[.bool p.ssa, .slice B1 p.classes.length c1, .slice B2 p.globals.length c2, .slice B3 p.externs.length c3, .slice B4 p.funcs.length c4] 27) = W := ⟨_, rfl⟩
  obtain ⟨oW, bW, zW⟩ := Sh6.boxed1 (c := [.bool p.ssa, .slice B1 p.classes.length c1, .slice B2 p.globals.length c2, .slice B3 p.externs.length c3, .slice B4 p.funcs.length c4]) hW
  have HW := Lib.hid hW
  have HO := Lib.hid oW
  have HBW := Lib.hid bW
  have HL := Lib.hid hL
  have HP := Lib.hid hp0
  have HS := Lib.hid hs
  have QA := Lib.hid fun w' (hb : Below w.heap.size w w') => L06.awake_any w' (hL.below hb (Nat.le_refl _))
  have QF := Lib.hid fun w' (hb : Below w.heap.size w w') => Few6.few_any 0 w.heap.size w' _ p (ProgC.move (Still.of_below hb) hp0) hb.size 20000 (by omega) (Cv6.prog_s hg)
  have HI := Lib.hid (Cv6.prog_i hg)
  have HE := Lib.hid (Cv6.prog_e hg)
  have HZ : Hid (w.heap.size < W.heap.size) := Lib.hid (by omega)
  clear hW oW bW zW hp0 k1 k2 k3 k4 hs
  have e9 : decide ((100000 : Int) < (s.size : Int)) = false := decide_eq_false (by omega)
  have HAA := Lib.hid hA
  have HBB := Lib.hid hB
  clear hl hA hB
  go_enter Tryz.func6, Tryz.ntmps6
  go_wp2_with fail
  rw [HW.out]
  refine (QA.out W HBW.out).mono ?_
  rintro e w1 ⟨rfl, hb1⟩
  have hb1' := HBW.out.trans (hb1.mono HBW.out.size)
  have HB1 := Lib.hid hb1'
  have o1 := HO.out.below hb1 HZ.out
  have HO1 := Lib.hid o1
  have g0 := o1.cell 0
  have g1 := o1.cell 1
  have g2 := o1.cell 2
  have g3 := o1.cell 3
  have g4 := o1.cell 4
  simp only [List.getElem?_cons_succ, List.getElem?_cons_zero] at g0 g1 g2 g3 g4
  have QF1 := QF.out w1 hb1'
  clear hb1 hb1' o1
  rw [hfew] at QF1
  have HFEW := Lib.hid hfew
  clear hfew
  go_wp2_with fail
  refine QF1.mono ?_
  rintro e w2 ⟨rfl, hb2⟩
  have hb2' := HB1.out.trans (hb2.mono HB1.out.size)
  have HB2 := Lib.hid hb2'
  have o2 := HO1.out.below hb2 HO1.out.lt
  have HO2 := Lib.hid o2
  clear g0 g1 g2 g3 g4 QF1
  have g0 := o2.cell 0
  have g1 := o2.cell 1
  have g2 := o2.cell 2
  have g3 := o2.cell 3
  have g4 := o2.cell 4
  simp only [List.getElem?_cons_succ, List.getElem?_cons_zero] at g0 g1 g2 g3 g4
  have QT := Sh6.text_any 0 w.heap.size w2 _ p (ProgC.move (Still.of_below hb2') HP.out) hb2'.size (HL.out.below hb2' (Nat.le_refl _)) (Cv6.bd_few HFEW.out) HI.out HE.out
  clear hb2 hb2' o2
  rcases HAA.out with ⟨T, hT, hTE, hTl⟩ | ⟨T, er, hT, her⟩
  · rw [hT] at QT
    go_wp2_with fail
    refine QT.mono ?_
    rintro e w3 ⟨rfl, hb3⟩
    have HB3 := Lib.hid (HB2.out.trans (hb3.mono HB2.out.size))
    have HO3 := Lib.hid (HO2.out.below hb3 HO2.out.lt)
    clear hb3 QT g0 g1 g2 g3 g4
    have HTE := Lib.hid hTE
    have HTL := Lib.hid hTl
    clear hTE hTl
    have QP := Rd5.pars_any ⟨T.toArray⟩ w3 (by have := HTL.out; unfold maxLen; show T.toArray.size ≤ _; simp; omega) (HL.out.below HB3.out (Nat.le_refl _))
    rw [show (⟨T.toArray⟩ : ByteArray).data.toList = T from rfl, HTE.out] at QP
    go_wp2_with fail
    refine QP.mono ?_
    rintro e w4 hP4
    obtain ⟨cs4, rfl, hq4, hb4⟩ := Rd5.parsP_ok hP4 rfl
    have HQ4 := Lib.hid hq4
    have HB4 := Lib.hid (HB3.out.trans (hb4.mono HB3.out.size))
    have HO4 := Lib.hid (HO3.out.below hb4 HO3.out.lt)
    obtain ⟨v1, v2, v3, v4, rfl, l1, l2, l3, l4⟩ := hq4
    obtain ⟨D1, d1, rfl⟩ := l1.form
    obtain ⟨D2, d2, rfl⟩ := l2.form
    obtain ⟨D3, d3, rfl⟩ := l3.form
    obtain ⟨D4, d4, rfl⟩ := l4.form
    clear hb4 hP4 QP l1 l2 l3 l4
    have g0 := HO4.out.cell 0
    have g1 := HO4.out.cell 1
    have g2 := HO4.out.cell 2
    have g3 := HO4.out.cell 3
    have g4 := HO4.out.cell 4
    simp only [List.getElem?_cons_succ, List.getElem?_cons_zero] at g0 g1 g2 g3 g4
    have hsz4 : w.heap.size < w4.heap.size := HO4.out.lt
    obtain ⟨W5, hW5⟩ : ∃ W5, w4.alloc (.cells #[.bool p.ssa, .slice D1 p.classes.length d1, .slice D2 p.globals.length d2, .slice D3 p.externs.length d3, .slice D4 p.funcs.length d4] 27) = W5 := ⟨_, rfl⟩
    have hb5 : Below w4.heap.size w4 W5 := by rw [← hW5]; exact (Below.refl _ _).alloc (Nat.le_refl _) _
    have HB5 := Lib.hid (HB4.out.trans (hb5.mono HB4.out.size))
    have QS := R06.same_any 0 w.heap.size w3.heap.size w4.heap.size W5 _ _ p (ProgC.move (Still.of_below HB5.out) HP.out) (ProgC.move (Still.of_below hb5) HQ4.out) HB5.out.size hb5.size
    have HW5 := Lib.hid hW5
    clear hb5 hW5
    go_wp2_with fail
    rw [HW5.out]
    refine QS.mono ?_
    rintro e w6 ⟨rfl, hb6⟩
    have HB6 := Lib.hid (HB5.out.trans (hb6.mono HB5.out.size))
    clear hb6 QS g0 g1 g2 g3 g4 hsz4
    rcases HBB.out with ⟨kk, why, hX⟩ | ⟨x, U, hX, hU, hUE, hUl, hBx, hIx, hEx⟩
    · have QX := Rd5.pars_any s w6 (by have := HS.out; unfold maxLen; omega) (HL.out.below HB6.out (Nat.le_refl _))
      rw [hX] at QX
      have HX := Lib.hid hX
      clear hX
      go_wp2_with fail
      refine QX.mono ?_
      rintro e w7 hP7
      obtain ⟨rfl, hb7⟩ := Rd5.parsP_err hP7 rfl
      have HB7 := Lib.hid (HB6.out.trans (hb7.mono HB6.out.size))
      have e8 : (why != 0) = true := by
        have := Rd5.textE_errs HX.out
        simpa using this
      clear hP7 hb7 QX
      go_wp2_with fail
      go_ret
      exact ⟨rfl, HB7.out.alloc HB7.out.size _⟩
    · have QX := Rd5.pars_any s w6 (by have := HS.out; unfold maxLen; omega) (HL.out.below HB6.out (Nat.le_refl _))
      rw [hX] at QX
      have HX := Lib.hid hX
      clear hX
      go_wp2_with fail
      refine QX.mono ?_
      rintro e w7 hP7
      obtain ⟨csx, rfl, hx7, hb7⟩ := Rd5.parsP_ok hP7 rfl
      have HX7 := Lib.hid hx7
      have HB7 := Lib.hid (HB6.out.trans (hb7.mono HB6.out.size))
      obtain ⟨v1', v2', v3', v4', rfl, l1, l2, l3, l4⟩ := hx7
      obtain ⟨E1, e1, rfl⟩ := l1.form
      obtain ⟨E2, e2, rfl⟩ := l2.form
      obtain ⟨E3, e3, rfl⟩ := l3.form
      obtain ⟨E4, e4, rfl⟩ := l4.form
      have H67 := Lib.hid hb7.size
      obtain ⟨W7, hW7⟩ : ∃ W7, w7.alloc (.cells #[.bool x.ssa, .slice E1 x.classes.length e1, .slice E2 x.globals.length e2, .slice E3 x.externs.length e3, .slice E4 x.funcs.length e4] 27) = W7 := ⟨_, rfl⟩
      obtain ⟨ox, bx, zx⟩ := Sh6.boxed1 (c := [.bool x.ssa, .slice E1 x.classes.length e1, .slice E2 x.globals.length e2, .slice E3 x.externs.length e3, .slice E4 x.funcs.length e4]) hW7
      have HOX := Lib.hid ox
      have HBX := Lib.hid bx
      have HW7 := Lib.hid hW7
      have HB7' := Lib.hid (HB7.out.trans (bx.mono HB7.out.size))
      have hxW := ProgC.move (Still.of_below bx) HX7.out
      have QT7 := Sh6.text_any w6.heap.size w7.heap.size W7 _ x hxW bx.size (HL.out.below HB7'.out (Nat.le_refl _)) hBx hIx hEx
      rw [hU] at QT7
      clear hb7 hP7 QX l1 l2 l3 l4 hW7 bx
      go_wp2_with fail
      rw [HW7.out]
      refine QT7.mono ?_
      rintro e w8 ⟨rfl, hb8⟩
      have HB8 := Lib.hid (HB7'.out.trans (hb8.mono HB7'.out.size))
      have HXB8 := Lib.hid (HBX.out.trans (hb8.mono HBX.out.size))
      have HOX8 := Lib.hid (HOX.out.below hb8 HOX.out.lt)
      have QP8 := Rd5.pars_any ⟨U.toArray⟩ w8 (by unfold maxLen; show U.toArray.size ≤ _; simp; omega) (HL.out.below HB8.out (Nat.le_refl _))
      rw [show (⟨U.toArray⟩ : ByteArray).data.toList = U from rfl, hUE] at QP8
      clear hb8 QT7 hxW ox
      go_wp2_with fail
      refine QP8.mono ?_
      rintro e w9 hP9
      obtain ⟨csy, rfl, hy9, hb9⟩ := Rd5.parsP_ok hP9 rfl
      have HY9 := Lib.hid hy9
      have HB9 := Lib.hid (HB8.out.trans (hb9.mono HB8.out.size))
      have HXB9 := Lib.hid (HXB8.out.trans (hb9.mono HXB8.out.size))
      have HOX9 := Lib.hid (HOX8.out.below hb9 HOX8.out.lt)
      obtain ⟨v1'', v2'', v3'', v4'', rfl, l1, l2, l3, l4⟩ := hy9
      obtain ⟨G1, i1, rfl⟩ := l1.form
      obtain ⟨G2, i2, rfl⟩ := l2.form
      obtain ⟨G3, i3, rfl⟩ := l3.form
      obtain ⟨G4, i4, rfl⟩ := l4.form
      obtain ⟨W9, hW9⟩ : ∃ W9, w9.alloc (.cells #[.bool x.ssa, .slice G1 x.classes.length i1, .slice G2 x.globals.length i2, .slice G3 x.externs.length i3, .slice G4 x.funcs.length i4] 27) = W9 := ⟨_, rfl⟩
      obtain ⟨oy, bY, zy⟩ := Sh6.boxed1 (c := [.bool x.ssa, .slice G1 x.classes.length i1, .slice G2 x.globals.length i2, .slice G3 x.externs.length i3, .slice G4 x.funcs.length i4]) hW9
      have HOY := Lib.hid oy
      have HBY := Lib.hid bY
      have HW9 := Lib.hid hW9
      have HB9' := Lib.hid (HB9.out.trans (bY.mono HB9.out.size))
      have HXB9' := Lib.hid (HXB9.out.trans (bY.mono HXB9.out.size))
      have HOX9' := Lib.hid (HOX9.out.below bY HOX9.out.lt)
      have hyW := ProgC.move (Still.of_below bY) HY9.out
      have QT9 := Sh6.text_any w8.heap.size w9.heap.size W9 _ x hyW bY.size (HL.out.below HB9'.out (Nat.le_refl _)) hBx hIx hEx
      rw [hU] at QT9
      clear hb9 hP9 QP8 l1 l2 l3 l4 hW9 bY hyW oy
      go_wp2_with fail
      rw [HW9.out]
      refine QT9.mono ?_
      rintro e w10 ⟨rfl, hb10⟩
      have HB10 := Lib.hid (HB9'.out.trans (hb10.mono HB9'.out.size))
      have HXB10 := Lib.hid (HXB9'.out.trans (hb10.mono HXB9'.out.size))
      have HYB10 := Lib.hid (HBY.out.trans (hb10.mono HBY.out.size))
      have ox10 := HOX9'.out.below hb10 HOX9'.out.lt
      have oy10 := HOY.out.below hb10 HOY.out.lt
      have g0 := ox10.cell 0
      have g1 := ox10.cell 1
      have g2 := ox10.cell 2
      have g3 := ox10.cell 3
      have g4 := ox10.cell 4
      have k0 := oy10.cell 0
      have k1 := oy10.cell 1
      have k2 := oy10.cell 2
      have k3 := oy10.cell 3
      have k4 := oy10.cell 4
      simp only [List.getElem?_cons_succ, List.getElem?_cons_zero] at g0 g1 g2 g3 g4 k0 k1 k2 k3 k4
      have QS10 := R06.same_any w6.heap.size w7.heap.size w8.heap.size w9.heap.size w10 _ _ x (ProgC.move (Still.of_below HXB10.out) HX7.out) (ProgC.move (Still.of_below HYB10.out) HY9.out) HXB10.out.size HYB10.out.size
      clear hb10 QT9 ox10 oy10
      go_wp2_with fail
      refine QS10.mono ?_
      rintro e w11 ⟨rfl, hb11⟩
      have HB11 := Lib.hid (HB10.out.trans (hb11.mono HB10.out.size))
      clear hb11 QS10 g0 g1 g2 g3 g4 k0 k1 k2 k3 k4
      have hee : ((⟨U.toArray⟩ : ByteArray).toList == (⟨U.toArray⟩ : ByteArray).toList) = true := by simp
      go_wp2_with fail
      go_ret
      exact ⟨rfl, HB11.out⟩
  · have e10 : (er == 0) = false := beq_false_of_ne her
    clear her
    rw [hT] at QT
    go_wp2_with fail
    refine QT.mono ?_
    rintro e w3 ⟨rfl, hb3⟩
    have HB3 := Lib.hid (HB2.out.trans (hb3.mono HB2.out.size))
    have HO3 := Lib.hid (HO2.out.below hb3 HO2.out.lt)
    clear hb3 QT g0 g1 g2 g3 g4
    rcases HBB.out with ⟨kk, why, hX⟩ | ⟨x, U, hX, hU, hUE, hUl, hBx, hIx, hEx⟩
    · have QX := Rd5.pars_any s w3 (by have := HS.out; unfold maxLen; omega) (HL.out.below HB3.out (Nat.le_refl _))
      rw [hX] at QX
      have HX := Lib.hid hX
      clear hX
      go_wp2_with fail
      refine QX.mono ?_
      rintro e w7 hP7
      obtain ⟨rfl, hb7⟩ := Rd5.parsP_err hP7 rfl
      have HB7 := Lib.hid (HB3.out.trans (hb7.mono HB3.out.size))
      have e8 : (why != 0) = true := by
        have := Rd5.textE_errs HX.out
        simpa using this
      clear hP7 hb7 QX
      go_wp2_with fail
      go_ret
      exact ⟨rfl, HB7.out.alloc HB7.out.size _⟩
    · have QX := Rd5.pars_any s w3 (by have := HS.out; unfold maxLen; omega) (HL.out.below HB3.out (Nat.le_refl _))
      rw [hX] at QX
      have HX := Lib.hid hX
      clear hX
      go_wp2_with fail
      refine QX.mono ?_
      rintro e w7 hP7
      obtain ⟨csx, rfl, hx7, hb7⟩ := Rd5.parsP_ok hP7 rfl
      have HX7 := Lib.hid hx7
      have HB7 := Lib.hid (HB3.out.trans (hb7.mono HB3.out.size))
      obtain ⟨v1', v2', v3', v4', rfl, l1, l2, l3, l4⟩ := hx7
      obtain ⟨E1, e1, rfl⟩ := l1.form
      obtain ⟨E2, e2, rfl⟩ := l2.form
      obtain ⟨E3, e3, rfl⟩ := l3.form
      obtain ⟨E4, e4, rfl⟩ := l4.form
      have H67 := Lib.hid hb7.size
      obtain ⟨W7, hW7⟩ : ∃ W7, w7.alloc (.cells #[.bool x.ssa, .slice E1 x.classes.length e1, .slice E2 x.globals.length e2, .slice E3 x.externs.length e3, .slice E4 x.funcs.length e4] 27) = W7 := ⟨_, rfl⟩
      obtain ⟨ox, bx, zx⟩ := Sh6.boxed1 (c := [.bool x.ssa, .slice E1 x.classes.length e1, .slice E2 x.globals.length e2, .slice E3 x.externs.length e3, .slice E4 x.funcs.length e4]) hW7
      have HOX := Lib.hid ox
      have HBX := Lib.hid bx
      have HW7 := Lib.hid hW7
      have HB7' := Lib.hid (HB7.out.trans (bx.mono HB7.out.size))
      have hxW := ProgC.move (Still.of_below bx) HX7.out
      have QT7 := Sh6.text_any w3.heap.size w7.heap.size W7 _ x hxW bx.size (HL.out.below HB7'.out (Nat.le_refl _)) hBx hIx hEx
      rw [hU] at QT7
      clear hb7 hP7 QX l1 l2 l3 l4 hW7 bx
      go_wp2_with fail
      rw [HW7.out]
      refine QT7.mono ?_
      rintro e w8 ⟨rfl, hb8⟩
      have HB8 := Lib.hid (HB7'.out.trans (hb8.mono HB7'.out.size))
      have HXB8 := Lib.hid (HBX.out.trans (hb8.mono HBX.out.size))
      have HOX8 := Lib.hid (HOX.out.below hb8 HOX.out.lt)
      have QP8 := Rd5.pars_any ⟨U.toArray⟩ w8 (by unfold maxLen; show U.toArray.size ≤ _; simp; omega) (HL.out.below HB8.out (Nat.le_refl _))
      rw [show (⟨U.toArray⟩ : ByteArray).data.toList = U from rfl, hUE] at QP8
      clear hb8 QT7 hxW ox
      go_wp2_with fail
      refine QP8.mono ?_
      rintro e w9 hP9
      obtain ⟨csy, rfl, hy9, hb9⟩ := Rd5.parsP_ok hP9 rfl
      have HY9 := Lib.hid hy9
      have HB9 := Lib.hid (HB8.out.trans (hb9.mono HB8.out.size))
      have HXB9 := Lib.hid (HXB8.out.trans (hb9.mono HXB8.out.size))
      have HOX9 := Lib.hid (HOX8.out.below hb9 HOX8.out.lt)
      obtain ⟨v1'', v2'', v3'', v4'', rfl, l1, l2, l3, l4⟩ := hy9
      obtain ⟨G1, i1, rfl⟩ := l1.form
      obtain ⟨G2, i2, rfl⟩ := l2.form
      obtain ⟨G3, i3, rfl⟩ := l3.form
      obtain ⟨G4, i4, rfl⟩ := l4.form
      obtain ⟨W9, hW9⟩ : ∃ W9, w9.alloc (.cells #[.bool x.ssa, .slice G1 x.classes.length i1, .slice G2 x.globals.length i2, .slice G3 x.externs.length i3, .slice G4 x.funcs.length i4] 27) = W9 := ⟨_, rfl⟩
      obtain ⟨oy, bY, zy⟩ := Sh6.boxed1 (c := [.bool x.ssa, .slice G1 x.classes.length i1, .slice G2 x.globals.length i2, .slice G3 x.externs.length i3, .slice G4 x.funcs.length i4]) hW9
      have HOY := Lib.hid oy
      have HBY := Lib.hid bY
      have HW9 := Lib.hid hW9
      have HB9' := Lib.hid (HB9.out.trans (bY.mono HB9.out.size))
      have HXB9' := Lib.hid (HXB9.out.trans (bY.mono HXB9.out.size))
      have HOX9' := Lib.hid (HOX9.out.below bY HOX9.out.lt)
      have hyW := ProgC.move (Still.of_below bY) HY9.out
      have QT9 := Sh6.text_any w8.heap.size w9.heap.size W9 _ x hyW bY.size (HL.out.below HB9'.out (Nat.le_refl _)) hBx hIx hEx
      rw [hU] at QT9
      clear hb9 hP9 QP8 l1 l2 l3 l4 hW9 bY hyW oy
      go_wp2_with fail
      rw [HW9.out]
      refine QT9.mono ?_
      rintro e w10 ⟨rfl, hb10⟩
      have HB10 := Lib.hid (HB9'.out.trans (hb10.mono HB9'.out.size))
      have HXB10 := Lib.hid (HXB9'.out.trans (hb10.mono HXB9'.out.size))
      have HYB10 := Lib.hid (HBY.out.trans (hb10.mono HBY.out.size))
      have ox10 := HOX9'.out.below hb10 HOX9'.out.lt
      have oy10 := HOY.out.below hb10 HOY.out.lt
      have g0 := ox10.cell 0
      have g1 := ox10.cell 1
      have g2 := ox10.cell 2
      have g3 := ox10.cell 3
      have g4 := ox10.cell 4
      have k0 := oy10.cell 0
      have k1 := oy10.cell 1
      have k2 := oy10.cell 2
      have k3 := oy10.cell 3
      have k4 := oy10.cell 4
      simp only [List.getElem?_cons_succ, List.getElem?_cons_zero] at g0 g1 g2 g3 g4 k0 k1 k2 k3 k4
      have QS10 := R06.same_any w3.heap.size w7.heap.size w8.heap.size w9.heap.size w10 _ _ x (ProgC.move (Still.of_below HXB10.out) HX7.out) (ProgC.move (Still.of_below HYB10.out) HY9.out) HXB10.out.size HYB10.out.size
      clear hb10 QT9 ox10 oy10
      go_wp2_with fail
      refine QS10.mono ?_
      rintro e w11 ⟨rfl, hb11⟩
      have HB11 := Lib.hid (HB10.out.trans (hb11.mono HB10.out.size))
      clear hb11 QS10 g0 g1 g2 g3 g4 k0 k1 k2 k3 k4
      have hee : ((⟨U.toArray⟩ : ByteArray).toList == (⟨U.toArray⟩ : ByteArray).toList) = true := by simp
      go_wp2_with fail
      go_ret
      exact ⟨rfl, HB11.out⟩
theorem walk (v : Value) (xs : Prog × List Value) (s : ByteArray) {w : World} (h : v = .agg xs.2.toArray ∧ ProgC 0 w.heap.size w xs.2 xs.1 ∧ OpenP.progG xs.1) (hs : s.size ≤ 140737488351232) (hL : Rd5.LaidS w) :
    Calls Tryz.prog 6 #[v, .string s] w fun e w' => e = .returned (.bool true) ∧ Below w.heap.size w w' := by
  obtain ⟨rfl, hp, hg⟩ := h
  obtain ⟨p, cs⟩ := xs
  simp only at hp hg ⊢
  rcases hfew : Few6.fewB 20000 p with _ | _
  · exact walk_nofew p cs hp hg s hs hL hfew
  by_cases hl : 100000 < s.size
  · exact walk_long p cs hp hg s hs hL hfew hl
  have hA : (∃ T, Rd5.textV p = (T, 0) ∧ Rd5.textE T = .ok p ∧ T.length ≤ 4194304) ∨ ∃ T er, Rd5.textV p = (T, er) ∧ er ≠ 0 := by
    unfold Rd5.textV
    rcases hR : Rd5.progR p with _ | _
    · exact .inr ⟨_, _, rfl, by omega⟩
    · by_cases hw : Rd5.wp p ≤ 4194304
      · rw [if_pos rfl, if_pos hw]
        exact .inl ⟨_, rfl, Rd5.text_there hR (Cv6.prog_i hg) hw, by rw [Rd5.join_wp]; exact hw⟩
      · rw [if_pos rfl, if_neg hw]
        exact .inr ⟨_, _, rfl, by omega⟩
  refine walk_main p cs hp hg s hs hL hfew hl hA ?_
  rcases hX : Rd5.textE s.data.toList with ⟨kk, why⟩ | x
  · exact .inl ⟨kk, why, rfl⟩
  · obtain ⟨r1, r2, r3⟩ := Rd5.text_here hX
    have hsz : s.data.toList.length = s.size := by rw [Array.length_toList]; rfl
    have hw : Rd5.wp x ≤ 4194304 := by omega
    exact .inr ⟨x, LinesM.joinV (Rd5.progLs x), rfl, by unfold Rd5.textV; rw [if_pos r1, if_pos hw], Rd5.text_there r1 r2 hw, by rw [Rd5.join_wp]; exact hw, Cv6.bd_right r1, r2, Cv6.ext_right r1⟩

abbrev laids {H : Type} : List (String × DataW H) := [("lateen/syntax.words", Rows.laid_lateen_syntax_words)]
theorem door_met (os : Os) (args : Array Value) : laidMetH Tryz.prog laids ((World.doorLaid Tryz.prog 400 os).forCall (fun _ _ => 0) ⟨#[], args, []⟩).memory :=
  laidMetH_of_parts3 (fuel := 8) (laidMet_of_run' 8 (by kernel_rfl) (by kernel_rfl)) (by kernel_rfl) (by kernel_rfl)

set_option maxRecDepth 100000 in
theorem lifted (os : Os) (started : os.Started) (H : Type) (enc : TypeId × Value → H) :
    ReturnsInHanded {} Tryz.checked os 6 .any (fun w args => (Rows.showBackSpec.pre enc Tryz.prog Tryz.f6 [] false w args ∧ laidMetH Tryz.prog laids w) ∧ sizedMet enc Tryz.prog Tryz.f6 (OpenSpec.ofChange Rows.showBackSpec) false w args)
      (Rows.showBackSpec.post enc Tryz.prog Tryz.f6 false true false false) := by
  refine returnsInHanded_of_change_and (C := Tryz.checked) (X := fun w _ => laidMetH Tryz.prog laids w) (fun _ _ _ hh h => h.of_heap hh) (by kernel_rfl) started (by kernel_rfl) Tryz.func6
    (ChangeSpec.witness_shaped (enc := enc) (C := Tryz.checked) (os := os) (X := fun w _ => laidMetH Tryz.prog laids w) false (World.doorLaid Tryz.prog 400 os) #[.agg #[.bool false, .slice none 0 0, .slice none 0 0, .slice none 0 0, .slice none 0 0], .string ⟨#[]⟩] 8 rfl (World.shaped_of_RefB (by kernel_rfl) (by kernel_rfl)) (by kernel_rfl) (by kernel_rfl) (by kernel_rfl) (door_met os _)) ?_
  intro W base args ds gs before hval0 hW _ hsz0 hL0 _
  have hval : ∀ (j : Nat) t v, Tryz.f6.params[j]? = some t → args[j]? = some v → Value.okWide Tryz.prog W .any base t v := hval0
  have hW' := hW
  obtain ⟨p, q, hA0, hV, rfl, hfz, hnd⟩ := hW
  have hsz : (DataW.weightsEach Tryz.prog (Tryz.f6.params.toList ++ Rows.showBackSpec.plain.varTypes Tryz.prog) (ds ++ gs)).all (· ≤ reachBytes) = true := hsz0
  have hA : DataW.TrodAll enc Tryz.prog W 0 (fun _ => true) true Tryz.f6.params.toList args.toList ds p := hA0
  rw [Tryz.params6] at hA hval hsz
  obtain ⟨v0, vs0, d0, ds0, p0, q0, hargs, rfl, rfl, h0, r0⟩ := trodAll_cons hA
  obtain ⟨v1, vs1, d1, ds1, p1, q1, rfl, rfl, rfl, h1, r1⟩ := trodAll_cons r0
  obtain ⟨rfl, rfl, rfl⟩ := trodAll_nil r1
  obtain rfl : args = #[v0, v1] := by cases args; simp_all
  obtain ⟨rfl, rfl⟩ := trodVars_none hV
  obtain ⟨xs0, hG0⟩ := OpenP.open_prog hsz (j := 0) rfl rfl (hval 0 27 v0 rfl rfl) h0
  obtain ⟨a1, rfl, rfl, rfl, _⟩ := Go.ChangeMaps.open_string Tryz.underlying9 (hval 1 9 v1 rfl rfl) h1
  have z1 : a1.size ≤ 140737488351232 := Shell.reach_string hsz (j := 1) (t := 9) rfl rfl
  clear hA0 hval0
  simp only [List.append_nil] at hW'
  refine (walk v0 xs0 a1 hG0 z1 (Rd5.laid_swords hL0)).mono fun e W' ⟨he, hg⟩ => ?_
  subst he
  exact ⟨_, rfl, Shell.lawPost (by kernel_rfl) rfl (by kernel_rfl) rfl Tryz.underlying4 hW' rfl hg⟩

theorem row_holds : Rows.ShowBackSaid :=
  OpenClaim.holds_of_wide 6 Tryz.f6 rfl rfl rfl rfl rfl rfl rfl ⟨rfl, rfl, rfl, rfl, rfl⟩ rfl rfl rfl rfl rfl (by kernel_rfl) Tryz.func6 (by kernel_rfl)
    (of_decide_eq_true (by kernel_rfl)) (by unfold Func.isWrapper; first | (rw [if_pos (by decide +kernel)]; kernel_rfl) | (rw [if_neg (by decide +kernel)]; exact ⟨rfl, rfl⟩))
    (fun os started H enc _ => lifted os started H enc)

/-- The statement. -/
theorem proved : Rows.ShowBackCardSaid :=
  Claim7.holds_tied_plain_at .later [] [.data] true Rows.showBackCard.stood.harness true
    row_holds (fun _ h => by cases h) (by kernel_rfl) (fun _ h => by cases h) showBack_row_tie rfl ⟨rfl, rfl⟩ (by kernel_rfl) rfl
    (fun f fn hf hfn => by
      obtain rfl : f = 6 := Option.some.inj ((show Tryz.prog.funcNamed "lateen/lateenlaw06.ShowBack" = some 6 by kernel_rfl).symm.trans hf) |>.symm
      obtain rfl : fn = Tryz.f6 := (Option.some.inj (Tryz.func6.symm.trans hfn)).symm
      exact ⟨by kernel_rfl, fun j t ht => by
        rw [Tryz.params6] at ht
        have hm : t ∈ [27, 9] := by simpa using Array.mem_of_getElem? ht
        have hall : ([27, 9].all fun u => !Tryz.prog.wantsStandIn u) = true := by kernel_rfl
        exact (show Tryz.prog.wantsStandIn t = false by simpa using List.all_eq_true.1 hall t hm)⟩)
    (by kernel_rfl)
end Go.Proofs.YtkmndgjabkjafaaGreatDoor.showBack
