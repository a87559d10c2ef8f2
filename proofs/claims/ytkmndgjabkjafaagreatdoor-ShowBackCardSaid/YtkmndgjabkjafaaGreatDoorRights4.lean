/-
  Package show: blocks, functions, programs, walked.
-/
import Derived.Test.YtkmndgjabkjafaaGreatDoorRights3
namespace Go.Proofs.YtkmndgjabkjafaaGreatDoor.Sh6
open Go.RowKit Api Syn WordM Mem Rd5

set_option maxRecDepth 100000 in
set_option maxHeartbeats 8000000 in
theorem block_any (lo hi : Nat) (w : World) (cs : List Value) (x : Api.Block) (hx : BlockC lo hi w cs x) (hh : hi ≤ w.heap.size) (hL : LaidS w) : Calls Tryz.prog 67 #[.agg cs.toArray] w (Says w (blockR x)) := by
  obtain ⟨u1, u2, cs2, rfl, ka, kf, u3, rfl, ko⟩ := hx
  obtain ⟨nm, ph, co, ⟨k, ⟨ak, a, an⟩, dl, n⟩⟩ := x
  simp only at ka kf ko ⊢
  obtain ⟨B1, c1, rfl⟩ := ka.form
  obtain ⟨B2, c2, rfl⟩ := kf.form
  obtain ⟨B3, c3, rfl⟩ := ko.form
  show Calls Tryz.prog 67 #[.agg #[str nm, .slice B1 ph.length c1, .slice B2 co.length c2, i64 k, i64 ak, str a, i64 an, .slice B3 dl.length c3, i64 n]] w _
  obtain ⟨t0, h0⟩ : ∃ t, nameV nm = t := ⟨_, rfl⟩
  obtain ⟨t1, h1⟩ : ∃ t, allR 1024 phiR ph = t := ⟨_, rfl⟩
  obtain ⟨t2, h2⟩ : ∃ t, allR 1024 instrR co = t := ⟨_, rfl⟩
  obtain ⟨t3, h3⟩ : ∃ t, finR ⟨k, ⟨ak, a, an⟩, dl, n⟩ = t := ⟨_, rfl⟩
  have hr : blockR ⟨nm, ph, co, ⟨k, ⟨ak, a, an⟩, dl, n⟩⟩ = (t0 && (t1 && (t2 && t3))) := by
    unfold blockR
    simp only
    rw [h0, h1, h2, h3]
  rw [hr]
  obtain ⟨W, hW⟩ : ∃ W, w.alloc (.cells #[str nm, .slice B1 ph.length c1, .slice B2 co.length c2, i64 k, i64 ak, str a, i64 an, .slice B3 dl.length c3, i64 n] 47) = W := ⟨_, rfl⟩
  obtain ⟨o1, hb0, hz0⟩ := boxed1 (c := [str nm, .slice B1 ph.length c1, .slice B2 co.length c2, i64 k, i64 ak, str a, i64 an, .slice B3 dl.length c3, i64 n]) hW
  have O1 := Lib.hid o1
  have HB0 := Lib.hid hb0
  have HZ0 := Lib.hid hz0
  have HW := Lib.hid hW
  have Q0 := Lib.hid fun (w' : World) (hb : Below W.heap.size W w') => (name_says nm t0 h0 w')
  have Q1 := Lib.hid fun (w' : World) (hb : Below W.heap.size W w') => (show Calls Tryz.prog 115 #[.slice B1 ph.length c1, .int .i64 1024, fv 116] w' (Says w' t1) from by rw [← h1]; exact allPhi_any _ _ w' _ _ 1024 _ _ (Phis.move (Still.of_below ((HB0.out.trans (hb.mono HB0.out.size)).mono hh)) ka) (Nat.le_trans hh (Nat.le_trans HB0.out.size hb.size)) (tell_phi _ (Nat.le_trans hh (Nat.le_trans HB0.out.size hb.size))) (by decide))
  have Q2 := Lib.hid fun (w' : World) (hb : Below W.heap.size W w') => (show Calls Tryz.prog 117 #[.slice B2 co.length c2, .int .i64 1024, fv 118] w' (Says w' t2) from by rw [← h2]; exact allInstr_any _ _ w' _ _ 1024 _ _ (Instrs.move (Still.of_below ((HB0.out.trans (hb.mono HB0.out.size)).mono hh)) kf) (Nat.le_trans hh (Nat.le_trans HB0.out.size hb.size)) (tell_instr _ (Nat.le_trans hh (Nat.le_trans HB0.out.size hb.size)) ((hL.below hb0 (Nat.le_refl _)).below hb (Nat.le_refl _))) (by decide))
  have Q3 := Lib.hid fun (w' : World) (hb : Below W.heap.size W w') => (show Calls Tryz.prog 119 #[.agg #[i64 k, i64 ak, str a, i64 an, .slice B3 dl.length c3, i64 n]] w' (Says w' t3) from by rw [← h3]; exact fin_any lo hi w' _ ⟨k, ⟨ak, a, an⟩, dl, n⟩ ⟨_, rfl, (Texts.move (Still.of_below ((HB0.out.trans (hb.mono HB0.out.size)).mono hh)) ko)⟩ (Nat.le_trans hh (Nat.le_trans HB0.out.size hb.size)))
  clear h0 h1 h2 h3 o1 hb0 hz0 hW hr hL ka kf ko
  cases t0 with
  | false =>
    go_enter Tryz.func67, Tryz.ntmps67
    go_wp2_with fail
    rw [HW.out]
    refine (Q0.out _ (Below.refl _ _)).mono ?_; rintro e w0 ⟨rfl, hb0⟩
    have HB0x := Lib.hid hb0
    clear hb0
    have g0 := own_hold O1.out HB0x.out (by rw [HZ0.out]; omega) 0 rfl
    have g1 := own_hold O1.out HB0x.out (by rw [HZ0.out]; omega) 1 rfl
    have g2 := own_hold O1.out HB0x.out (by rw [HZ0.out]; omega) 2 rfl
    have g3 := own_hold O1.out HB0x.out (by rw [HZ0.out]; omega) 3 rfl
    have g4 := own_hold O1.out HB0x.out (by rw [HZ0.out]; omega) 4 rfl
    have g5 := own_hold O1.out HB0x.out (by rw [HZ0.out]; omega) 5 rfl
    have g6 := own_hold O1.out HB0x.out (by rw [HZ0.out]; omega) 6 rfl
    have g7 := own_hold O1.out HB0x.out (by rw [HZ0.out]; omega) 7 rfl
    have g8 := own_hold O1.out HB0x.out (by rw [HZ0.out]; omega) 8 rfl
    go_wp2_with fail
    go_ret
    exact ⟨rfl, (HB0.out.trans (HB0x.out.mono HB0.out.size))⟩
  | true =>
    cases t1 with
    | false =>
      go_enter Tryz.func67, Tryz.ntmps67
      go_wp2_with fail
      rw [HW.out]
      refine (Q0.out _ (Below.refl _ _)).mono ?_; rintro e w0 ⟨rfl, hb0⟩
      have HB0x := Lib.hid hb0
      clear hb0
      have g0 := own_hold O1.out HB0x.out (by rw [HZ0.out]; omega) 0 rfl
      have g1 := own_hold O1.out HB0x.out (by rw [HZ0.out]; omega) 1 rfl
      have g2 := own_hold O1.out HB0x.out (by rw [HZ0.out]; omega) 2 rfl
      have g3 := own_hold O1.out HB0x.out (by rw [HZ0.out]; omega) 3 rfl
      have g4 := own_hold O1.out HB0x.out (by rw [HZ0.out]; omega) 4 rfl
      have g5 := own_hold O1.out HB0x.out (by rw [HZ0.out]; omega) 5 rfl
      have g6 := own_hold O1.out HB0x.out (by rw [HZ0.out]; omega) 6 rfl
      have g7 := own_hold O1.out HB0x.out (by rw [HZ0.out]; omega) 7 rfl
      have g8 := own_hold O1.out HB0x.out (by rw [HZ0.out]; omega) 8 rfl
      go_wp2_with fail
      refine (Q1.out _ HB0x.out).mono ?_; rintro e w1 ⟨rfl, hb1⟩
      have HB1x := Lib.hid (HB0x.out.trans (hb1.mono HB0x.out.size))
      clear hb1
      clear g0 g1 g2 g3 g4 g5 g6 g7 g8
      have g0 := own_hold O1.out HB1x.out (by rw [HZ0.out]; omega) 0 rfl
      have g1 := own_hold O1.out HB1x.out (by rw [HZ0.out]; omega) 1 rfl
      have g2 := own_hold O1.out HB1x.out (by rw [HZ0.out]; omega) 2 rfl
      have g3 := own_hold O1.out HB1x.out (by rw [HZ0.out]; omega) 3 rfl
      have g4 := own_hold O1.out HB1x.out (by rw [HZ0.out]; omega) 4 rfl
      have g5 := own_hold O1.out HB1x.out (by rw [HZ0.out]; omega) 5 rfl
      have g6 := own_hold O1.out HB1x.out (by rw [HZ0.out]; omega) 6 rfl
      have g7 := own_hold O1.out HB1x.out (by rw [HZ0.out]; omega) 7 rfl
      have g8 := own_hold O1.out HB1x.out (by rw [HZ0.out]; omega) 8 rfl
      go_wp2_with fail
      go_ret
      exact ⟨rfl, (HB0.out.trans (HB1x.out.mono HB0.out.size))⟩
    | true =>
      cases t2 with
      | false =>
        go_enter Tryz.func67, Tryz.ntmps67
        go_wp2_with fail
        rw [HW.out]
        refine (Q0.out _ (Below.refl _ _)).mono ?_; rintro e w0 ⟨rfl, hb0⟩
        have HB0x := Lib.hid hb0
        clear hb0
        have g0 := own_hold O1.out HB0x.out (by rw [HZ0.out]; omega) 0 rfl
        have g1 := own_hold O1.out HB0x.out (by rw [HZ0.out]; omega) 1 rfl
        have g2 := own_hold O1.out HB0x.out (by rw [HZ0.out]; omega) 2 rfl
        have g3 := own_hold O1.out HB0x.out (by rw [HZ0.out]; omega) 3 rfl
        have g4 := own_hold O1.out HB0x.out (by rw [HZ0.out]; omega) 4 rfl
        have g5 := own_hold O1.out HB0x.out (by rw [HZ0.out]; omega) 5 rfl
        have g6 := own_hold O1.out HB0x.out (by rw [HZ0.out]; omega) 6 rfl
        have g7 := own_hold O1.out HB0x.out (by rw [HZ0.out]; omega) 7 rfl
        have g8 := own_hold O1.out HB0x.out (by rw [HZ0.out]; omega) 8 rfl
        go_wp2_with fail
        refine (Q1.out _ HB0x.out).mono ?_; rintro e w1 ⟨rfl, hb1⟩
        have HB1x := Lib.hid (HB0x.out.trans (hb1.mono HB0x.out.size))
        clear hb1
        clear g0 g1 g2 g3 g4 g5 g6 g7 g8
        have g0 := own_hold O1.out HB1x.out (by rw [HZ0.out]; omega) 0 rfl
        have g1 := own_hold O1.out HB1x.out (by rw [HZ0.out]; omega) 1 rfl
        have g2 := own_hold O1.out HB1x.out (by rw [HZ0.out]; omega) 2 rfl
        have g3 := own_hold O1.out HB1x.out (by rw [HZ0.out]; omega) 3 rfl
        have g4 := own_hold O1.out HB1x.out (by rw [HZ0.out]; omega) 4 rfl
        have g5 := own_hold O1.out HB1x.out (by rw [HZ0.out]; omega) 5 rfl
        have g6 := own_hold O1.out HB1x.out (by rw [HZ0.out]; omega) 6 rfl
        have g7 := own_hold O1.out HB1x.out (by rw [HZ0.out]; omega) 7 rfl
        have g8 := own_hold O1.out HB1x.out (by rw [HZ0.out]; omega) 8 rfl
        go_wp2_with fail
        refine (Q2.out _ HB1x.out).mono ?_; rintro e w2 ⟨rfl, hb2⟩
        have HB2x := Lib.hid (HB1x.out.trans (hb2.mono HB1x.out.size))
        clear hb2
        clear g0 g1 g2 g3 g4 g5 g6 g7 g8
        have g0 := own_hold O1.out HB2x.out (by rw [HZ0.out]; omega) 0 rfl
        have g1 := own_hold O1.out HB2x.out (by rw [HZ0.out]; omega) 1 rfl
        have g2 := own_hold O1.out HB2x.out (by rw [HZ0.out]; omega) 2 rfl
        have g3 := own_hold O1.out HB2x.out (by rw [HZ0.out]; omega) 3 rfl
        have g4 := own_hold O1.out HB2x.out (by rw [HZ0.out]; omega) 4 rfl
        have g5 := own_hold O1.out HB2x.out (by rw [HZ0.out]; omega) 5 rfl
        have g6 := own_hold O1.out HB2x.out (by rw [HZ0.out]; omega) 6 rfl
        have g7 := own_hold O1.out HB2x.out (by rw [HZ0.out]; omega) 7 rfl
        have g8 := own_hold O1.out HB2x.out (by rw [HZ0.out]; omega) 8 rfl
        go_wp2_with fail
        go_ret
        exact ⟨rfl, (HB0.out.trans (HB2x.out.mono HB0.out.size))⟩
      | true =>
        cases t3 with
        | false =>
          go_enter Tryz.func67, Tryz.ntmps67
          go_wp2_with fail
          rw [HW.out]
          refine (Q0.out _ (Below.refl _ _)).mono ?_; rintro e w0 ⟨rfl, hb0⟩
          have HB0x := Lib.hid hb0
          clear hb0
          have g0 := own_hold O1.out HB0x.out (by rw [HZ0.out]; omega) 0 rfl
          have g1 := own_hold O1.out HB0x.out (by rw [HZ0.out]; omega) 1 rfl
          have g2 := own_hold O1.out HB0x.out (by rw [HZ0.out]; omega) 2 rfl
          have g3 := own_hold O1.out HB0x.out (by rw [HZ0.out]; omega) 3 rfl
          have g4 := own_hold O1.out HB0x.out (by rw [HZ0.out]; omega) 4 rfl
          have g5 := own_hold O1.out HB0x.out (by rw [HZ0.out]; omega) 5 rfl
          have g6 := own_hold O1.out HB0x.out (by rw [HZ0.out]; omega) 6 rfl
          have g7 := own_hold O1.out HB0x.out (by rw [HZ0.out]; omega) 7 rfl
          have g8 := own_hold O1.out HB0x.out (by rw [HZ0.out]; omega) 8 rfl
          go_wp2_with fail
          refine (Q1.out _ HB0x.out).mono ?_; rintro e w1 ⟨rfl, hb1⟩
          have HB1x := Lib.hid (HB0x.out.trans (hb1.mono HB0x.out.size))
          clear hb1
          clear g0 g1 g2 g3 g4 g5 g6 g7 g8
          have g0 := own_hold O1.out HB1x.out (by rw [HZ0.out]; omega) 0 rfl
          have g1 := own_hold O1.out HB1x.out (by rw [HZ0.out]; omega) 1 rfl
          have g2 := own_hold O1.out HB1x.out (by rw [HZ0.out]; omega) 2 rfl
          have g3 := own_hold O1.out HB1x.out (by rw [HZ0.out]; omega) 3 rfl
          have g4 := own_hold O1.out HB1x.out (by rw [HZ0.out]; omega) 4 rfl
          have g5 := own_hold O1.out HB1x.out (by rw [HZ0.out]; omega) 5 rfl
          have g6 := own_hold O1.out HB1x.out (by rw [HZ0.out]; omega) 6 rfl
          have g7 := own_hold O1.out HB1x.out (by rw [HZ0.out]; omega) 7 rfl
          have g8 := own_hold O1.out HB1x.out (by rw [HZ0.out]; omega) 8 rfl
          go_wp2_with fail
          refine (Q2.out _ HB1x.out).mono ?_; rintro e w2 ⟨rfl, hb2⟩
          have HB2x := Lib.hid (HB1x.out.trans (hb2.mono HB1x.out.size))
          clear hb2
          clear g0 g1 g2 g3 g4 g5 g6 g7 g8
          have g0 := own_hold O1.out HB2x.out (by rw [HZ0.out]; omega) 0 rfl
          have g1 := own_hold O1.out HB2x.out (by rw [HZ0.out]; omega) 1 rfl
          have g2 := own_hold O1.out HB2x.out (by rw [HZ0.out]; omega) 2 rfl
          have g3 := own_hold O1.out HB2x.out (by rw [HZ0.out]; omega) 3 rfl
          have g4 := own_hold O1.out HB2x.out (by rw [HZ0.out]; omega) 4 rfl
          have g5 := own_hold O1.out HB2x.out (by rw [HZ0.out]; omega) 5 rfl
          have g6 := own_hold O1.out HB2x.out (by rw [HZ0.out]; omega) 6 rfl
          have g7 := own_hold O1.out HB2x.out (by rw [HZ0.out]; omega) 7 rfl
          have g8 := own_hold O1.out HB2x.out (by rw [HZ0.out]; omega) 8 rfl
          go_wp2_with fail
          refine (Q3.out _ HB2x.out).mono ?_; rintro e w3 ⟨rfl, hb3⟩
          have HB3x := Lib.hid (HB2x.out.trans (hb3.mono HB2x.out.size))
          clear hb3
          clear g0 g1 g2 g3 g4 g5 g6 g7 g8
          have g0 := own_hold O1.out HB3x.out (by rw [HZ0.out]; omega) 0 rfl
          have g1 := own_hold O1.out HB3x.out (by rw [HZ0.out]; omega) 1 rfl
          have g2 := own_hold O1.out HB3x.out (by rw [HZ0.out]; omega) 2 rfl
          have g3 := own_hold O1.out HB3x.out (by rw [HZ0.out]; omega) 3 rfl
          have g4 := own_hold O1.out HB3x.out (by rw [HZ0.out]; omega) 4 rfl
          have g5 := own_hold O1.out HB3x.out (by rw [HZ0.out]; omega) 5 rfl
          have g6 := own_hold O1.out HB3x.out (by rw [HZ0.out]; omega) 6 rfl
          have g7 := own_hold O1.out HB3x.out (by rw [HZ0.out]; omega) 7 rfl
          have g8 := own_hold O1.out HB3x.out (by rw [HZ0.out]; omega) 8 rfl
          go_wp2_with fail
          go_ret
          exact ⟨rfl, (HB0.out.trans (HB3x.out.mono HB0.out.size))⟩
        | true =>
          go_enter Tryz.func67, Tryz.ntmps67
          go_wp2_with fail
          rw [HW.out]
          refine (Q0.out _ (Below.refl _ _)).mono ?_; rintro e w0 ⟨rfl, hb0⟩
          have HB0x := Lib.hid hb0
          clear hb0
          have g0 := own_hold O1.out HB0x.out (by rw [HZ0.out]; omega) 0 rfl
          have g1 := own_hold O1.out HB0x.out (by rw [HZ0.out]; omega) 1 rfl
          have g2 := own_hold O1.out HB0x.out (by rw [HZ0.out]; omega) 2 rfl
          have g3 := own_hold O1.out HB0x.out (by rw [HZ0.out]; omega) 3 rfl
          have g4 := own_hold O1.out HB0x.out (by rw [HZ0.out]; omega) 4 rfl
          have g5 := own_hold O1.out HB0x.out (by rw [HZ0.out]; omega) 5 rfl
          have g6 := own_hold O1.out HB0x.out (by rw [HZ0.out]; omega) 6 rfl
          have g7 := own_hold O1.out HB0x.out (by rw [HZ0.out]; omega) 7 rfl
          have g8 := own_hold O1.out HB0x.out (by rw [HZ0.out]; omega) 8 rfl
          go_wp2_with fail
          refine (Q1.out _ HB0x.out).mono ?_; rintro e w1 ⟨rfl, hb1⟩
          have HB1x := Lib.hid (HB0x.out.trans (hb1.mono HB0x.out.size))
          clear hb1
          clear g0 g1 g2 g3 g4 g5 g6 g7 g8
          have g0 := own_hold O1.out HB1x.out (by rw [HZ0.out]; omega) 0 rfl
          have g1 := own_hold O1.out HB1x.out (by rw [HZ0.out]; omega) 1 rfl
          have g2 := own_hold O1.out HB1x.out (by rw [HZ0.out]; omega) 2 rfl
          have g3 := own_hold O1.out HB1x.out (by rw [HZ0.out]; omega) 3 rfl
          have g4 := own_hold O1.out HB1x.out (by rw [HZ0.out]; omega) 4 rfl
          have g5 := own_hold O1.out HB1x.out (by rw [HZ0.out]; omega) 5 rfl
          have g6 := own_hold O1.out HB1x.out (by rw [HZ0.out]; omega) 6 rfl
          have g7 := own_hold O1.out HB1x.out (by rw [HZ0.out]; omega) 7 rfl
          have g8 := own_hold O1.out HB1x.out (by rw [HZ0.out]; omega) 8 rfl
          go_wp2_with fail
          refine (Q2.out _ HB1x.out).mono ?_; rintro e w2 ⟨rfl, hb2⟩
          have HB2x := Lib.hid (HB1x.out.trans (hb2.mono HB1x.out.size))
          clear hb2
          clear g0 g1 g2 g3 g4 g5 g6 g7 g8
          have g0 := own_hold O1.out HB2x.out (by rw [HZ0.out]; omega) 0 rfl
          have g1 := own_hold O1.out HB2x.out (by rw [HZ0.out]; omega) 1 rfl
          have g2 := own_hold O1.out HB2x.out (by rw [HZ0.out]; omega) 2 rfl
          have g3 := own_hold O1.out HB2x.out (by rw [HZ0.out]; omega) 3 rfl
          have g4 := own_hold O1.out HB2x.out (by rw [HZ0.out]; omega) 4 rfl
          have g5 := own_hold O1.out HB2x.out (by rw [HZ0.out]; omega) 5 rfl
          have g6 := own_hold O1.out HB2x.out (by rw [HZ0.out]; omega) 6 rfl
          have g7 := own_hold O1.out HB2x.out (by rw [HZ0.out]; omega) 7 rfl
          have g8 := own_hold O1.out HB2x.out (by rw [HZ0.out]; omega) 8 rfl
          go_wp2_with fail
          refine (Q3.out _ HB2x.out).mono ?_; rintro e w3 ⟨rfl, hb3⟩
          have HB3x := Lib.hid (HB2x.out.trans (hb3.mono HB2x.out.size))
          clear hb3
          clear g0 g1 g2 g3 g4 g5 g6 g7 g8
          have g0 := own_hold O1.out HB3x.out (by rw [HZ0.out]; omega) 0 rfl
          have g1 := own_hold O1.out HB3x.out (by rw [HZ0.out]; omega) 1 rfl
          have g2 := own_hold O1.out HB3x.out (by rw [HZ0.out]; omega) 2 rfl
          have g3 := own_hold O1.out HB3x.out (by rw [HZ0.out]; omega) 3 rfl
          have g4 := own_hold O1.out HB3x.out (by rw [HZ0.out]; omega) 4 rfl
          have g5 := own_hold O1.out HB3x.out (by rw [HZ0.out]; omega) 5 rfl
          have g6 := own_hold O1.out HB3x.out (by rw [HZ0.out]; omega) 6 rfl
          have g7 := own_hold O1.out HB3x.out (by rw [HZ0.out]; omega) 7 rfl
          have g8 := own_hold O1.out HB3x.out (by rw [HZ0.out]; omega) 8 rfl
          go_wp2_with fail
          go_ret
          exact ⟨rfl, (HB0.out.trans (HB3x.out.mono HB0.out.size))⟩
theorem tell_block {lo hi : Nat} {w0 : World} (l : List Api.Block) (hh : hi ≤ w0.heap.size) (hL : LaidS w0) : Tells 67 (fun w cs x => BlockC lo hi w cs x) (fun cs => .agg cs.toArray) blockR w0 l :=
  ⟨enters Tryz.func67 (by decide) rfl, fun w cs x hb _ h => block_any lo hi w cs x h (Nat.le_trans hh hb.size) (hL.below hb (Nat.le_refl _))⟩
/-- Few blocks, each with few phis and instructions: their sum does not wrap. -/
def Bd (f : Api.Func) : Prop := f.blocks.length ≤ 65536 ∧ ∀ b ∈ f.blocks, b.phis.length ≤ 65536 ∧ b.code.length ≤ 65536
theorem longF_next {l : List Api.Block} {k : Nat} {x : Api.Block} (h : l[k]? = some x) : longF (l.take (k + 1)) = longF (l.take k) + longB x := by
  rw [LinesM.take_next h]
  simp [longF]
theorem longF_le {l : List Api.Block} (h : ∀ b ∈ l, b.phis.length ≤ 65536 ∧ b.code.length ≤ 65536) : longF l ≤ l.length * 131072 := by
  induction l with
  | nil => simp [longF]
  | cons b l ih =>
    have h1 := h b (by simp)
    have h2 := ih fun x hx => h x (by simp [hx])
    have : longF (b :: l) = longB b + longF l := by simp [longF]
    rw [this]
    unfold longB
    simp only [List.length_cons]
    omega
set_option maxRecDepth 100000 in
set_option maxHeartbeats 8000000 in
theorem short_any (lo hi : Nat) (w : World) (cs : List Value) (x : Api.Func) (hx : FuncC lo hi w cs x) (hh : hi ≤ w.heap.size) (hB : Bd x) : Calls Tryz.prog 65 #[.agg cs.toArray] w (Says w (decide (0 < x.blocks.length) && decide (longF x.blocks ≤ 1024))) := by
  obtain ⟨u1, u2, u3, rfl, ka, kf, ko⟩ := hx
  obtain ⟨nm, rs, ps, vs, bl⟩ := x
  simp only at ka kf ko ⊢
  obtain ⟨B1, c1, rfl⟩ := ka.form
  obtain ⟨B2, c2, rfl⟩ := kf.form
  obtain ⟨B3, c3, rfl⟩ := ko.form
  show Calls Tryz.prog 65 #[.agg #[str nm, str rs, .slice B1 ps.length c1, .slice B2 vs.length c2, .slice B3 bl.length c3]] w _
  obtain ⟨hb1, hb2⟩ := hB
  simp only at hb1 hb2
  obtain ⟨W, hW⟩ : ∃ W, w.alloc (.cells #[str nm, str rs, .slice B1 ps.length c1, .slice B2 vs.length c2, .slice B3 bl.length c3] 38) = W := ⟨_, rfl⟩
  obtain ⟨o1, hb0, hz0⟩ := boxed1 (c := [str nm, str rs, .slice B1 ps.length c1, .slice B2 vs.length c2, .slice B3 bl.length c3]) hW
  have O1 := Lib.hid o1
  have HB0 := Lib.hid hb0
  have HZ0 := Lib.hid hz0
  have HW := Lib.hid hW
  have HK := Lib.hid (Blocks.move (Still.of_below (hb0.mono hh)) ko)
  have HB2 := Lib.hid hb2
  obtain ⟨t0, h0⟩ : ∃ t, decide (0 < bl.length) = t := ⟨_, rfl⟩
  obtain ⟨t1, h1⟩ : ∃ t, decide (longF bl ≤ 1024) = t := ⟨_, rfl⟩
  rw [h0, h1]
  have HT1 := Lib.hid h1
  clear h1 ka kf ko o1 hb0 hz0 hW hb2
  go_enter Tryz.func65, Tryz.ntmps65
  go_wp2_with fail
  rw [HW.out]
  go_loopw [3, 9] (fun v3 i wr => ∃ k : Nat, k ≤ bl.length ∧ i = .int .i64 k ∧ v3 = .int .i64 ((longF (bl.take k) : Nat) : Int) ∧ Hid (Below W.heap.size W wr)) (fun _ i _ => bl.length - (intOf i).toNat)
  case atStart => exact ⟨0, Nat.zero_le _, rfl, rfl, Lib.hid (Below.refl _ _)⟩
  case round =>
  obtain ⟨k, hk, rfl, rfl, HBr⟩ := hrel
  by_cases hlt : k < bl.length
  · obtain ⟨⟨bn, bp, bc, ⟨tk, ⟨ak, as_, an⟩, td, tn⟩⟩, hy⟩ : ∃ x, bl[k]? = some x := ⟨_, List.getElem?_eq_getElem hlt⟩
    obtain ⟨b2, of2, _, hm2, a2, j2⟩ := HK.out.get
    obtain ⟨rfl, _, hb2⟩ := a2 (by omega)
    obtain ⟨cs2, _, q2, y1, y2, cs3, rfl, hy1, hy2, y3, hcs3, hy3⟩ := j2 k _ hy
    subst hcs3
    simp only at hy1 hy2 hy3 q2
    obtain ⟨C1, l1, rfl⟩ := hy1.form
    obtain ⟨C2, l2, rfl⟩ := hy2.form
    obtain ⟨C3, l3, rfl⟩ := hy3.form
    obtain ⟨n0, n1, n2, n3, n4, n5, n6, n7, n8⟩ := at9 (cells_later q2 HBr.out (show b2 < W.heap.size by have := HB0.out.size; omega))
    obtain ⟨p1, p2⟩ := HB2.out _ (List.mem_of_getElem? hy)
    simp only at p1 p2
    have hn := longF_next hy
    have hle := longF_le (l := bl.take k) (fun b hb => HB2.out b (List.mem_of_mem_take hb))
    have hle2 : longF (bl.take k) ≤ 8589934592 := by
      have : (bl.take k).length ≤ 65536 := by rw [List.length_take]; omega
      omega
    have HN : Hid (longF (bl.take (k + 1)) = longF (bl.take k) + (bp.length + bc.length)) := Lib.hid hn
    clear hy1 hy2 hy3 q2 j2 a2 hn hle hy
    go_wp2
    go_roundw
    case rel => exact ⟨k + 1, by omega, by go_num, by rw [HN.out]; go_num, Lib.hid (HBr.out.alloc HBr.out.size _)⟩
    case measure => simp [intOf]; omega
  · obtain rfl : k = bl.length := by omega
    rw [List.take_length]
    have e1 : decide ((longF bl : Int) ≤ 1024) = t1 := by rw [← HT1.out]; exact decide_eq_decide.2 (by omega)
    have g4 := own_hold O1.out HBr.out (by rw [HZ0.out]; omega) 4 rfl
    clear hlt hk
    cases t0 <;> cases t1
    all_goals
      go_wp2
      go_ret
      exact ⟨rfl, HB0.out.trans (HBr.out.mono HB0.out.size)⟩
set_option maxRecDepth 100000 in
set_option maxHeartbeats 8000000 in
theorem func_any (lo hi : Nat) (w : World) (cs : List Value) (x : Api.Func) (hx : FuncC lo hi w cs x) (hh : hi ≤ w.heap.size) (hL : LaidS w) (hB : Bd x) : Calls Tryz.prog 37 #[.agg cs.toArray] w (Says w (funcR x)) := by
  have hx0 := hx
  obtain ⟨u1, u2, u3, rfl, ka, kf, ko⟩ := hx
  obtain ⟨nm, rs, ps, vs, bl⟩ := x
  simp only at ka kf ko ⊢
  obtain ⟨B1, c1, rfl⟩ := ka.form
  obtain ⟨B2, c2, rfl⟩ := kf.form
  obtain ⟨B3, c3, rfl⟩ := ko.form
  show Calls Tryz.prog 37 #[.agg #[str nm, str rs, .slice B1 ps.length c1, .slice B2 vs.length c2, .slice B3 bl.length c3]] w _
  obtain ⟨t0, h0⟩ : ∃ t, nameV nm = t := ⟨_, rfl⟩
  obtain ⟨t1, h1⟩ : ∃ t, kindV rs = t := ⟨_, rfl⟩
  obtain ⟨t2, h2⟩ : ∃ t, allR 6 varR ps = t := ⟨_, rfl⟩
  obtain ⟨t3, h3⟩ : ∃ t, allR 1024 varR vs = t := ⟨_, rfl⟩
  obtain ⟨t4, h4⟩ : ∃ t, (decide (0 < bl.length) && decide (longF bl ≤ 1024)) = t := ⟨_, rfl⟩
  obtain ⟨t5, h5⟩ : ∃ t, allR 256 blockR bl = t := ⟨_, rfl⟩
  have hr : funcR ⟨nm, rs, ps, vs, bl⟩ = (t0 && (t1 && (t2 && (t3 && (t4 && t5))))) := by
    unfold funcR
    simp only
    rw [h0, h1, h2, h3, h4, h5]
  rw [hr]
  obtain ⟨W, hW⟩ : ∃ W, w.alloc (.cells #[str nm, str rs, .slice B1 ps.length c1, .slice B2 vs.length c2, .slice B3 bl.length c3] 38) = W := ⟨_, rfl⟩
  obtain ⟨o1, hb0, hz0⟩ := boxed1 (c := [str nm, str rs, .slice B1 ps.length c1, .slice B2 vs.length c2, .slice B3 bl.length c3]) hW
  have O1 := Lib.hid o1
  have HB0 := Lib.hid hb0
  have HZ0 := Lib.hid hz0
  have HW := Lib.hid hW
  have Q0 := Lib.hid fun (w' : World) (hb : Below W.heap.size W w') => (name_says nm t0 h0 w')
  have Q1 := Lib.hid fun (w' : World) (hb : Below W.heap.size W w') => (kind_says rs t1 h1 w')
  have Q2 := Lib.hid fun (w' : World) (hb : Below W.heap.size W w') => (show Calls Tryz.prog 32 #[.slice B1 ps.length c1, .int .i64 6, fv 33] w' (Says w' t2) from by rw [← h2]; exact allVar_any _ _ w' _ _ 6 _ _ (Vars.move (Still.of_below ((HB0.out.trans (hb.mono HB0.out.size)).mono hh)) ka) (Nat.le_trans hh (Nat.le_trans HB0.out.size hb.size)) (tell_var (lo := 0) _ (Nat.le_trans hh (Nat.le_trans HB0.out.size hb.size))) (by decide))
  have Q3 := Lib.hid fun (w' : World) (hb : Below W.heap.size W w') => (show Calls Tryz.prog 32 #[.slice B2 vs.length c2, .int .i64 1024, fv 33] w' (Says w' t3) from by rw [← h3]; exact allVar_any _ _ w' _ _ 1024 _ _ (Vars.move (Still.of_below ((HB0.out.trans (hb.mono HB0.out.size)).mono hh)) kf) (Nat.le_trans hh (Nat.le_trans HB0.out.size hb.size)) (tell_var (lo := 0) _ (Nat.le_trans hh (Nat.le_trans HB0.out.size hb.size))) (by decide))
  have Q4 := Lib.hid fun (w' : World) (hb : Below W.heap.size W w') => (show Calls Tryz.prog 65 #[.agg #[str nm, str rs, .slice B1 ps.length c1, .slice B2 vs.length c2, .slice B3 bl.length c3]] w' (Says w' t4) from by rw [← h4]; exact short_any lo hi w' _ ⟨nm, rs, ps, vs, bl⟩ (FuncC.move (Still.of_below ((HB0.out.trans (hb.mono HB0.out.size)).mono hh)) hx0) (Nat.le_trans hh (Nat.le_trans HB0.out.size hb.size)) hB)
  have Q5 := Lib.hid fun (w' : World) (hb : Below W.heap.size W w') => (show Calls Tryz.prog 66 #[.slice B3 bl.length c3, .int .i64 256, fv 67] w' (Says w' t5) from by rw [← h5]; exact allBlock_any _ _ w' _ _ 256 _ _ (Blocks.move (Still.of_below ((HB0.out.trans (hb.mono HB0.out.size)).mono hh)) ko) (Nat.le_trans hh (Nat.le_trans HB0.out.size hb.size)) (tell_block _ (Nat.le_trans hh (Nat.le_trans HB0.out.size hb.size)) ((hL.below hb0 (Nat.le_refl _)).below hb (Nat.le_refl _))) (by decide))
  clear h0 h1 h2 h3 h4 h5 o1 hb0 hz0 hW hr hL ka kf ko hx0 hB
  cases t0 with
  | false =>
    go_enter Tryz.func37, Tryz.ntmps37
    go_wp2_with fail
    rw [HW.out]
    refine (Q0.out _ (Below.refl _ _)).mono ?_; rintro e w0 ⟨rfl, hb0⟩
    have HB0x := Lib.hid hb0
    clear hb0
    have g0 := own_hold O1.out HB0x.out (by rw [HZ0.out]; omega) 0 rfl
    have g1 := own_hold O1.out HB0x.out (by rw [HZ0.out]; omega) 1 rfl
    have g2 := own_hold O1.out HB0x.out (by rw [HZ0.out]; omega) 2 rfl
    have g3 := own_hold O1.out HB0x.out (by rw [HZ0.out]; omega) 3 rfl
    have g4 := own_hold O1.out HB0x.out (by rw [HZ0.out]; omega) 4 rfl
    go_wp2_with fail
    go_ret
    exact ⟨rfl, (HB0.out.trans (HB0x.out.mono HB0.out.size))⟩
  | true =>
    cases t1 with
    | false =>
      go_enter Tryz.func37, Tryz.ntmps37
      go_wp2_with fail
      rw [HW.out]
      refine (Q0.out _ (Below.refl _ _)).mono ?_; rintro e w0 ⟨rfl, hb0⟩
      have HB0x := Lib.hid hb0
      clear hb0
      have g0 := own_hold O1.out HB0x.out (by rw [HZ0.out]; omega) 0 rfl
      have g1 := own_hold O1.out HB0x.out (by rw [HZ0.out]; omega) 1 rfl
      have g2 := own_hold O1.out HB0x.out (by rw [HZ0.out]; omega) 2 rfl
      have g3 := own_hold O1.out HB0x.out (by rw [HZ0.out]; omega) 3 rfl
      have g4 := own_hold O1.out HB0x.out (by rw [HZ0.out]; omega) 4 rfl
      go_wp2_with fail
      refine (Q1.out _ HB0x.out).mono ?_; rintro e w1 ⟨rfl, hb1⟩
      have HB1x := Lib.hid (HB0x.out.trans (hb1.mono HB0x.out.size))
      clear hb1
      clear g0 g1 g2 g3 g4
      have g0 := own_hold O1.out HB1x.out (by rw [HZ0.out]; omega) 0 rfl
      have g1 := own_hold O1.out HB1x.out (by rw [HZ0.out]; omega) 1 rfl
      have g2 := own_hold O1.out HB1x.out (by rw [HZ0.out]; omega) 2 rfl
      have g3 := own_hold O1.out HB1x.out (by rw [HZ0.out]; omega) 3 rfl
      have g4 := own_hold O1.out HB1x.out (by rw [HZ0.out]; omega) 4 rfl
      go_wp2_with fail
      go_ret
      exact ⟨rfl, (HB0.out.trans (HB1x.out.mono HB0.out.size))⟩
    | true =>
      cases t2 with
      | false =>
        go_enter Tryz.func37, Tryz.ntmps37
        go_wp2_with fail
        rw [HW.out]
        refine (Q0.out _ (Below.refl _ _)).mono ?_; rintro e w0 ⟨rfl, hb0⟩
        have HB0x := Lib.hid hb0
        clear hb0
        have g0 := own_hold O1.out HB0x.out (by rw [HZ0.out]; omega) 0 rfl
        have g1 := own_hold O1.out HB0x.out (by rw [HZ0.out]; omega) 1 rfl
        have g2 := own_hold O1.out HB0x.out (by rw [HZ0.out]; omega) 2 rfl
        have g3 := own_hold O1.out HB0x.out (by rw [HZ0.out]; omega) 3 rfl
        have g4 := own_hold O1.out HB0x.out (by rw [HZ0.out]; omega) 4 rfl
        go_wp2_with fail
        refine (Q1.out _ HB0x.out).mono ?_; rintro e w1 ⟨rfl, hb1⟩
        have HB1x := Lib.hid (HB0x.out.trans (hb1.mono HB0x.out.size))
        clear hb1
        clear g0 g1 g2 g3 g4
        have g0 := own_hold O1.out HB1x.out (by rw [HZ0.out]; omega) 0 rfl
        have g1 := own_hold O1.out HB1x.out (by rw [HZ0.out]; omega) 1 rfl
        have g2 := own_hold O1.out HB1x.out (by rw [HZ0.out]; omega) 2 rfl
        have g3 := own_hold O1.out HB1x.out (by rw [HZ0.out]; omega) 3 rfl
        have g4 := own_hold O1.out HB1x.out (by rw [HZ0.out]; omega) 4 rfl
        go_wp2_with fail
        refine (Q2.out _ HB1x.out).mono ?_; rintro e w2 ⟨rfl, hb2⟩
        have HB2x := Lib.hid (HB1x.out.trans (hb2.mono HB1x.out.size))
        clear hb2
        clear g0 g1 g2 g3 g4
        have g0 := own_hold O1.out HB2x.out (by rw [HZ0.out]; omega) 0 rfl
        have g1 := own_hold O1.out HB2x.out (by rw [HZ0.out]; omega) 1 rfl
        have g2 := own_hold O1.out HB2x.out (by rw [HZ0.out]; omega) 2 rfl
        have g3 := own_hold O1.out HB2x.out (by rw [HZ0.out]; omega) 3 rfl
        have g4 := own_hold O1.out HB2x.out (by rw [HZ0.out]; omega) 4 rfl
        go_wp2_with fail
        go_ret
        exact ⟨rfl, (HB0.out.trans (HB2x.out.mono HB0.out.size))⟩
      | true =>
        cases t3 with
        | false =>
          go_enter Tryz.func37, Tryz.ntmps37
          go_wp2_with fail
          rw [HW.out]
          refine (Q0.out _ (Below.refl _ _)).mono ?_; rintro e w0 ⟨rfl, hb0⟩
          have HB0x := Lib.hid hb0
          clear hb0
          have g0 := own_hold O1.out HB0x.out (by rw [HZ0.out]; omega) 0 rfl
          have g1 := own_hold O1.out HB0x.out (by rw [HZ0.out]; omega) 1 rfl
          have g2 := own_hold O1.out HB0x.out (by rw [HZ0.out]; omega) 2 rfl
          have g3 := own_hold O1.out HB0x.out (by rw [HZ0.out]; omega) 3 rfl
          have g4 := own_hold O1.out HB0x.out (by rw [HZ0.out]; omega) 4 rfl
          go_wp2_with fail
          refine (Q1.out _ HB0x.out).mono ?_; rintro e w1 ⟨rfl, hb1⟩
          have HB1x := Lib.hid (HB0x.out.trans (hb1.mono HB0x.out.size))
          clear hb1
          clear g0 g1 g2 g3 g4
          have g0 := own_hold O1.out HB1x.out (by rw [HZ0.out]; omega) 0 rfl
          have g1 := own_hold O1.out HB1x.out (by rw [HZ0.out]; omega) 1 rfl
          have g2 := own_hold O1.out HB1x.out (by rw [HZ0.out]; omega) 2 rfl
          have g3 := own_hold O1.out HB1x.out (by rw [HZ0.out]; omega) 3 rfl
          have g4 := own_hold O1.out HB1x.out (by rw [HZ0.out]; omega) 4 rfl
          go_wp2_with fail
          refine (Q2.out _ HB1x.out).mono ?_; rintro e w2 ⟨rfl, hb2⟩
          have HB2x := Lib.hid (HB1x.out.trans (hb2.mono HB1x.out.size))
          clear hb2
          clear g0 g1 g2 g3 g4
          have g0 := own_hold O1.out HB2x.out (by rw [HZ0.out]; omega) 0 rfl
          have g1 := own_hold O1.out HB2x.out (by rw [HZ0.out]; omega) 1 rfl
          have g2 := own_hold O1.out HB2x.out (by rw [HZ0.out]; omega) 2 rfl
          have g3 := own_hold O1.out HB2x.out (by rw [HZ0.out]; omega) 3 rfl
          have g4 := own_hold O1.out HB2x.out (by rw [HZ0.out]; omega) 4 rfl
          go_wp2_with fail
          refine (Q3.out _ HB2x.out).mono ?_; rintro e w3 ⟨rfl, hb3⟩
          have HB3x := Lib.hid (HB2x.out.trans (hb3.mono HB2x.out.size))
          clear hb3
          clear g0 g1 g2 g3 g4
          have g0 := own_hold O1.out HB3x.out (by rw [HZ0.out]; omega) 0 rfl
          have g1 := own_hold O1.out HB3x.out (by rw [HZ0.out]; omega) 1 rfl
          have g2 := own_hold O1.out HB3x.out (by rw [HZ0.out]; omega) 2 rfl
          have g3 := own_hold O1.out HB3x.out (by rw [HZ0.out]; omega) 3 rfl
          have g4 := own_hold O1.out HB3x.out (by rw [HZ0.out]; omega) 4 rfl
          go_wp2_with fail
          go_ret
          exact ⟨rfl, (HB0.out.trans (HB3x.out.mono HB0.out.size))⟩
        | true =>
          cases t4 with
          | false =>
            go_enter Tryz.func37, Tryz.ntmps37
            go_wp2_with fail
            rw [HW.out]
            refine (Q0.out _ (Below.refl _ _)).mono ?_; rintro e w0 ⟨rfl, hb0⟩
            have HB0x := Lib.hid hb0
            clear hb0
            have g0 := own_hold O1.out HB0x.out (by rw [HZ0.out]; omega) 0 rfl
            have g1 := own_hold O1.out HB0x.out (by rw [HZ0.out]; omega) 1 rfl
            have g2 := own_hold O1.out HB0x.out (by rw [HZ0.out]; omega) 2 rfl
            have g3 := own_hold O1.out HB0x.out (by rw [HZ0.out]; omega) 3 rfl
            have g4 := own_hold O1.out HB0x.out (by rw [HZ0.out]; omega) 4 rfl
            go_wp2_with fail
            refine (Q1.out _ HB0x.out).mono ?_; rintro e w1 ⟨rfl, hb1⟩
            have HB1x := Lib.hid (HB0x.out.trans (hb1.mono HB0x.out.size))
            clear hb1
            clear g0 g1 g2 g3 g4
            have g0 := own_hold O1.out HB1x.out (by rw [HZ0.out]; omega) 0 rfl
            have g1 := own_hold O1.out HB1x.out (by rw [HZ0.out]; omega) 1 rfl
            have g2 := own_hold O1.out HB1x.out (by rw [HZ0.out]; omega) 2 rfl
            have g3 := own_hold O1.out HB1x.out (by rw [HZ0.out]; omega) 3 rfl
            have g4 := own_hold O1.out HB1x.out (by rw [HZ0.out]; omega) 4 rfl
            go_wp2_with fail
            refine (Q2.out _ HB1x.out).mono ?_; rintro e w2 ⟨rfl, hb2⟩
            have HB2x := Lib.hid (HB1x.out.trans (hb2.mono HB1x.out.size))
            clear hb2
            clear g0 g1 g2 g3 g4
            have g0 := own_hold O1.out HB2x.out (by rw [HZ0.out]; omega) 0 rfl
            have g1 := own_hold O1.out HB2x.out (by rw [HZ0.out]; omega) 1 rfl
            have g2 := own_hold O1.out HB2x.out (by rw [HZ0.out]; omega) 2 rfl
            have g3 := own_hold O1.out HB2x.out (by rw [HZ0.out]; omega) 3 rfl
            have g4 := own_hold O1.out HB2x.out (by rw [HZ0.out]; omega) 4 rfl
            go_wp2_with fail
            refine (Q3.out _ HB2x.out).mono ?_; rintro e w3 ⟨rfl, hb3⟩
            have HB3x := Lib.hid (HB2x.out.trans (hb3.mono HB2x.out.size))
            clear hb3
            clear g0 g1 g2 g3 g4
            have g0 := own_hold O1.out HB3x.out (by rw [HZ0.out]; omega) 0 rfl
            have g1 := own_hold O1.out HB3x.out (by rw [HZ0.out]; omega) 1 rfl
            have g2 := own_hold O1.out HB3x.out (by rw [HZ0.out]; omega) 2 rfl
            have g3 := own_hold O1.out HB3x.out (by rw [HZ0.out]; omega) 3 rfl
            have g4 := own_hold O1.out HB3x.out (by rw [HZ0.out]; omega) 4 rfl
            go_wp2_with fail
            refine (Q4.out _ HB3x.out).mono ?_; rintro e w4 ⟨rfl, hb4⟩
            have HB4x := Lib.hid (HB3x.out.trans (hb4.mono HB3x.out.size))
            clear hb4
            clear g0 g1 g2 g3 g4
            have g0 := own_hold O1.out HB4x.out (by rw [HZ0.out]; omega) 0 rfl
            have g1 := own_hold O1.out HB4x.out (by rw [HZ0.out]; omega) 1 rfl
            have g2 := own_hold O1.out HB4x.out (by rw [HZ0.out]; omega) 2 rfl
            have g3 := own_hold O1.out HB4x.out (by rw [HZ0.out]; omega) 3 rfl
            have g4 := own_hold O1.out HB4x.out (by rw [HZ0.out]; omega) 4 rfl
            go_wp2_with fail
            go_ret
            exact ⟨rfl, (HB0.out.trans (HB4x.out.mono HB0.out.size))⟩
          | true =>
            cases t5 with
            | false =>
              go_enter Tryz.func37, Tryz.ntmps37
              go_wp2_with fail
              rw [HW.out]
              refine (Q0.out _ (Below.refl _ _)).mono ?_; rintro e w0 ⟨rfl, hb0⟩
              have HB0x := Lib.hid hb0
              clear hb0
              have g0 := own_hold O1.out HB0x.out (by rw [HZ0.out]; omega) 0 rfl
              have g1 := own_hold O1.out HB0x.out (by rw [HZ0.out]; omega) 1 rfl
              have g2 := own_hold O1.out HB0x.out (by rw [HZ0.out]; omega) 2 rfl
              have g3 := own_hold O1.out HB0x.out (by rw [HZ0.out]; omega) 3 rfl
              have g4 := own_hold O1.out HB0x.out (by rw [HZ0.out]; omega) 4 rfl
              go_wp2_with fail
              refine (Q1.out _ HB0x.out).mono ?_; rintro e w1 ⟨rfl, hb1⟩
              have HB1x := Lib.hid (HB0x.out.trans (hb1.mono HB0x.out.size))
              clear hb1
              clear g0 g1 g2 g3 g4
              have g0 := own_hold O1.out HB1x.out (by rw [HZ0.out]; omega) 0 rfl
              have g1 := own_hold O1.out HB1x.out (by rw [HZ0.out]; omega) 1 rfl
              have g2 := own_hold O1.out HB1x.out (by rw [HZ0.out]; omega) 2 rfl
              have g3 := own_hold O1.out HB1x.out (by rw [HZ0.out]; omega) 3 rfl
              have g4 := own_hold O1.out HB1x.out (by rw [HZ0.out]; omega) 4 rfl
              go_wp2_with fail
              refine (Q2.out _ HB1x.out).mono ?_; rintro e w2 ⟨rfl, hb2⟩
              have HB2x := Lib.hid (HB1x.out.trans (hb2.mono HB1x.out.size))
              clear hb2
              clear g0 g1 g2 g3 g4
              have g0 := own_hold O1.out HB2x.out (by rw [HZ0.out]; omega) 0 rfl
              have g1 := own_hold O1.out HB2x.out (by rw [HZ0.out]; omega) 1 rfl
              have g2 := own_hold O1.out HB2x.out (by rw [HZ0.out]; omega) 2 rfl
              have g3 := own_hold O1.out HB2x.out (by rw [HZ0.out]; omega) 3 rfl
              have g4 := own_hold O1.out HB2x.out (by rw [HZ0.out]; omega) 4 rfl
              go_wp2_with fail
              refine (Q3.out _ HB2x.out).mono ?_; rintro e w3 ⟨rfl, hb3⟩
              have HB3x := Lib.hid (HB2x.out.trans (hb3.mono HB2x.out.size))
              clear hb3
              clear g0 g1 g2 g3 g4
              have g0 := own_hold O1.out HB3x.out (by rw [HZ0.out]; omega) 0 rfl
              have g1 := own_hold O1.out HB3x.out (by rw [HZ0.out]; omega) 1 rfl
              have g2 := own_hold O1.out HB3x.out (by rw [HZ0.out]; omega) 2 rfl
              have g3 := own_hold O1.out HB3x.out (by rw [HZ0.out]; omega) 3 rfl
              have g4 := own_hold O1.out HB3x.out (by rw [HZ0.out]; omega) 4 rfl
              go_wp2_with fail
              refine (Q4.out _ HB3x.out).mono ?_; rintro e w4 ⟨rfl, hb4⟩
              have HB4x := Lib.hid (HB3x.out.trans (hb4.mono HB3x.out.size))
              clear hb4
              clear g0 g1 g2 g3 g4
              have g0 := own_hold O1.out HB4x.out (by rw [HZ0.out]; omega) 0 rfl
              have g1 := own_hold O1.out HB4x.out (by rw [HZ0.out]; omega) 1 rfl
              have g2 := own_hold O1.out HB4x.out (by rw [HZ0.out]; omega) 2 rfl
              have g3 := own_hold O1.out HB4x.out (by rw [HZ0.out]; omega) 3 rfl
              have g4 := own_hold O1.out HB4x.out (by rw [HZ0.out]; omega) 4 rfl
              go_wp2_with fail
              refine (Q5.out _ HB4x.out).mono ?_; rintro e w5 ⟨rfl, hb5⟩
              have HB5x := Lib.hid (HB4x.out.trans (hb5.mono HB4x.out.size))
              clear hb5
              clear g0 g1 g2 g3 g4
              have g0 := own_hold O1.out HB5x.out (by rw [HZ0.out]; omega) 0 rfl
              have g1 := own_hold O1.out HB5x.out (by rw [HZ0.out]; omega) 1 rfl
              have g2 := own_hold O1.out HB5x.out (by rw [HZ0.out]; omega) 2 rfl
              have g3 := own_hold O1.out HB5x.out (by rw [HZ0.out]; omega) 3 rfl
              have g4 := own_hold O1.out HB5x.out (by rw [HZ0.out]; omega) 4 rfl
              go_wp2_with fail
              go_ret
              exact ⟨rfl, (HB0.out.trans (HB5x.out.mono HB0.out.size))⟩
            | true =>
              go_enter Tryz.func37, Tryz.ntmps37
              go_wp2_with fail
              rw [HW.out]
              refine (Q0.out _ (Below.refl _ _)).mono ?_; rintro e w0 ⟨rfl, hb0⟩
              have HB0x := Lib.hid hb0
              clear hb0
              have g0 := own_hold O1.out HB0x.out (by rw [HZ0.out]; omega) 0 rfl
              have g1 := own_hold O1.out HB0x.out (by rw [HZ0.out]; omega) 1 rfl
              have g2 := own_hold O1.out HB0x.out (by rw [HZ0.out]; omega) 2 rfl
              have g3 := own_hold O1.out HB0x.out (by rw [HZ0.out]; omega) 3 rfl
              have g4 := own_hold O1.out HB0x.out (by rw [HZ0.out]; omega) 4 rfl
              go_wp2_with fail
              refine (Q1.out _ HB0x.out).mono ?_; rintro e w1 ⟨rfl, hb1⟩
              have HB1x := Lib.hid (HB0x.out.trans (hb1.mono HB0x.out.size))
              clear hb1
              clear g0 g1 g2 g3 g4
              have g0 := own_hold O1.out HB1x.out (by rw [HZ0.out]; omega) 0 rfl
              have g1 := own_hold O1.out HB1x.out (by rw [HZ0.out]; omega) 1 rfl
              have g2 := own_hold O1.out HB1x.out (by rw [HZ0.out]; omega) 2 rfl
              have g3 := own_hold O1.out HB1x.out (by rw [HZ0.out]; omega) 3 rfl
              have g4 := own_hold O1.out HB1x.out (by rw [HZ0.out]; omega) 4 rfl
              go_wp2_with fail
              refine (Q2.out _ HB1x.out).mono ?_; rintro e w2 ⟨rfl, hb2⟩
              have HB2x := Lib.hid (HB1x.out.trans (hb2.mono HB1x.out.size))
              clear hb2
              clear g0 g1 g2 g3 g4
              have g0 := own_hold O1.out HB2x.out (by rw [HZ0.out]; omega) 0 rfl
              have g1 := own_hold O1.out HB2x.out (by rw [HZ0.out]; omega) 1 rfl
              have g2 := own_hold O1.out HB2x.out (by rw [HZ0.out]; omega) 2 rfl
              have g3 := own_hold O1.out HB2x.out (by rw [HZ0.out]; omega) 3 rfl
              have g4 := own_hold O1.out HB2x.out (by rw [HZ0.out]; omega) 4 rfl
              go_wp2_with fail
              refine (Q3.out _ HB2x.out).mono ?_; rintro e w3 ⟨rfl, hb3⟩
              have HB3x := Lib.hid (HB2x.out.trans (hb3.mono HB2x.out.size))
              clear hb3
              clear g0 g1 g2 g3 g4
              have g0 := own_hold O1.out HB3x.out (by rw [HZ0.out]; omega) 0 rfl
              have g1 := own_hold O1.out HB3x.out (by rw [HZ0.out]; omega) 1 rfl
              have g2 := own_hold O1.out HB3x.out (by rw [HZ0.out]; omega) 2 rfl
              have g3 := own_hold O1.out HB3x.out (by rw [HZ0.out]; omega) 3 rfl
              have g4 := own_hold O1.out HB3x.out (by rw [HZ0.out]; omega) 4 rfl
              go_wp2_with fail
              refine (Q4.out _ HB3x.out).mono ?_; rintro e w4 ⟨rfl, hb4⟩
              have HB4x := Lib.hid (HB3x.out.trans (hb4.mono HB3x.out.size))
              clear hb4
              clear g0 g1 g2 g3 g4
              have g0 := own_hold O1.out HB4x.out (by rw [HZ0.out]; omega) 0 rfl
              have g1 := own_hold O1.out HB4x.out (by rw [HZ0.out]; omega) 1 rfl
              have g2 := own_hold O1.out HB4x.out (by rw [HZ0.out]; omega) 2 rfl
              have g3 := own_hold O1.out HB4x.out (by rw [HZ0.out]; omega) 3 rfl
              have g4 := own_hold O1.out HB4x.out (by rw [HZ0.out]; omega) 4 rfl
              go_wp2_with fail
              refine (Q5.out _ HB4x.out).mono ?_; rintro e w5 ⟨rfl, hb5⟩
              have HB5x := Lib.hid (HB4x.out.trans (hb5.mono HB4x.out.size))
              clear hb5
              clear g0 g1 g2 g3 g4
              have g0 := own_hold O1.out HB5x.out (by rw [HZ0.out]; omega) 0 rfl
              have g1 := own_hold O1.out HB5x.out (by rw [HZ0.out]; omega) 1 rfl
              have g2 := own_hold O1.out HB5x.out (by rw [HZ0.out]; omega) 2 rfl
              have g3 := own_hold O1.out HB5x.out (by rw [HZ0.out]; omega) 3 rfl
              have g4 := own_hold O1.out HB5x.out (by rw [HZ0.out]; omega) 4 rfl
              go_wp2_with fail
              go_ret
              exact ⟨rfl, (HB0.out.trans (HB5x.out.mono HB0.out.size))⟩
theorem tell_func {lo hi : Nat} {w0 : World} (l : List Api.Func) (hh : hi ≤ w0.heap.size) (hL : LaidS w0) (hB : ∀ f ∈ l, Bd f) : Tells 37 (fun w cs x => FuncC lo hi w cs x) (fun cs => .agg cs.toArray) funcR w0 l :=
  ⟨enters Tryz.func37 (by decide) rfl, fun w cs x hb hm h => func_any lo hi w cs x h (Nat.le_trans hh hb.size) (hL.below hb (Nat.le_refl _)) (hB x hm)⟩
set_option maxRecDepth 100000 in
set_option maxHeartbeats 8000000 in
theorem prog_any (lo hi : Nat) (w : World) (cs : List Value) (x : Prog) (hx : ProgC lo hi w cs x) (hh : hi ≤ w.heap.size) (hL : LaidS w) (hB : ∀ f ∈ x.funcs, Bd f) : Calls Tryz.prog 15 #[.agg cs.toArray] w (Says w (progR x)) := by
  obtain ⟨u1, u2, u3, u4, rfl, k1, k2, k3, k4⟩ := hx
  obtain ⟨ss, cl, gl, ex, fu⟩ := x
  simp only at k1 k2 k3 k4 hB ⊢
  obtain ⟨B1, c1, rfl⟩ := k1.form
  obtain ⟨B2, c2, rfl⟩ := k2.form
  obtain ⟨B3, c3, rfl⟩ := k3.form
  obtain ⟨B4, c4, rfl⟩ := k4.form
  show Calls Tryz.prog 15 #[.agg #[.bool ss, .slice B1 cl.length c1, .slice B2 gl.length c2, .slice B3 ex.length c3, .slice B4 fu.length c4]] w _
  obtain ⟨t0, h0⟩ : ∃ t, allR 8 classR cl = t := ⟨_, rfl⟩
  obtain ⟨t1, h1⟩ : ∃ t, allR 8 varR gl = t := ⟨_, rfl⟩
  obtain ⟨t2, h2⟩ : ∃ t, allR 8 externR ex = t := ⟨_, rfl⟩
  obtain ⟨t3, h3⟩ : ∃ t, allR 8 funcR fu = t := ⟨_, rfl⟩
  have hr : progR ⟨ss, cl, gl, ex, fu⟩ = (t0 && (t1 && (t2 && t3))) := by
    unfold progR
    simp only
    rw [h0, h1, h2, h3]
  rw [hr]
  obtain ⟨W, hW⟩ : ∃ W, w.alloc (.cells #[.bool ss, .slice B1 cl.length c1, .slice B2 gl.length c2, .slice B3 ex.length c3, .slice B4 fu.length c4] 27) = W := ⟨_, rfl⟩
  obtain ⟨o1, hb0, hz0⟩ := boxed1 (c := [.bool ss, .slice B1 cl.length c1, .slice B2 gl.length c2, .slice B3 ex.length c3, .slice B4 fu.length c4]) hW
  have O1 := Lib.hid o1
  have HB0 := Lib.hid hb0
  have HZ0 := Lib.hid hz0
  have HW := Lib.hid hW
  have Q0 := Lib.hid fun (w' : World) (hb : Below W.heap.size W w') => (show Calls Tryz.prog 30 #[.slice B1 cl.length c1, .int .i64 8, fv 31] w' (Says w' t0) from by rw [← h0]; exact allClass_any _ _ w' _ _ 8 _ _ (Classes.move (Still.of_below ((HB0.out.trans (hb.mono HB0.out.size)).mono hh)) k1) (Nat.le_trans hh (Nat.le_trans HB0.out.size hb.size)) (tell_class _ (Nat.le_trans hh (Nat.le_trans HB0.out.size hb.size))) (by decide))
  have Q1 := Lib.hid fun (w' : World) (hb : Below W.heap.size W w') => (show Calls Tryz.prog 32 #[.slice B2 gl.length c2, .int .i64 8, fv 33] w' (Says w' t1) from by rw [← h1]; exact allVar_any _ _ w' _ _ 8 _ _ (Vars.move (Still.of_below ((HB0.out.trans (hb.mono HB0.out.size)).mono hh)) k2) (Nat.le_trans hh (Nat.le_trans HB0.out.size hb.size)) (tell_var (lo := 0) _ (Nat.le_trans hh (Nat.le_trans HB0.out.size hb.size))) (by decide))
  have Q2 := Lib.hid fun (w' : World) (hb : Below W.heap.size W w') => (show Calls Tryz.prog 34 #[.slice B3 ex.length c3, .int .i64 8, fv 35] w' (Says w' t2) from by rw [← h2]; exact allExtern_any _ _ w' _ _ 8 _ _ (Externs.move (Still.of_below ((HB0.out.trans (hb.mono HB0.out.size)).mono hh)) k3) (Nat.le_trans hh (Nat.le_trans HB0.out.size hb.size)) (tell_extern (lo := 0) _ (Nat.le_trans hh (Nat.le_trans HB0.out.size hb.size))) (by decide))
  have Q3 := Lib.hid fun (w' : World) (hb : Below W.heap.size W w') => (show Calls Tryz.prog 36 #[.slice B4 fu.length c4, .int .i64 8, fv 37] w' (Says w' t3) from by rw [← h3]; exact allFunc_any _ _ w' _ _ 8 _ _ (Funcs.move (Still.of_below ((HB0.out.trans (hb.mono HB0.out.size)).mono hh)) k4) (Nat.le_trans hh (Nat.le_trans HB0.out.size hb.size)) (tell_func _ (Nat.le_trans hh (Nat.le_trans HB0.out.size hb.size)) ((hL.below hb0 (Nat.le_refl _)).below hb (Nat.le_refl _)) hB) (by decide))
  clear h0 h1 h2 h3 o1 hb0 hz0 hW hr hL k1 k2 k3 k4 hB
  cases t0 with
  | false =>
    go_enter Tryz.func15, Tryz.ntmps15
    go_wp2_with fail
    rw [HW.out]
    refine (Q0.out _ (Below.refl _ _)).mono ?_; rintro e w0 ⟨rfl, hb0⟩
    have HB0x := Lib.hid hb0
    clear hb0
    have g0 := own_hold O1.out HB0x.out (by rw [HZ0.out]; omega) 0 rfl
    have g1 := own_hold O1.out HB0x.out (by rw [HZ0.out]; omega) 1 rfl
    have g2 := own_hold O1.out HB0x.out (by rw [HZ0.out]; omega) 2 rfl
    have g3 := own_hold O1.out HB0x.out (by rw [HZ0.out]; omega) 3 rfl
    have g4 := own_hold O1.out HB0x.out (by rw [HZ0.out]; omega) 4 rfl
    go_wp2_with fail
    go_ret
    exact ⟨rfl, (HB0.out.trans (HB0x.out.mono HB0.out.size))⟩
  | true =>
    cases t1 with
    | false =>
      go_enter Tryz.func15, Tryz.ntmps15
      go_wp2_with fail
      rw [HW.out]
      refine (Q0.out _ (Below.refl _ _)).mono ?_; rintro e w0 ⟨rfl, hb0⟩
      have HB0x := Lib.hid hb0
      clear hb0
      have g0 := own_hold O1.out HB0x.out (by rw [HZ0.out]; omega) 0 rfl
      have g1 := own_hold O1.out HB0x.out (by rw [HZ0.out]; omega) 1 rfl
      have g2 := own_hold O1.out HB0x.out (by rw [HZ0.out]; omega) 2 rfl
      have g3 := own_hold O1.out HB0x.out (by rw [HZ0.out]; omega) 3 rfl
      have g4 := own_hold O1.out HB0x.out (by rw [HZ0.out]; omega) 4 rfl
      go_wp2_with fail
      refine (Q1.out _ HB0x.out).mono ?_; rintro e w1 ⟨rfl, hb1⟩
      have HB1x := Lib.hid (HB0x.out.trans (hb1.mono HB0x.out.size))
      clear hb1
      clear g0 g1 g2 g3 g4
      have g0 := own_hold O1.out HB1x.out (by rw [HZ0.out]; omega) 0 rfl
      have g1 := own_hold O1.out HB1x.out (by rw [HZ0.out]; omega) 1 rfl
      have g2 := own_hold O1.out HB1x.out (by rw [HZ0.out]; omega) 2 rfl
      have g3 := own_hold O1.out HB1x.out (by rw [HZ0.out]; omega) 3 rfl
      have g4 := own_hold O1.out HB1x.out (by rw [HZ0.out]; omega) 4 rfl
      go_wp2_with fail
      go_ret
      exact ⟨rfl, (HB0.out.trans (HB1x.out.mono HB0.out.size))⟩
    | true =>
      cases t2 with
      | false =>
        go_enter Tryz.func15, Tryz.ntmps15
        go_wp2_with fail
        rw [HW.out]
        refine (Q0.out _ (Below.refl _ _)).mono ?_; rintro e w0 ⟨rfl, hb0⟩
        have HB0x := Lib.hid hb0
        clear hb0
        have g0 := own_hold O1.out HB0x.out (by rw [HZ0.out]; omega) 0 rfl
        have g1 := own_hold O1.out HB0x.out (by rw [HZ0.out]; omega) 1 rfl
        have g2 := own_hold O1.out HB0x.out (by rw [HZ0.out]; omega) 2 rfl
        have g3 := own_hold O1.out HB0x.out (by rw [HZ0.out]; omega) 3 rfl
        have g4 := own_hold O1.out HB0x.out (by rw [HZ0.out]; omega) 4 rfl
        go_wp2_with fail
        refine (Q1.out _ HB0x.out).mono ?_; rintro e w1 ⟨rfl, hb1⟩
        have HB1x := Lib.hid (HB0x.out.trans (hb1.mono HB0x.out.size))
        clear hb1
        clear g0 g1 g2 g3 g4
        have g0 := own_hold O1.out HB1x.out (by rw [HZ0.out]; omega) 0 rfl
        have g1 := own_hold O1.out HB1x.out (by rw [HZ0.out]; omega) 1 rfl
        have g2 := own_hold O1.out HB1x.out (by rw [HZ0.out]; omega) 2 rfl
        have g3 := own_hold O1.out HB1x.out (by rw [HZ0.out]; omega) 3 rfl
        have g4 := own_hold O1.out HB1x.out (by rw [HZ0.out]; omega) 4 rfl
        go_wp2_with fail
        refine (Q2.out _ HB1x.out).mono ?_; rintro e w2 ⟨rfl, hb2⟩
        have HB2x := Lib.hid (HB1x.out.trans (hb2.mono HB1x.out.size))
        clear hb2
        clear g0 g1 g2 g3 g4
        have g0 := own_hold O1.out HB2x.out (by rw [HZ0.out]; omega) 0 rfl
        have g1 := own_hold O1.out HB2x.out (by rw [HZ0.out]; omega) 1 rfl
        have g2 := own_hold O1.out HB2x.out (by rw [HZ0.out]; omega) 2 rfl
        have g3 := own_hold O1.out HB2x.out (by rw [HZ0.out]; omega) 3 rfl
        have g4 := own_hold O1.out HB2x.out (by rw [HZ0.out]; omega) 4 rfl
        go_wp2_with fail
        go_ret
        exact ⟨rfl, (HB0.out.trans (HB2x.out.mono HB0.out.size))⟩
      | true =>
        cases t3 with
        | false =>
          go_enter Tryz.func15, Tryz.ntmps15
          go_wp2_with fail
          rw [HW.out]
          refine (Q0.out _ (Below.refl _ _)).mono ?_; rintro e w0 ⟨rfl, hb0⟩
          have HB0x := Lib.hid hb0
          clear hb0
          have g0 := own_hold O1.out HB0x.out (by rw [HZ0.out]; omega) 0 rfl
          have g1 := own_hold O1.out HB0x.out (by rw [HZ0.out]; omega) 1 rfl
          have g2 := own_hold O1.out HB0x.out (by rw [HZ0.out]; omega) 2 rfl
          have g3 := own_hold O1.out HB0x.out (by rw [HZ0.out]; omega) 3 rfl
          have g4 := own_hold O1.out HB0x.out (by rw [HZ0.out]; omega) 4 rfl
          go_wp2_with fail
          refine (Q1.out _ HB0x.out).mono ?_; rintro e w1 ⟨rfl, hb1⟩
          have HB1x := Lib.hid (HB0x.out.trans (hb1.mono HB0x.out.size))
          clear hb1
          clear g0 g1 g2 g3 g4
          have g0 := own_hold O1.out HB1x.out (by rw [HZ0.out]; omega) 0 rfl
          have g1 := own_hold O1.out HB1x.out (by rw [HZ0.out]; omega) 1 rfl
          have g2 := own_hold O1.out HB1x.out (by rw [HZ0.out]; omega) 2 rfl
          have g3 := own_hold O1.out HB1x.out (by rw [HZ0.out]; omega) 3 rfl
          have g4 := own_hold O1.out HB1x.out (by rw [HZ0.out]; omega) 4 rfl
          go_wp2_with fail
          refine (Q2.out _ HB1x.out).mono ?_; rintro e w2 ⟨rfl, hb2⟩
          have HB2x := Lib.hid (HB1x.out.trans (hb2.mono HB1x.out.size))
          clear hb2
          clear g0 g1 g2 g3 g4
          have g0 := own_hold O1.out HB2x.out (by rw [HZ0.out]; omega) 0 rfl
          have g1 := own_hold O1.out HB2x.out (by rw [HZ0.out]; omega) 1 rfl
          have g2 := own_hold O1.out HB2x.out (by rw [HZ0.out]; omega) 2 rfl
          have g3 := own_hold O1.out HB2x.out (by rw [HZ0.out]; omega) 3 rfl
          have g4 := own_hold O1.out HB2x.out (by rw [HZ0.out]; omega) 4 rfl
          go_wp2_with fail
          refine (Q3.out _ HB2x.out).mono ?_; rintro e w3 ⟨rfl, hb3⟩
          have HB3x := Lib.hid (HB2x.out.trans (hb3.mono HB2x.out.size))
          clear hb3
          clear g0 g1 g2 g3 g4
          have g0 := own_hold O1.out HB3x.out (by rw [HZ0.out]; omega) 0 rfl
          have g1 := own_hold O1.out HB3x.out (by rw [HZ0.out]; omega) 1 rfl
          have g2 := own_hold O1.out HB3x.out (by rw [HZ0.out]; omega) 2 rfl
          have g3 := own_hold O1.out HB3x.out (by rw [HZ0.out]; omega) 3 rfl
          have g4 := own_hold O1.out HB3x.out (by rw [HZ0.out]; omega) 4 rfl
          go_wp2_with fail
          go_ret
          exact ⟨rfl, (HB0.out.trans (HB3x.out.mono HB0.out.size))⟩
        | true =>
          go_enter Tryz.func15, Tryz.ntmps15
          go_wp2_with fail
          rw [HW.out]
          refine (Q0.out _ (Below.refl _ _)).mono ?_; rintro e w0 ⟨rfl, hb0⟩
          have HB0x := Lib.hid hb0
          clear hb0
          have g0 := own_hold O1.out HB0x.out (by rw [HZ0.out]; omega) 0 rfl
          have g1 := own_hold O1.out HB0x.out (by rw [HZ0.out]; omega) 1 rfl
          have g2 := own_hold O1.out HB0x.out (by rw [HZ0.out]; omega) 2 rfl
          have g3 := own_hold O1.out HB0x.out (by rw [HZ0.out]; omega) 3 rfl
          have g4 := own_hold O1.out HB0x.out (by rw [HZ0.out]; omega) 4 rfl
          go_wp2_with fail
          refine (Q1.out _ HB0x.out).mono ?_; rintro e w1 ⟨rfl, hb1⟩
          have HB1x := Lib.hid (HB0x.out.trans (hb1.mono HB0x.out.size))
          clear hb1
          clear g0 g1 g2 g3 g4
          have g0 := own_hold O1.out HB1x.out (by rw [HZ0.out]; omega) 0 rfl
          have g1 := own_hold O1.out HB1x.out (by rw [HZ0.out]; omega) 1 rfl
          have g2 := own_hold O1.out HB1x.out (by rw [HZ0.out]; omega) 2 rfl
          have g3 := own_hold O1.out HB1x.out (by rw [HZ0.out]; omega) 3 rfl
          have g4 := own_hold O1.out HB1x.out (by rw [HZ0.out]; omega) 4 rfl
          go_wp2_with fail
          refine (Q2.out _ HB1x.out).mono ?_; rintro e w2 ⟨rfl, hb2⟩
          have HB2x := Lib.hid (HB1x.out.trans (hb2.mono HB1x.out.size))
          clear hb2
          clear g0 g1 g2 g3 g4
          have g0 := own_hold O1.out HB2x.out (by rw [HZ0.out]; omega) 0 rfl
          have g1 := own_hold O1.out HB2x.out (by rw [HZ0.out]; omega) 1 rfl
          have g2 := own_hold O1.out HB2x.out (by rw [HZ0.out]; omega) 2 rfl
          have g3 := own_hold O1.out HB2x.out (by rw [HZ0.out]; omega) 3 rfl
          have g4 := own_hold O1.out HB2x.out (by rw [HZ0.out]; omega) 4 rfl
          go_wp2_with fail
          refine (Q3.out _ HB2x.out).mono ?_; rintro e w3 ⟨rfl, hb3⟩
          have HB3x := Lib.hid (HB2x.out.trans (hb3.mono HB2x.out.size))
          clear hb3
          clear g0 g1 g2 g3 g4
          have g0 := own_hold O1.out HB3x.out (by rw [HZ0.out]; omega) 0 rfl
          have g1 := own_hold O1.out HB3x.out (by rw [HZ0.out]; omega) 1 rfl
          have g2 := own_hold O1.out HB3x.out (by rw [HZ0.out]; omega) 2 rfl
          have g3 := own_hold O1.out HB3x.out (by rw [HZ0.out]; omega) 3 rfl
          have g4 := own_hold O1.out HB3x.out (by rw [HZ0.out]; omega) 4 rfl
          go_wp2_with fail
          go_ret
          exact ⟨rfl, (HB0.out.trans (HB3x.out.mono HB0.out.size))⟩
end Go.Proofs.YtkmndgjabkjafaaGreatDoor.Sh6
