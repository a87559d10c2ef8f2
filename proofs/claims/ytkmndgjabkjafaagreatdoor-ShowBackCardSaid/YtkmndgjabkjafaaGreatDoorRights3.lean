/-
  Package show: states, instructions, blocks, functions, programs, walked.
-/
import Derived.Test.YtkmndgjabkjafaaGreatDoorRights2
namespace Go.Proofs.YtkmndgjabkjafaaGreatDoor.Sh6
open Go.RowKit Api Syn WordM Mem Rd5

set_option maxHeartbeats 4000000 in
theorem fin_any (lo hi : Nat) (w : World) (cs : List Value) (x : Api.Term) (hx : TermC lo hi w cs x) (hh : hi ≤ w.heap.size) : Calls Tryz.prog 119 #[.agg cs.toArray] w (Says w (finR x)) := by
  obtain ⟨u, rfl, kd⟩ := hx
  obtain ⟨k, ⟨ak, a, an⟩, dl, n⟩ := x
  simp only at kd ⊢
  obtain ⟨B1, c1, rfl⟩ := kd.form
  unfold finR
  simp only
  by_cases h1 : k = 1
  · rw [if_pos h1]; exact end1 lo hi w k ak an n a dl B1 c1 h1 kd hh
  rw [if_neg h1]
  by_cases h2 : k = 2
  · rw [if_pos h2]; exact end2 lo hi w k ak an n a dl B1 c1 h2 kd hh
  rw [if_neg h2]
  by_cases h3 : k = 3
  · rw [if_pos h3]; exact end3 lo hi w k ak an n a dl B1 c1 h3 kd hh
  rw [if_neg h3]
  by_cases h4 : k = 4
  · rw [if_pos h4]; exact end4 lo hi w k ak an n a dl B1 c1 h4 kd hh
  rw [if_neg h4]
  have e1 : (k == 1) = false := by simp [h1]
  have e2 : (k == 2) = false := by simp [h2]
  have e3 : (k == 3) = false := by simp [h3]
  have e4 : (k == 4) = false := by simp [h4]
  clear h1 h2 h3 h4 kd hh
  show Calls Tryz.prog 119 #[.agg #[i64 k, i64 ak, str a, i64 an, .slice B1 dl.length c1, i64 n]] w _
  go_enter Tryz.func119, Tryz.ntmps119
  go_wp2
  go_ret
  exact ⟨rfl, (Below.refl _ _).alloc (Nat.le_refl _) _⟩
theorem len_zero (l : Nat) (t : Bool) (h : decide (l = 0) = t) : ((l : Int) == 0) = t := by
  rw [← h]
  rw [Bool.eq_iff_iff]
  simp
theorem form_most {op : Int} : 0 ≤ (formV op).1.most ∧ (formV op).1.most ≤ 8 := by
  unfold formV
  split
  · simp
  · simp only
    repeat' split
    all_goals simp
theorem most_all {a km : Nat} {l : List Arg} (h : l.length = a) : (decide ((a : Int) ≤ (km : Int)) && l.all argX) = allR km argX l := by
  unfold allR
  subst h
  congr 1
  exact decide_eq_decide.2 (by omega)
set_option maxRecDepth 100000 in
set_option maxHeartbeats 8000000 in
theorem state_no (w : World) (op : Int) (ds nm : Wd) (as_ : List Arg) (fr : List Api.Frame) (ob : List Virt) (B1 B2 B3 : Option Addr) (c1 c2 c3 : Nat) (e31 : (op != 31) = true) (e34 : (op != 34) = true) : Calls Tryz.prog 157 #[.agg #[i64 op, str ds, str nm, .slice B1 as_.length c1, .slice B2 fr.length c2, .slice B3 ob.length c3]] w (Says w (decide (fr.length = 0) && decide (ob.length = 0))) := by
  obtain ⟨t0, h0⟩ : ∃ t, decide (fr.length = 0) = t := ⟨_, rfl⟩
  obtain ⟨t1, h1⟩ : ∃ t, decide (ob.length = 0) = t := ⟨_, rfl⟩
  rw [h0, h1]
  obtain ⟨W, hW⟩ : ∃ W, w.alloc (.cells #[i64 op, str ds, str nm, .slice B1 as_.length c1, .slice B2 fr.length c2, .slice B3 ob.length c3] 52) = W := ⟨_, rfl⟩
  obtain ⟨o1, hb0, hz0⟩ := boxed1 (c := [i64 op, str ds, str nm, .slice B1 as_.length c1, .slice B2 fr.length c2, .slice B3 ob.length c3]) hW
  have O1 := Lib.hid o1
  have HB0 := Lib.hid hb0
  have HZ0 := Lib.hid hz0
  have HW := Lib.hid hW
  have e0 : ((fr.length : Int) == 0) = t0 := len_zero _ _ h0
  have e1 : ((ob.length : Int) == 0) = t1 := len_zero _ _ h1
  clear h0 h1 o1 hb0 hz0 hW 
  cases t0 with
  | false =>
    go_enter Tryz.func157, Tryz.ntmps157
    go_wp2_with fail
    rw [HW.out]
    go_ret
    exact ⟨rfl, HB0.out⟩
  | true =>
    cases t1 with
    | false =>
      go_enter Tryz.func157, Tryz.ntmps157
      go_wp2_with fail
      rw [HW.out]
      go_ret
      exact ⟨rfl, HB0.out⟩
    | true =>
      go_enter Tryz.func157, Tryz.ntmps157
      go_wp2_with fail
      rw [HW.out]
      go_ret
      exact ⟨rfl, HB0.out⟩
set_option maxRecDepth 100000 in
set_option maxHeartbeats 8000000 in
theorem state_31 (lo hi : Nat) (w : World) (op : Int) (ds nm : Wd) (as_ : List Arg) (fr : List Api.Frame) (ob : List Virt) (B1 B2 B3 : Option Addr) (c1 c2 c3 : Nat) (e31 : (op != 31) = false) (kf : Frames lo hi w (.slice B2 fr.length c2) fr) (ko : Virts lo hi w (.slice B3 ob.length c3) ob) (hh : hi ≤ w.heap.size) : Calls Tryz.prog 157 #[.agg #[i64 op, str ds, str nm, .slice B1 as_.length c1, .slice B2 fr.length c2, .slice B3 ob.length c3]] w (Says w (allR 16 frameR fr && allR 99 virtR ob)) := by
  obtain ⟨t0, h0⟩ : ∃ t, allR 16 frameR fr = t := ⟨_, rfl⟩
  obtain ⟨t1, h1⟩ : ∃ t, allR 99 virtR ob = t := ⟨_, rfl⟩
  rw [h0, h1]
  obtain ⟨W, hW⟩ : ∃ W, w.alloc (.cells #[i64 op, str ds, str nm, .slice B1 as_.length c1, .slice B2 fr.length c2, .slice B3 ob.length c3] 52) = W := ⟨_, rfl⟩
  obtain ⟨o1, hb0, hz0⟩ := boxed1 (c := [i64 op, str ds, str nm, .slice B1 as_.length c1, .slice B2 fr.length c2, .slice B3 ob.length c3]) hW
  have O1 := Lib.hid o1
  have HB0 := Lib.hid hb0
  have HZ0 := Lib.hid hz0
  have HW := Lib.hid hW
  have Q0 := Lib.hid fun (w' : World) (hb : Below W.heap.size W w') => (show Calls Tryz.prog 175 #[.slice B2 fr.length c2, .int .i64 16, fv 176] w' (Says w' t0) from by rw [← h0]; exact allFrame_any _ _ w' _ _ 16 _ _ (Frames.move (Still.of_below ((HB0.out.trans (hb.mono HB0.out.size)).mono hh)) kf) (Nat.le_trans hh (Nat.le_trans HB0.out.size hb.size)) (tell_frame _ (Nat.le_trans hh (Nat.le_trans HB0.out.size hb.size))) (by decide))
  have Q1 := Lib.hid fun (w' : World) (hb : Below W.heap.size W w') => (show Calls Tryz.prog 177 #[.slice B3 ob.length c3, .int .i64 99, fv 178] w' (Says w' t1) from by rw [← h1]; exact allVirt_any _ _ w' _ _ 99 _ _ (Virts.move (Still.of_below ((HB0.out.trans (hb.mono HB0.out.size)).mono hh)) ko) (Nat.le_trans hh (Nat.le_trans HB0.out.size hb.size)) (tell_virt _ (Nat.le_trans hh (Nat.le_trans HB0.out.size hb.size))) (by decide))
  clear h0 h1 o1 hb0 hz0 hW kf ko
  cases t0 with
  | false =>
    go_enter Tryz.func157, Tryz.ntmps157
    go_wp2_with fail
    rw [HW.out]
    refine (Q0.out _ (Below.refl _ _)).mono ?_; rintro e w0 ⟨rfl, hb0⟩
    have HB0x := Lib.hid hb0
    clear hb0
    have g0 := own_hold O1.out HB0x.out (by rw [HZ0.out]; omega) 0 rfl
    have g1 := own_hold O1.out HB0x.out (by rw [HZ0.out]; omega) 1 rfl
    have g2 := own_hold O1.out HB0x.out (by rw [HZ0.out]; omega) 2 rfl
    have g3 := own_hold O1.out HB0x.out (by rw [HZ0.out]; omega) 3 rfl
    have g4 := own_hold O1.out HB0x.out (by rw [HZ0.out]; omega) 4 rfl
    have g5 := own_hold O1.out HB0x.out (by rw [HZ0.out]; omega) 5 rfl
    go_wp2_with fail
    go_ret
    exact ⟨rfl, (HB0.out.trans (HB0x.out.mono HB0.out.size))⟩
  | true =>
    cases t1 with
    | false =>
      go_enter Tryz.func157, Tryz.ntmps157
      go_wp2_with fail
      rw [HW.out]
      refine (Q0.out _ (Below.refl _ _)).mono ?_; rintro e w0 ⟨rfl, hb0⟩
      have HB0x := Lib.hid hb0
      clear hb0
      have g0 := own_hold O1.out HB0x.out (by rw [HZ0.out]; omega) 0 rfl
      have g1 := own_hold O1.out HB0x.out (by rw [HZ0.out]; omega) 1 rfl
      have g2 := own_hold O1.out HB0x.out (by rw [HZ0.out]; omega) 2 rfl
      have g3 := own_hold O1.out HB0x.out (by rw [HZ0.out]; omega) 3 rfl
      have g4 := own_hold O1.out HB0x.out (by rw [HZ0.out]; omega) 4 rfl
      have g5 := own_hold O1.out HB0x.out (by rw [HZ0.out]; omega) 5 rfl
      go_wp2_with fail
      refine (Q1.out _ HB0x.out).mono ?_; rintro e w1 ⟨rfl, hb1⟩
      have HB1x := Lib.hid (HB0x.out.trans (hb1.mono HB0x.out.size))
      clear hb1
      clear g0 g1 g2 g3 g4 g5
      have g0 := own_hold O1.out HB1x.out (by rw [HZ0.out]; omega) 0 rfl
      have g1 := own_hold O1.out HB1x.out (by rw [HZ0.out]; omega) 1 rfl
      have g2 := own_hold O1.out HB1x.out (by rw [HZ0.out]; omega) 2 rfl
      have g3 := own_hold O1.out HB1x.out (by rw [HZ0.out]; omega) 3 rfl
      have g4 := own_hold O1.out HB1x.out (by rw [HZ0.out]; omega) 4 rfl
      have g5 := own_hold O1.out HB1x.out (by rw [HZ0.out]; omega) 5 rfl
      go_wp2_with fail
      go_ret
      exact ⟨rfl, (HB0.out.trans (HB1x.out.mono HB0.out.size))⟩
    | true =>
      go_enter Tryz.func157, Tryz.ntmps157
      go_wp2_with fail
      rw [HW.out]
      refine (Q0.out _ (Below.refl _ _)).mono ?_; rintro e w0 ⟨rfl, hb0⟩
      have HB0x := Lib.hid hb0
      clear hb0
      have g0 := own_hold O1.out HB0x.out (by rw [HZ0.out]; omega) 0 rfl
      have g1 := own_hold O1.out HB0x.out (by rw [HZ0.out]; omega) 1 rfl
      have g2 := own_hold O1.out HB0x.out (by rw [HZ0.out]; omega) 2 rfl
      have g3 := own_hold O1.out HB0x.out (by rw [HZ0.out]; omega) 3 rfl
      have g4 := own_hold O1.out HB0x.out (by rw [HZ0.out]; omega) 4 rfl
      have g5 := own_hold O1.out HB0x.out (by rw [HZ0.out]; omega) 5 rfl
      go_wp2_with fail
      refine (Q1.out _ HB0x.out).mono ?_; rintro e w1 ⟨rfl, hb1⟩
      have HB1x := Lib.hid (HB0x.out.trans (hb1.mono HB0x.out.size))
      clear hb1
      clear g0 g1 g2 g3 g4 g5
      have g0 := own_hold O1.out HB1x.out (by rw [HZ0.out]; omega) 0 rfl
      have g1 := own_hold O1.out HB1x.out (by rw [HZ0.out]; omega) 1 rfl
      have g2 := own_hold O1.out HB1x.out (by rw [HZ0.out]; omega) 2 rfl
      have g3 := own_hold O1.out HB1x.out (by rw [HZ0.out]; omega) 3 rfl
      have g4 := own_hold O1.out HB1x.out (by rw [HZ0.out]; omega) 4 rfl
      have g5 := own_hold O1.out HB1x.out (by rw [HZ0.out]; omega) 5 rfl
      go_wp2_with fail
      go_ret
      exact ⟨rfl, (HB0.out.trans (HB1x.out.mono HB0.out.size))⟩
set_option maxRecDepth 100000 in
set_option maxHeartbeats 8000000 in
theorem state_34 (lo hi : Nat) (w : World) (op : Int) (ds nm : Wd) (as_ : List Arg) (fr : List Api.Frame) (ob : List Virt) (B1 B2 B3 : Option Addr) (c1 c2 c3 : Nat) (e31 : (op != 31) = true) (e34 : (op != 34) = false) (kf : Frames lo hi w (.slice B2 fr.length c2) fr) (ko : Virts lo hi w (.slice B3 ob.length c3) ob) (hh : hi ≤ w.heap.size) : Calls Tryz.prog 157 #[.agg #[i64 op, str ds, str nm, .slice B1 as_.length c1, .slice B2 fr.length c2, .slice B3 ob.length c3]] w (Says w (allR 16 frameR fr && allR 99 virtR ob)) := by
  obtain ⟨t0, h0⟩ : ∃ t, allR 16 frameR fr = t := ⟨_, rfl⟩
  obtain ⟨t1, h1⟩ : ∃ t, allR 99 virtR ob = t := ⟨_, rfl⟩
  rw [h0, h1]
  obtain ⟨W, hW⟩ : ∃ W, w.alloc (.cells #[i64 op, str ds, str nm, .slice B1 as_.length c1, .slice B2 fr.length c2, .slice B3 ob.length c3] 52) = W := ⟨_, rfl⟩
  obtain ⟨o1, hb0, hz0⟩ := boxed1 (c := [i64 op, str ds, str nm, .slice B1 as_.length c1, .slice B2 fr.length c2, .slice B3 ob.length c3]) hW
  have O1 := Lib.hid o1
  have HB0 := Lib.hid hb0
  have HZ0 := Lib.hid hz0
  have HW := Lib.hid hW
  have Q0 := Lib.hid fun (w' : World) (hb : Below W.heap.size W w') => (show Calls Tryz.prog 175 #[.slice B2 fr.length c2, .int .i64 16, fv 176] w' (Says w' t0) from by rw [← h0]; exact allFrame_any _ _ w' _ _ 16 _ _ (Frames.move (Still.of_below ((HB0.out.trans (hb.mono HB0.out.size)).mono hh)) kf) (Nat.le_trans hh (Nat.le_trans HB0.out.size hb.size)) (tell_frame _ (Nat.le_trans hh (Nat.le_trans HB0.out.size hb.size))) (by decide))
  have Q1 := Lib.hid fun (w' : World) (hb : Below W.heap.size W w') => (show Calls Tryz.prog 177 #[.slice B3 ob.length c3, .int .i64 99, fv 178] w' (Says w' t1) from by rw [← h1]; exact allVirt_any _ _ w' _ _ 99 _ _ (Virts.move (Still.of_below ((HB0.out.trans (hb.mono HB0.out.size)).mono hh)) ko) (Nat.le_trans hh (Nat.le_trans HB0.out.size hb.size)) (tell_virt _ (Nat.le_trans hh (Nat.le_trans HB0.out.size hb.size))) (by decide))
  clear h0 h1 o1 hb0 hz0 hW kf ko
  cases t0 with
  | false =>
    go_enter Tryz.func157, Tryz.ntmps157
    go_wp2_with fail
    rw [HW.out]
    refine (Q0.out _ (Below.refl _ _)).mono ?_; rintro e w0 ⟨rfl, hb0⟩
    have HB0x := Lib.hid hb0
    clear hb0
    have g0 := own_hold O1.out HB0x.out (by rw [HZ0.out]; omega) 0 rfl
    have g1 := own_hold O1.out HB0x.out (by rw [HZ0.out]; omega) 1 rfl
    have g2 := own_hold O1.out HB0x.out (by rw [HZ0.out]; omega) 2 rfl
    have g3 := own_hold O1.out HB0x.out (by rw [HZ0.out]; omega) 3 rfl
    have g4 := own_hold O1.out HB0x.out (by rw [HZ0.out]; omega) 4 rfl
    have g5 := own_hold O1.out HB0x.out (by rw [HZ0.out]; omega) 5 rfl
    go_wp2_with fail
    go_ret
    exact ⟨rfl, (HB0.out.trans (HB0x.out.mono HB0.out.size))⟩
  | true =>
    cases t1 with
    | false =>
      go_enter Tryz.func157, Tryz.ntmps157
      go_wp2_with fail
      rw [HW.out]
      refine (Q0.out _ (Below.refl _ _)).mono ?_; rintro e w0 ⟨rfl, hb0⟩
      have HB0x := Lib.hid hb0
      clear hb0
      have g0 := own_hold O1.out HB0x.out (by rw [HZ0.out]; omega) 0 rfl
      have g1 := own_hold O1.out HB0x.out (by rw [HZ0.out]; omega) 1 rfl
      have g2 := own_hold O1.out HB0x.out (by rw [HZ0.out]; omega) 2 rfl
      have g3 := own_hold O1.out HB0x.out (by rw [HZ0.out]; omega) 3 rfl
      have g4 := own_hold O1.out HB0x.out (by rw [HZ0.out]; omega) 4 rfl
      have g5 := own_hold O1.out HB0x.out (by rw [HZ0.out]; omega) 5 rfl
      go_wp2_with fail
      refine (Q1.out _ HB0x.out).mono ?_; rintro e w1 ⟨rfl, hb1⟩
      have HB1x := Lib.hid (HB0x.out.trans (hb1.mono HB0x.out.size))
      clear hb1
      clear g0 g1 g2 g3 g4 g5
      have g0 := own_hold O1.out HB1x.out (by rw [HZ0.out]; omega) 0 rfl
      have g1 := own_hold O1.out HB1x.out (by rw [HZ0.out]; omega) 1 rfl
      have g2 := own_hold O1.out HB1x.out (by rw [HZ0.out]; omega) 2 rfl
      have g3 := own_hold O1.out HB1x.out (by rw [HZ0.out]; omega) 3 rfl
      have g4 := own_hold O1.out HB1x.out (by rw [HZ0.out]; omega) 4 rfl
      have g5 := own_hold O1.out HB1x.out (by rw [HZ0.out]; omega) 5 rfl
      go_wp2_with fail
      go_ret
      exact ⟨rfl, (HB0.out.trans (HB1x.out.mono HB0.out.size))⟩
    | true =>
      go_enter Tryz.func157, Tryz.ntmps157
      go_wp2_with fail
      rw [HW.out]
      refine (Q0.out _ (Below.refl _ _)).mono ?_; rintro e w0 ⟨rfl, hb0⟩
      have HB0x := Lib.hid hb0
      clear hb0
      have g0 := own_hold O1.out HB0x.out (by rw [HZ0.out]; omega) 0 rfl
      have g1 := own_hold O1.out HB0x.out (by rw [HZ0.out]; omega) 1 rfl
      have g2 := own_hold O1.out HB0x.out (by rw [HZ0.out]; omega) 2 rfl
      have g3 := own_hold O1.out HB0x.out (by rw [HZ0.out]; omega) 3 rfl
      have g4 := own_hold O1.out HB0x.out (by rw [HZ0.out]; omega) 4 rfl
      have g5 := own_hold O1.out HB0x.out (by rw [HZ0.out]; omega) 5 rfl
      go_wp2_with fail
      refine (Q1.out _ HB0x.out).mono ?_; rintro e w1 ⟨rfl, hb1⟩
      have HB1x := Lib.hid (HB0x.out.trans (hb1.mono HB0x.out.size))
      clear hb1
      clear g0 g1 g2 g3 g4 g5
      have g0 := own_hold O1.out HB1x.out (by rw [HZ0.out]; omega) 0 rfl
      have g1 := own_hold O1.out HB1x.out (by rw [HZ0.out]; omega) 1 rfl
      have g2 := own_hold O1.out HB1x.out (by rw [HZ0.out]; omega) 2 rfl
      have g3 := own_hold O1.out HB1x.out (by rw [HZ0.out]; omega) 3 rfl
      have g4 := own_hold O1.out HB1x.out (by rw [HZ0.out]; omega) 4 rfl
      have g5 := own_hold O1.out HB1x.out (by rw [HZ0.out]; omega) 5 rfl
      go_wp2_with fail
      go_ret
      exact ⟨rfl, (HB0.out.trans (HB1x.out.mono HB0.out.size))⟩
theorem state_any (lo hi : Nat) (w : World) (cs : List Value) (x : Instr) (hx : InstrC lo hi w cs x) (hh : hi ≤ w.heap.size) : Calls Tryz.prog 157 #[.agg cs.toArray] w (Says w (stateR x)) := by
  obtain ⟨u1, u2, u3, rfl, ka, kf, ko⟩ := hx
  obtain ⟨op, ds, nm, as_, fr, ob⟩ := x
  simp only at ka kf ko ⊢
  obtain ⟨B1, c1, rfl⟩ := ka.form
  obtain ⟨B2, c2, rfl⟩ := kf.form
  obtain ⟨B3, c3, rfl⟩ := ko.form
  unfold stateR
  simp only
  by_cases h1 : op = 31
  · rw [if_neg (by omega)]
    exact state_31 lo hi w op ds nm as_ fr ob B1 B2 B3 c1 c2 c3 (by simp [h1]) kf ko hh
  by_cases h2 : op = 34
  · rw [if_neg (by omega)]
    exact state_34 lo hi w op ds nm as_ fr ob B1 B2 B3 c1 c2 c3 (by simp [h1]) (by simp [h2]) kf ko hh
  rw [if_pos ⟨h1, h2⟩]
  exact state_no w op ds nm as_ fr ob B1 B2 B3 c1 c2 c3 (by simp [h1]) (by simp [h2])
set_option maxRecDepth 100000 in
set_option maxHeartbeats 16000000 in
theorem instr_any (lo hi : Nat) (w : World) (cs : List Value) (x : Instr) (hx : InstrC lo hi w cs x) (hh : hi ≤ w.heap.size) (hL : LaidS w) : Calls Tryz.prog 118 #[.agg cs.toArray] w (Says w (instrR x)) := by
  have hx0 := hx
  obtain ⟨u1, u2, u3, rfl, ka, kf, ko⟩ := hx
  obtain ⟨op, ds, nm, as_, fr, ob⟩ := x
  simp only at ka kf ko ⊢
  obtain ⟨B1, c1, rfl⟩ := ka.form
  obtain ⟨B2, c2, rfl⟩ := kf.form
  obtain ⟨B3, c3, rfl⟩ := ko.form
  show Calls Tryz.prog 118 #[.agg #[i64 op, str ds, str nm, .slice B1 as_.length c1, .slice B2 fr.length c2, .slice B3 ob.length c3]] w _
  obtain ⟨⟨⟨fw, d, m, l, k⟩, t0⟩, hf⟩ : ∃ r, formV op = r := ⟨_, rfl⟩
  have hk := form_most (op := op)
  rw [hf] at hk
  simp only at hk
  obtain ⟨km, rfl⟩ : ∃ km : Nat, k = (km : Int) := ⟨k.toNat, by omega⟩
  obtain ⟨z, hz⟩ : ∃ z : ByteArray, z.data.toList = fw := ⟨⟨fw.toArray⟩, rfl⟩
  rw [← hz] at hf
  obtain ⟨t1, h1⟩ : ∃ t, noneR ds d = t := ⟨_, rfl⟩
  obtain ⟨t2, h2⟩ : ∃ t, noneR nm m = t := ⟨_, rfl⟩
  obtain ⟨t3, h3⟩ : ∃ t, decide (l ≤ (as_.length : Int)) = t := ⟨_, rfl⟩
  obtain ⟨t4, h4⟩ : ∃ t, allR km argX as_ = t := ⟨_, rfl⟩
  obtain ⟨t5, h5⟩ : ∃ t, stateR ⟨op, ds, nm, as_, fr, ob⟩ = t := ⟨_, rfl⟩
  have hr : instrR ⟨op, ds, nm, as_, fr, ob⟩ = (t0 && (t1 && (t2 && (t3 && (t4 && t5))))) := by
    unfold instrR
    simp only
    rw [hf]
    simp only
    rw [h1, h2, h3, most_all rfl, h4, h5]
  rw [hr]
  obtain ⟨W, hW⟩ : ∃ W, w.alloc (.cells #[i64 op, str ds, str nm, .slice B1 as_.length c1, .slice B2 fr.length c2, .slice B3 ob.length c3] 52) = W := ⟨_, rfl⟩
  obtain ⟨o1, hb0, hz0⟩ := boxed1 (c := [i64 op, str ds, str nm, .slice B1 as_.length c1, .slice B2 fr.length c2, .slice B3 ob.length c3]) hW
  have O1 := Lib.hid o1
  have HB0 := Lib.hid hb0
  have HZ0 := Lib.hid hz0
  have HW := Lib.hid hW
  have QO := Lib.hid (of_as op z d m l km t0 hf W (hL.below hb0 (Nat.le_refl _)))
  have Q1 := Lib.hid fun (w' : World) => none_says ds d t1 h1 w'
  have Q2 := Lib.hid fun (w' : World) => none_says nm m t2 h2 w'
  have e3 : decide (l ≤ (as_.length : Int)) = t3 := h3
  have Q4 := Lib.hid fun (w' : World) (hb : Below W.heap.size W w') => (show Calls Tryz.prog 155 #[.slice B1 as_.length c1, .int .i64 (km : Int), fv 156] w' (Says w' t4) from by rw [← h4]; exact allArg_any _ _ w' _ _ km _ _ (Args.move (Still.of_below ((HB0.out.trans (hb.mono HB0.out.size)).mono hh)) ka) (Nat.le_trans hh (Nat.le_trans HB0.out.size hb.size)) (tell_argX (lo := 0) _ (Nat.le_trans hh (Nat.le_trans HB0.out.size hb.size))) (by omega))
  have Q5 := Lib.hid fun (w' : World) (hb : Below W.heap.size W w') => (show Calls Tryz.prog 157 #[.agg #[i64 op, str ds, str nm, .slice B1 as_.length c1, .slice B2 fr.length c2, .slice B3 ob.length c3]] w' (Says w' t5) from by rw [← h5]; exact state_any lo hi w' _ ⟨op, ds, nm, as_, fr, ob⟩ (InstrC.move (Still.of_below ((HB0.out.trans (hb.mono HB0.out.size)).mono hh)) hx0) (Nat.le_trans hh (Nat.le_trans HB0.out.size hb.size)))
  clear h1 h2 h3 h4 h5 hr hf hz hk hx0 ka kf ko o1 hb0 hz0 hW hL
  cases t0 with
  | false =>
    go_enter Tryz.func118, Tryz.ntmps118
    go_wp2_with fail
    rw [HW.out]
    refine (QO.out).mono ?_; rintro e w0 ⟨rfl, hb0⟩
    obtain ⟨W2, hW2⟩ : ∃ W2, w0.alloc (.cells #[.string z, .bool d, .bool m, .int .i64 l, .int .i64 (km : Int)] 216) = W2 := ⟨_, rfl⟩
    obtain ⟨o2, hb2, hz2⟩ := boxed1 (c := [.string z, .bool d, .bool m, .int .i64 l, .int .i64 (km : Int)]) hW2
    have HB2 := Lib.hid (hb0.trans (hb2.mono hb0.size))
    have O2 := Lib.hid o2
    have HZ2 := Lib.hid hz2
    have HW2 := Lib.hid hW2
    have l0 : w.heap.size < w0.heap.size := by have := hb0.size; rw [HZ0.out] at this; omega
    have g0 := al_cell (x := .cells #[.string z, .bool d, .bool m, .int .i64 l, .int .i64 (km : Int)] 216) (own_hold O1.out hb0 (by rw [HZ0.out]; omega) 0 rfl)
    have g1 := al_cell (x := .cells #[.string z, .bool d, .bool m, .int .i64 l, .int .i64 (km : Int)] 216) (own_hold O1.out hb0 (by rw [HZ0.out]; omega) 1 rfl)
    have g2 := al_cell (x := .cells #[.string z, .bool d, .bool m, .int .i64 l, .int .i64 (km : Int)] 216) (own_hold O1.out hb0 (by rw [HZ0.out]; omega) 2 rfl)
    have g3 := al_cell (x := .cells #[.string z, .bool d, .bool m, .int .i64 l, .int .i64 (km : Int)] 216) (own_hold O1.out hb0 (by rw [HZ0.out]; omega) 3 rfl)
    have g4 := al_cell (x := .cells #[.string z, .bool d, .bool m, .int .i64 l, .int .i64 (km : Int)] 216) (own_hold O1.out hb0 (by rw [HZ0.out]; omega) 4 rfl)
    have g5 := al_cell (x := .cells #[.string z, .bool d, .bool m, .int .i64 l, .int .i64 (km : Int)] 216) (own_hold O1.out hb0 (by rw [HZ0.out]; omega) 5 rfl)
    clear hb0 hb2 o2 hz2 hW2
    go_wp2_with fail
    rw [HW2.out]
    go_ret
    exact ⟨rfl, HB0.out.trans (HB2.out.mono HB0.out.size)⟩
  | true =>
    cases t1 with
    | false =>
      go_enter Tryz.func118, Tryz.ntmps118
      go_wp2_with fail
      rw [HW.out]
      refine (QO.out).mono ?_; rintro e w0 ⟨rfl, hb0⟩
      obtain ⟨W2, hW2⟩ : ∃ W2, w0.alloc (.cells #[.string z, .bool d, .bool m, .int .i64 l, .int .i64 (km : Int)] 216) = W2 := ⟨_, rfl⟩
      obtain ⟨o2, hb2, hz2⟩ := boxed1 (c := [.string z, .bool d, .bool m, .int .i64 l, .int .i64 (km : Int)]) hW2
      have HB2 := Lib.hid (hb0.trans (hb2.mono hb0.size))
      have O2 := Lib.hid o2
      have HZ2 := Lib.hid hz2
      have HW2 := Lib.hid hW2
      have l0 : w.heap.size < w0.heap.size := by have := hb0.size; rw [HZ0.out] at this; omega
      have g0 := al_cell (x := .cells #[.string z, .bool d, .bool m, .int .i64 l, .int .i64 (km : Int)] 216) (own_hold O1.out hb0 (by rw [HZ0.out]; omega) 0 rfl)
      have g1 := al_cell (x := .cells #[.string z, .bool d, .bool m, .int .i64 l, .int .i64 (km : Int)] 216) (own_hold O1.out hb0 (by rw [HZ0.out]; omega) 1 rfl)
      have g2 := al_cell (x := .cells #[.string z, .bool d, .bool m, .int .i64 l, .int .i64 (km : Int)] 216) (own_hold O1.out hb0 (by rw [HZ0.out]; omega) 2 rfl)
      have g3 := al_cell (x := .cells #[.string z, .bool d, .bool m, .int .i64 l, .int .i64 (km : Int)] 216) (own_hold O1.out hb0 (by rw [HZ0.out]; omega) 3 rfl)
      have g4 := al_cell (x := .cells #[.string z, .bool d, .bool m, .int .i64 l, .int .i64 (km : Int)] 216) (own_hold O1.out hb0 (by rw [HZ0.out]; omega) 4 rfl)
      have g5 := al_cell (x := .cells #[.string z, .bool d, .bool m, .int .i64 l, .int .i64 (km : Int)] 216) (own_hold O1.out hb0 (by rw [HZ0.out]; omega) 5 rfl)
      clear hb0 hb2 o2 hz2 hW2
      go_wp2_with fail
      rw [HW2.out]
      clear g0 g1 g2 g3 g4 g5
      refine (Q1.out _).mono ?_; rintro e w1 ⟨rfl, hb1⟩
      have HC1 := Lib.hid hb1
      have HD1 := Lib.hid (HB2.out.trans (hb1.mono HB2.out.size))
      clear hb1
      have g0 := own_hold O1.out HD1.out (by rw [HZ0.out]; omega) 0 rfl
      have g1 := own_hold O1.out HD1.out (by rw [HZ0.out]; omega) 1 rfl
      have g2 := own_hold O1.out HD1.out (by rw [HZ0.out]; omega) 2 rfl
      have g3 := own_hold O1.out HD1.out (by rw [HZ0.out]; omega) 3 rfl
      have g4 := own_hold O1.out HD1.out (by rw [HZ0.out]; omega) 4 rfl
      have g5 := own_hold O1.out HD1.out (by rw [HZ0.out]; omega) 5 rfl
      have f0 := own_hold O2.out HC1.out (by rw [HZ2.out]; omega) 0 rfl
      have f1 := own_hold O2.out HC1.out (by rw [HZ2.out]; omega) 1 rfl
      have f2 := own_hold O2.out HC1.out (by rw [HZ2.out]; omega) 2 rfl
      have f3 := own_hold O2.out HC1.out (by rw [HZ2.out]; omega) 3 rfl
      have f4 := own_hold O2.out HC1.out (by rw [HZ2.out]; omega) 4 rfl
      go_wp2_with fail
      go_ret
      exact ⟨rfl, HB0.out.trans (HD1.out.mono HB0.out.size)⟩
    | true =>
      cases t2 with
      | false =>
        go_enter Tryz.func118, Tryz.ntmps118
        go_wp2_with fail
        rw [HW.out]
        refine (QO.out).mono ?_; rintro e w0 ⟨rfl, hb0⟩
        obtain ⟨W2, hW2⟩ : ∃ W2, w0.alloc (.cells #[.string z, .bool d, .bool m, .int .i64 l, .int .i64 (km : Int)] 216) = W2 := ⟨_, rfl⟩
        obtain ⟨o2, hb2, hz2⟩ := boxed1 (c := [.string z, .bool d, .bool m, .int .i64 l, .int .i64 (km : Int)]) hW2
        have HB2 := Lib.hid (hb0.trans (hb2.mono hb0.size))
        have O2 := Lib.hid o2
        have HZ2 := Lib.hid hz2
        have HW2 := Lib.hid hW2
        have l0 : w.heap.size < w0.heap.size := by have := hb0.size; rw [HZ0.out] at this; omega
        have g0 := al_cell (x := .cells #[.string z, .bool d, .bool m, .int .i64 l, .int .i64 (km : Int)] 216) (own_hold O1.out hb0 (by rw [HZ0.out]; omega) 0 rfl)
        have g1 := al_cell (x := .cells #[.string z, .bool d, .bool m, .int .i64 l, .int .i64 (km : Int)] 216) (own_hold O1.out hb0 (by rw [HZ0.out]; omega) 1 rfl)
        have g2 := al_cell (x := .cells #[.string z, .bool d, .bool m, .int .i64 l, .int .i64 (km : Int)] 216) (own_hold O1.out hb0 (by rw [HZ0.out]; omega) 2 rfl)
        have g3 := al_cell (x := .cells #[.string z, .bool d, .bool m, .int .i64 l, .int .i64 (km : Int)] 216) (own_hold O1.out hb0 (by rw [HZ0.out]; omega) 3 rfl)
        have g4 := al_cell (x := .cells #[.string z, .bool d, .bool m, .int .i64 l, .int .i64 (km : Int)] 216) (own_hold O1.out hb0 (by rw [HZ0.out]; omega) 4 rfl)
        have g5 := al_cell (x := .cells #[.string z, .bool d, .bool m, .int .i64 l, .int .i64 (km : Int)] 216) (own_hold O1.out hb0 (by rw [HZ0.out]; omega) 5 rfl)
        clear hb0 hb2 o2 hz2 hW2
        go_wp2_with fail
        rw [HW2.out]
        clear g0 g1 g2 g3 g4 g5
        refine (Q1.out _).mono ?_; rintro e w1 ⟨rfl, hb1⟩
        have HC1 := Lib.hid hb1
        have HD1 := Lib.hid (HB2.out.trans (hb1.mono HB2.out.size))
        clear hb1
        have g0 := own_hold O1.out HD1.out (by rw [HZ0.out]; omega) 0 rfl
        have g1 := own_hold O1.out HD1.out (by rw [HZ0.out]; omega) 1 rfl
        have g2 := own_hold O1.out HD1.out (by rw [HZ0.out]; omega) 2 rfl
        have g3 := own_hold O1.out HD1.out (by rw [HZ0.out]; omega) 3 rfl
        have g4 := own_hold O1.out HD1.out (by rw [HZ0.out]; omega) 4 rfl
        have g5 := own_hold O1.out HD1.out (by rw [HZ0.out]; omega) 5 rfl
        have f0 := own_hold O2.out HC1.out (by rw [HZ2.out]; omega) 0 rfl
        have f1 := own_hold O2.out HC1.out (by rw [HZ2.out]; omega) 1 rfl
        have f2 := own_hold O2.out HC1.out (by rw [HZ2.out]; omega) 2 rfl
        have f3 := own_hold O2.out HC1.out (by rw [HZ2.out]; omega) 3 rfl
        have f4 := own_hold O2.out HC1.out (by rw [HZ2.out]; omega) 4 rfl
        go_wp2_with fail
        refine (Q2.out _).mono ?_; rintro e w2 ⟨rfl, hb2⟩
        have HC2 := Lib.hid (HC1.out.trans (hb2.mono HC1.out.size))
        have HD2 := Lib.hid (HD1.out.trans (hb2.mono HD1.out.size))
        clear hb2
        clear g0 g1 g2 g3 g4 g5 f0 f1 f2 f3 f4
        have g0 := own_hold O1.out HD2.out (by rw [HZ0.out]; omega) 0 rfl
        have g1 := own_hold O1.out HD2.out (by rw [HZ0.out]; omega) 1 rfl
        have g2 := own_hold O1.out HD2.out (by rw [HZ0.out]; omega) 2 rfl
        have g3 := own_hold O1.out HD2.out (by rw [HZ0.out]; omega) 3 rfl
        have g4 := own_hold O1.out HD2.out (by rw [HZ0.out]; omega) 4 rfl
        have g5 := own_hold O1.out HD2.out (by rw [HZ0.out]; omega) 5 rfl
        have f0 := own_hold O2.out HC2.out (by rw [HZ2.out]; omega) 0 rfl
        have f1 := own_hold O2.out HC2.out (by rw [HZ2.out]; omega) 1 rfl
        have f2 := own_hold O2.out HC2.out (by rw [HZ2.out]; omega) 2 rfl
        have f3 := own_hold O2.out HC2.out (by rw [HZ2.out]; omega) 3 rfl
        have f4 := own_hold O2.out HC2.out (by rw [HZ2.out]; omega) 4 rfl
        go_wp2_with fail
        go_ret
        exact ⟨rfl, HB0.out.trans (HD2.out.mono HB0.out.size)⟩
      | true =>
        cases t3 with
        | false =>
          go_enter Tryz.func118, Tryz.ntmps118
          go_wp2_with fail
          rw [HW.out]
          refine (QO.out).mono ?_; rintro e w0 ⟨rfl, hb0⟩
          obtain ⟨W2, hW2⟩ : ∃ W2, w0.alloc (.cells #[.string z, .bool d, .bool m, .int .i64 l, .int .i64 (km : Int)] 216) = W2 := ⟨_, rfl⟩
          obtain ⟨o2, hb2, hz2⟩ := boxed1 (c := [.string z, .bool d, .bool m, .int .i64 l, .int .i64 (km : Int)]) hW2
          have HB2 := Lib.hid (hb0.trans (hb2.mono hb0.size))
          have O2 := Lib.hid o2
          have HZ2 := Lib.hid hz2
          have HW2 := Lib.hid hW2
          have l0 : w.heap.size < w0.heap.size := by have := hb0.size; rw [HZ0.out] at this; omega
          have g0 := al_cell (x := .cells #[.string z, .bool d, .bool m, .int .i64 l, .int .i64 (km : Int)] 216) (own_hold O1.out hb0 (by rw [HZ0.out]; omega) 0 rfl)
          have g1 := al_cell (x := .cells #[.string z, .bool d, .bool m, .int .i64 l, .int .i64 (km : Int)] 216) (own_hold O1.out hb0 (by rw [HZ0.out]; omega) 1 rfl)
          have g2 := al_cell (x := .cells #[.string z, .bool d, .bool m, .int .i64 l, .int .i64 (km : Int)] 216) (own_hold O1.out hb0 (by rw [HZ0.out]; omega) 2 rfl)
          have g3 := al_cell (x := .cells #[.string z, .bool d, .bool m, .int .i64 l, .int .i64 (km : Int)] 216) (own_hold O1.out hb0 (by rw [HZ0.out]; omega) 3 rfl)
          have g4 := al_cell (x := .cells #[.string z, .bool d, .bool m, .int .i64 l, .int .i64 (km : Int)] 216) (own_hold O1.out hb0 (by rw [HZ0.out]; omega) 4 rfl)
          have g5 := al_cell (x := .cells #[.string z, .bool d, .bool m, .int .i64 l, .int .i64 (km : Int)] 216) (own_hold O1.out hb0 (by rw [HZ0.out]; omega) 5 rfl)
          clear hb0 hb2 o2 hz2 hW2
          go_wp2_with fail
          rw [HW2.out]
          clear g0 g1 g2 g3 g4 g5
          refine (Q1.out _).mono ?_; rintro e w1 ⟨rfl, hb1⟩
          have HC1 := Lib.hid hb1
          have HD1 := Lib.hid (HB2.out.trans (hb1.mono HB2.out.size))
          clear hb1
          have g0 := own_hold O1.out HD1.out (by rw [HZ0.out]; omega) 0 rfl
          have g1 := own_hold O1.out HD1.out (by rw [HZ0.out]; omega) 1 rfl
          have g2 := own_hold O1.out HD1.out (by rw [HZ0.out]; omega) 2 rfl
          have g3 := own_hold O1.out HD1.out (by rw [HZ0.out]; omega) 3 rfl
          have g4 := own_hold O1.out HD1.out (by rw [HZ0.out]; omega) 4 rfl
          have g5 := own_hold O1.out HD1.out (by rw [HZ0.out]; omega) 5 rfl
          have f0 := own_hold O2.out HC1.out (by rw [HZ2.out]; omega) 0 rfl
          have f1 := own_hold O2.out HC1.out (by rw [HZ2.out]; omega) 1 rfl
          have f2 := own_hold O2.out HC1.out (by rw [HZ2.out]; omega) 2 rfl
          have f3 := own_hold O2.out HC1.out (by rw [HZ2.out]; omega) 3 rfl
          have f4 := own_hold O2.out HC1.out (by rw [HZ2.out]; omega) 4 rfl
          go_wp2_with fail
          refine (Q2.out _).mono ?_; rintro e w2 ⟨rfl, hb2⟩
          have HC2 := Lib.hid (HC1.out.trans (hb2.mono HC1.out.size))
          have HD2 := Lib.hid (HD1.out.trans (hb2.mono HD1.out.size))
          clear hb2
          clear g0 g1 g2 g3 g4 g5 f0 f1 f2 f3 f4
          have g0 := own_hold O1.out HD2.out (by rw [HZ0.out]; omega) 0 rfl
          have g1 := own_hold O1.out HD2.out (by rw [HZ0.out]; omega) 1 rfl
          have g2 := own_hold O1.out HD2.out (by rw [HZ0.out]; omega) 2 rfl
          have g3 := own_hold O1.out HD2.out (by rw [HZ0.out]; omega) 3 rfl
          have g4 := own_hold O1.out HD2.out (by rw [HZ0.out]; omega) 4 rfl
          have g5 := own_hold O1.out HD2.out (by rw [HZ0.out]; omega) 5 rfl
          have f0 := own_hold O2.out HC2.out (by rw [HZ2.out]; omega) 0 rfl
          have f1 := own_hold O2.out HC2.out (by rw [HZ2.out]; omega) 1 rfl
          have f2 := own_hold O2.out HC2.out (by rw [HZ2.out]; omega) 2 rfl
          have f3 := own_hold O2.out HC2.out (by rw [HZ2.out]; omega) 3 rfl
          have f4 := own_hold O2.out HC2.out (by rw [HZ2.out]; omega) 4 rfl
          go_wp2_with fail
          go_ret
          exact ⟨rfl, HB0.out.trans (HD2.out.mono HB0.out.size)⟩
        | true =>
          cases t4 with
          | false =>
            go_enter Tryz.func118, Tryz.ntmps118
            go_wp2_with fail
            rw [HW.out]
            refine (QO.out).mono ?_; rintro e w0 ⟨rfl, hb0⟩
            obtain ⟨W2, hW2⟩ : ∃ W2, w0.alloc (.cells #[.string z, .bool d, .bool m, .int .i64 l, .int .i64 (km : Int)] 216) = W2 := ⟨_, rfl⟩
            obtain ⟨o2, hb2, hz2⟩ := boxed1 (c := [.string z, .bool d, .bool m, .int .i64 l, .int .i64 (km : Int)]) hW2
            have HB2 := Lib.hid (hb0.trans (hb2.mono hb0.size))
            have O2 := Lib.hid o2
            have HZ2 := Lib.hid hz2
            have HW2 := Lib.hid hW2
            have l0 : w.heap.size < w0.heap.size := by have := hb0.size; rw [HZ0.out] at this; omega
            have g0 := al_cell (x := .cells #[.string z, .bool d, .bool m, .int .i64 l, .int .i64 (km : Int)] 216) (own_hold O1.out hb0 (by rw [HZ0.out]; omega) 0 rfl)
            have g1 := al_cell (x := .cells #[.string z, .bool d, .bool m, .int .i64 l, .int .i64 (km : Int)] 216) (own_hold O1.out hb0 (by rw [HZ0.out]; omega) 1 rfl)
            have g2 := al_cell (x := .cells #[.string z, .bool d, .bool m, .int .i64 l, .int .i64 (km : Int)] 216) (own_hold O1.out hb0 (by rw [HZ0.out]; omega) 2 rfl)
            have g3 := al_cell (x := .cells #[.string z, .bool d, .bool m, .int .i64 l, .int .i64 (km : Int)] 216) (own_hold O1.out hb0 (by rw [HZ0.out]; omega) 3 rfl)
            have g4 := al_cell (x := .cells #[.string z, .bool d, .bool m, .int .i64 l, .int .i64 (km : Int)] 216) (own_hold O1.out hb0 (by rw [HZ0.out]; omega) 4 rfl)
            have g5 := al_cell (x := .cells #[.string z, .bool d, .bool m, .int .i64 l, .int .i64 (km : Int)] 216) (own_hold O1.out hb0 (by rw [HZ0.out]; omega) 5 rfl)
            clear hb0 hb2 o2 hz2 hW2
            go_wp2_with fail
            rw [HW2.out]
            clear g0 g1 g2 g3 g4 g5
            refine (Q1.out _).mono ?_; rintro e w1 ⟨rfl, hb1⟩
            have HC1 := Lib.hid hb1
            have HD1 := Lib.hid (HB2.out.trans (hb1.mono HB2.out.size))
            clear hb1
            have g0 := own_hold O1.out HD1.out (by rw [HZ0.out]; omega) 0 rfl
            have g1 := own_hold O1.out HD1.out (by rw [HZ0.out]; omega) 1 rfl
            have g2 := own_hold O1.out HD1.out (by rw [HZ0.out]; omega) 2 rfl
            have g3 := own_hold O1.out HD1.out (by rw [HZ0.out]; omega) 3 rfl
            have g4 := own_hold O1.out HD1.out (by rw [HZ0.out]; omega) 4 rfl
            have g5 := own_hold O1.out HD1.out (by rw [HZ0.out]; omega) 5 rfl
            have f0 := own_hold O2.out HC1.out (by rw [HZ2.out]; omega) 0 rfl
            have f1 := own_hold O2.out HC1.out (by rw [HZ2.out]; omega) 1 rfl
            have f2 := own_hold O2.out HC1.out (by rw [HZ2.out]; omega) 2 rfl
            have f3 := own_hold O2.out HC1.out (by rw [HZ2.out]; omega) 3 rfl
            have f4 := own_hold O2.out HC1.out (by rw [HZ2.out]; omega) 4 rfl
            go_wp2_with fail
            refine (Q2.out _).mono ?_; rintro e w2 ⟨rfl, hb2⟩
            have HC2 := Lib.hid (HC1.out.trans (hb2.mono HC1.out.size))
            have HD2 := Lib.hid (HD1.out.trans (hb2.mono HD1.out.size))
            clear hb2
            clear g0 g1 g2 g3 g4 g5 f0 f1 f2 f3 f4
            have g0 := own_hold O1.out HD2.out (by rw [HZ0.out]; omega) 0 rfl
            have g1 := own_hold O1.out HD2.out (by rw [HZ0.out]; omega) 1 rfl
            have g2 := own_hold O1.out HD2.out (by rw [HZ0.out]; omega) 2 rfl
            have g3 := own_hold O1.out HD2.out (by rw [HZ0.out]; omega) 3 rfl
            have g4 := own_hold O1.out HD2.out (by rw [HZ0.out]; omega) 4 rfl
            have g5 := own_hold O1.out HD2.out (by rw [HZ0.out]; omega) 5 rfl
            have f0 := own_hold O2.out HC2.out (by rw [HZ2.out]; omega) 0 rfl
            have f1 := own_hold O2.out HC2.out (by rw [HZ2.out]; omega) 1 rfl
            have f2 := own_hold O2.out HC2.out (by rw [HZ2.out]; omega) 2 rfl
            have f3 := own_hold O2.out HC2.out (by rw [HZ2.out]; omega) 3 rfl
            have f4 := own_hold O2.out HC2.out (by rw [HZ2.out]; omega) 4 rfl
            go_wp2_with fail
            refine (Q4.out _ HD2.out).mono ?_; rintro e w4 ⟨rfl, hb4⟩
            have HC4 := Lib.hid (HC2.out.trans (hb4.mono HC2.out.size))
            have HD4 := Lib.hid (HD2.out.trans (hb4.mono HD2.out.size))
            clear hb4
            clear g0 g1 g2 g3 g4 g5 f0 f1 f2 f3 f4
            have g0 := own_hold O1.out HD4.out (by rw [HZ0.out]; omega) 0 rfl
            have g1 := own_hold O1.out HD4.out (by rw [HZ0.out]; omega) 1 rfl
            have g2 := own_hold O1.out HD4.out (by rw [HZ0.out]; omega) 2 rfl
            have g3 := own_hold O1.out HD4.out (by rw [HZ0.out]; omega) 3 rfl
            have g4 := own_hold O1.out HD4.out (by rw [HZ0.out]; omega) 4 rfl
            have g5 := own_hold O1.out HD4.out (by rw [HZ0.out]; omega) 5 rfl
            have f0 := own_hold O2.out HC4.out (by rw [HZ2.out]; omega) 0 rfl
            have f1 := own_hold O2.out HC4.out (by rw [HZ2.out]; omega) 1 rfl
            have f2 := own_hold O2.out HC4.out (by rw [HZ2.out]; omega) 2 rfl
            have f3 := own_hold O2.out HC4.out (by rw [HZ2.out]; omega) 3 rfl
            have f4 := own_hold O2.out HC4.out (by rw [HZ2.out]; omega) 4 rfl
            go_wp2_with fail
            go_ret
            exact ⟨rfl, HB0.out.trans (HD4.out.mono HB0.out.size)⟩
          | true =>
            cases t5 with
            | false =>
              go_enter Tryz.func118, Tryz.ntmps118
              go_wp2_with fail
              rw [HW.out]
              refine (QO.out).mono ?_; rintro e w0 ⟨rfl, hb0⟩
              obtain ⟨W2, hW2⟩ : ∃ W2, w0.alloc (.cells #[.string z, .bool d, .bool m, .int .i64 l, .int .i64 (km : Int)] 216) = W2 := ⟨_, rfl⟩
              obtain ⟨o2, hb2, hz2⟩ := boxed1 (c := [.string z, .bool d, .bool m, .int .i64 l, .int .i64 (km : Int)]) hW2
              have HB2 := Lib.hid (hb0.trans (hb2.mono hb0.size))
              have O2 := Lib.hid o2
              have HZ2 := Lib.hid hz2
              have HW2 := Lib.hid hW2
              have l0 : w.heap.size < w0.heap.size := by have := hb0.size; rw [HZ0.out] at this; omega
              have g0 := al_cell (x := .cells #[.string z, .bool d, .bool m, .int .i64 l, .int .i64 (km : Int)] 216) (own_hold O1.out hb0 (by rw [HZ0.out]; omega) 0 rfl)
              have g1 := al_cell (x := .cells #[.string z, .bool d, .bool m, .int .i64 l, .int .i64 (km : Int)] 216) (own_hold O1.out hb0 (by rw [HZ0.out]; omega) 1 rfl)
              have g2 := al_cell (x := .cells #[.string z, .bool d, .bool m, .int .i64 l, .int .i64 (km : Int)] 216) (own_hold O1.out hb0 (by rw [HZ0.out]; omega) 2 rfl)
              have g3 := al_cell (x := .cells #[.string z, .bool d, .bool m, .int .i64 l, .int .i64 (km : Int)] 216) (own_hold O1.out hb0 (by rw [HZ0.out]; omega) 3 rfl)
              have g4 := al_cell (x := .cells #[.string z, .bool d, .bool m, .int .i64 l, .int .i64 (km : Int)] 216) (own_hold O1.out hb0 (by rw [HZ0.out]; omega) 4 rfl)
              have g5 := al_cell (x := .cells #[.string z, .bool d, .bool m, .int .i64 l, .int .i64 (km : Int)] 216) (own_hold O1.out hb0 (by rw [HZ0.out]; omega) 5 rfl)
              clear hb0 hb2 o2 hz2 hW2
              go_wp2_with fail
              rw [HW2.out]
              clear g0 g1 g2 g3 g4 g5
              refine (Q1.out _).mono ?_; rintro e w1 ⟨rfl, hb1⟩
              have HC1 := Lib.hid hb1
              have HD1 := Lib.hid (HB2.out.trans (hb1.mono HB2.out.size))
              clear hb1
              have g0 := own_hold O1.out HD1.out (by rw [HZ0.out]; omega) 0 rfl
              have g1 := own_hold O1.out HD1.out (by rw [HZ0.out]; omega) 1 rfl
              have g2 := own_hold O1.out HD1.out (by rw [HZ0.out]; omega) 2 rfl
              have g3 := own_hold O1.out HD1.out (by rw [HZ0.out]; omega) 3 rfl
              have g4 := own_hold O1.out HD1.out (by rw [HZ0.out]; omega) 4 rfl
              have g5 := own_hold O1.out HD1.out (by rw [HZ0.out]; omega) 5 rfl
              have f0 := own_hold O2.out HC1.out (by rw [HZ2.out]; omega) 0 rfl
              have f1 := own_hold O2.out HC1.out (by rw [HZ2.out]; omega) 1 rfl
              have f2 := own_hold O2.out HC1.out (by rw [HZ2.out]; omega) 2 rfl
              have f3 := own_hold O2.out HC1.out (by rw [HZ2.out]; omega) 3 rfl
              have f4 := own_hold O2.out HC1.out (by rw [HZ2.out]; omega) 4 rfl
              go_wp2_with fail
              refine (Q2.out _).mono ?_; rintro e w2 ⟨rfl, hb2⟩
              have HC2 := Lib.hid (HC1.out.trans (hb2.mono HC1.out.size))
              have HD2 := Lib.hid (HD1.out.trans (hb2.mono HD1.out.size))
              clear hb2
              clear g0 g1 g2 g3 g4 g5 f0 f1 f2 f3 f4
              have g0 := own_hold O1.out HD2.out (by rw [HZ0.out]; omega) 0 rfl
              have g1 := own_hold O1.out HD2.out (by rw [HZ0.out]; omega) 1 rfl
              have g2 := own_hold O1.out HD2.out (by rw [HZ0.out]; omega) 2 rfl
              have g3 := own_hold O1.out HD2.out (by rw [HZ0.out]; omega) 3 rfl
              have g4 := own_hold O1.out HD2.out (by rw [HZ0.out]; omega) 4 rfl
              have g5 := own_hold O1.out HD2.out (by rw [HZ0.out]; omega) 5 rfl
              have f0 := own_hold O2.out HC2.out (by rw [HZ2.out]; omega) 0 rfl
              have f1 := own_hold O2.out HC2.out (by rw [HZ2.out]; omega) 1 rfl
              have f2 := own_hold O2.out HC2.out (by rw [HZ2.out]; omega) 2 rfl
              have f3 := own_hold O2.out HC2.out (by rw [HZ2.out]; omega) 3 rfl
              have f4 := own_hold O2.out HC2.out (by rw [HZ2.out]; omega) 4 rfl
              go_wp2_with fail
              refine (Q4.out _ HD2.out).mono ?_; rintro e w4 ⟨rfl, hb4⟩
              have HC4 := Lib.hid (HC2.out.trans (hb4.mono HC2.out.size))
              have HD4 := Lib.hid (HD2.out.trans (hb4.mono HD2.out.size))
              clear hb4
              clear g0 g1 g2 g3 g4 g5 f0 f1 f2 f3 f4
              have g0 := own_hold O1.out HD4.out (by rw [HZ0.out]; omega) 0 rfl
              have g1 := own_hold O1.out HD4.out (by rw [HZ0.out]; omega) 1 rfl
              have g2 := own_hold O1.out HD4.out (by rw [HZ0.out]; omega) 2 rfl
              have g3 := own_hold O1.out HD4.out (by rw [HZ0.out]; omega) 3 rfl
              have g4 := own_hold O1.out HD4.out (by rw [HZ0.out]; omega) 4 rfl
              have g5 := own_hold O1.out HD4.out (by rw [HZ0.out]; omega) 5 rfl
              have f0 := own_hold O2.out HC4.out (by rw [HZ2.out]; omega) 0 rfl
              have f1 := own_hold O2.out HC4.out (by rw [HZ2.out]; omega) 1 rfl
              have f2 := own_hold O2.out HC4.out (by rw [HZ2.out]; omega) 2 rfl
              have f3 := own_hold O2.out HC4.out (by rw [HZ2.out]; omega) 3 rfl
              have f4 := own_hold O2.out HC4.out (by rw [HZ2.out]; omega) 4 rfl
              go_wp2_with fail
              refine (Q5.out _ HD4.out).mono ?_; rintro e w5 ⟨rfl, hb5⟩
              have HC5 := Lib.hid (HC4.out.trans (hb5.mono HC4.out.size))
              have HD5 := Lib.hid (HD4.out.trans (hb5.mono HD4.out.size))
              clear hb5
              clear g0 g1 g2 g3 g4 g5 f0 f1 f2 f3 f4
              have g0 := own_hold O1.out HD5.out (by rw [HZ0.out]; omega) 0 rfl
              have g1 := own_hold O1.out HD5.out (by rw [HZ0.out]; omega) 1 rfl
              have g2 := own_hold O1.out HD5.out (by rw [HZ0.out]; omega) 2 rfl
              have g3 := own_hold O1.out HD5.out (by rw [HZ0.out]; omega) 3 rfl
              have g4 := own_hold O1.out HD5.out (by rw [HZ0.out]; omega) 4 rfl
              have g5 := own_hold O1.out HD5.out (by rw [HZ0.out]; omega) 5 rfl
              have f0 := own_hold O2.out HC5.out (by rw [HZ2.out]; omega) 0 rfl
              have f1 := own_hold O2.out HC5.out (by rw [HZ2.out]; omega) 1 rfl
              have f2 := own_hold O2.out HC5.out (by rw [HZ2.out]; omega) 2 rfl
              have f3 := own_hold O2.out HC5.out (by rw [HZ2.out]; omega) 3 rfl
              have f4 := own_hold O2.out HC5.out (by rw [HZ2.out]; omega) 4 rfl
              go_wp2_with fail
              go_ret
              exact ⟨rfl, HB0.out.trans (HD5.out.mono HB0.out.size)⟩
            | true =>
              go_enter Tryz.func118, Tryz.ntmps118
              go_wp2_with fail
              rw [HW.out]
              refine (QO.out).mono ?_; rintro e w0 ⟨rfl, hb0⟩
              obtain ⟨W2, hW2⟩ : ∃ W2, w0.alloc (.cells #[.string z, .bool d, .bool m, .int .i64 l, .int .i64 (km : Int)] 216) = W2 := ⟨_, rfl⟩
              obtain ⟨o2, hb2, hz2⟩ := boxed1 (c := [.string z, .bool d, .bool m, .int .i64 l, .int .i64 (km : Int)]) hW2
              have HB2 := Lib.hid (hb0.trans (hb2.mono hb0.size))
              have O2 := Lib.hid o2
              have HZ2 := Lib.hid hz2
              have HW2 := Lib.hid hW2
              have l0 : w.heap.size < w0.heap.size := by have := hb0.size; rw [HZ0.out] at this; omega
              have g0 := al_cell (x := .cells #[.string z, .bool d, .bool m, .int .i64 l, .int .i64 (km : Int)] 216) (own_hold O1.out hb0 (by rw [HZ0.out]; omega) 0 rfl)
              have g1 := al_cell (x := .cells #[.string z, .bool d, .bool m, .int .i64 l, .int .i64 (km : Int)] 216) (own_hold O1.out hb0 (by rw [HZ0.out]; omega) 1 rfl)
              have g2 := al_cell (x := .cells #[.string z, .bool d, .bool m, .int .i64 l, .int .i64 (km : Int)] 216) (own_hold O1.out hb0 (by rw [HZ0.out]; omega) 2 rfl)
              have g3 := al_cell (x := .cells #[.string z, .bool d, .bool m, .int .i64 l, .int .i64 (km : Int)] 216) (own_hold O1.out hb0 (by rw [HZ0.out]; omega) 3 rfl)
              have g4 := al_cell (x := .cells #[.string z, .bool d, .bool m, .int .i64 l, .int .i64 (km : Int)] 216) (own_hold O1.out hb0 (by rw [HZ0.out]; omega) 4 rfl)
              have g5 := al_cell (x := .cells #[.string z, .bool d, .bool m, .int .i64 l, .int .i64 (km : Int)] 216) (own_hold O1.out hb0 (by rw [HZ0.out]; omega) 5 rfl)
              clear hb0 hb2 o2 hz2 hW2
              go_wp2_with fail
              rw [HW2.out]
              clear g0 g1 g2 g3 g4 g5
              refine (Q1.out _).mono ?_; rintro e w1 ⟨rfl, hb1⟩
              have HC1 := Lib.hid hb1
              have HD1 := Lib.hid (HB2.out.trans (hb1.mono HB2.out.size))
              clear hb1
              have g0 := own_hold O1.out HD1.out (by rw [HZ0.out]; omega) 0 rfl
              have g1 := own_hold O1.out HD1.out (by rw [HZ0.out]; omega) 1 rfl
              have g2 := own_hold O1.out HD1.out (by rw [HZ0.out]; omega) 2 rfl
              have g3 := own_hold O1.out HD1.out (by rw [HZ0.out]; omega) 3 rfl
              have g4 := own_hold O1.out HD1.out (by rw [HZ0.out]; omega) 4 rfl
              have g5 := own_hold O1.out HD1.out (by rw [HZ0.out]; omega) 5 rfl
              have f0 := own_hold O2.out HC1.out (by rw [HZ2.out]; omega) 0 rfl
              have f1 := own_hold O2.out HC1.out (by rw [HZ2.out]; omega) 1 rfl
              have f2 := own_hold O2.out HC1.out (by rw [HZ2.out]; omega) 2 rfl
              have f3 := own_hold O2.out HC1.out (by rw [HZ2.out]; omega) 3 rfl
              have f4 := own_hold O2.out HC1.out (by rw [HZ2.out]; omega) 4 rfl
              go_wp2_with fail
              refine (Q2.out _).mono ?_; rintro e w2 ⟨rfl, hb2⟩
              have HC2 := Lib.hid (HC1.out.trans (hb2.mono HC1.out.size))
              have HD2 := Lib.hid (HD1.out.trans (hb2.mono HD1.out.size))
              clear hb2
              clear g0 g1 g2 g3 g4 g5 f0 f1 f2 f3 f4
              have g0 := own_hold O1.out HD2.out (by rw [HZ0.out]; omega) 0 rfl
              have g1 := own_hold O1.out HD2.out (by rw [HZ0.out]; omega) 1 rfl
              have g2 := own_hold O1.out HD2.out (by rw [HZ0.out]; omega) 2 rfl
              have g3 := own_hold O1.out HD2.out (by rw [HZ0.out]; omega) 3 rfl
              have g4 := own_hold O1.out HD2.out (by rw [HZ0.out]; omega) 4 rfl
              have g5 := own_hold O1.out HD2.out (by rw [HZ0.out]; omega) 5 rfl
              have f0 := own_hold O2.out HC2.out (by rw [HZ2.out]; omega) 0 rfl
              have f1 := own_hold O2.out HC2.out (by rw [HZ2.out]; omega) 1 rfl
              have f2 := own_hold O2.out HC2.out (by rw [HZ2.out]; omega) 2 rfl
              have f3 := own_hold O2.out HC2.out (by rw [HZ2.out]; omega) 3 rfl
              have f4 := own_hold O2.out HC2.out (by rw [HZ2.out]; omega) 4 rfl
              go_wp2_with fail
              refine (Q4.out _ HD2.out).mono ?_; rintro e w4 ⟨rfl, hb4⟩
              have HC4 := Lib.hid (HC2.out.trans (hb4.mono HC2.out.size))
              have HD4 := Lib.hid (HD2.out.trans (hb4.mono HD2.out.size))
              clear hb4
              clear g0 g1 g2 g3 g4 g5 f0 f1 f2 f3 f4
              have g0 := own_hold O1.out HD4.out (by rw [HZ0.out]; omega) 0 rfl
              have g1 := own_hold O1.out HD4.out (by rw [HZ0.out]; omega) 1 rfl
              have g2 := own_hold O1.out HD4.out (by rw [HZ0.out]; omega) 2 rfl
              have g3 := own_hold O1.out HD4.out (by rw [HZ0.out]; omega) 3 rfl
              have g4 := own_hold O1.out HD4.out (by rw [HZ0.out]; omega) 4 rfl
              have g5 := own_hold O1.out HD4.out (by rw [HZ0.out]; omega) 5 rfl
              have f0 := own_hold O2.out HC4.out (by rw [HZ2.out]; omega) 0 rfl
              have f1 := own_hold O2.out HC4.out (by rw [HZ2.out]; omega) 1 rfl
              have f2 := own_hold O2.out HC4.out (by rw [HZ2.out]; omega) 2 rfl
              have f3 := own_hold O2.out HC4.out (by rw [HZ2.out]; omega) 3 rfl
              have f4 := own_hold O2.out HC4.out (by rw [HZ2.out]; omega) 4 rfl
              go_wp2_with fail
              refine (Q5.out _ HD4.out).mono ?_; rintro e w5 ⟨rfl, hb5⟩
              have HC5 := Lib.hid (HC4.out.trans (hb5.mono HC4.out.size))
              have HD5 := Lib.hid (HD4.out.trans (hb5.mono HD4.out.size))
              clear hb5
              clear g0 g1 g2 g3 g4 g5 f0 f1 f2 f3 f4
              have g0 := own_hold O1.out HD5.out (by rw [HZ0.out]; omega) 0 rfl
              have g1 := own_hold O1.out HD5.out (by rw [HZ0.out]; omega) 1 rfl
              have g2 := own_hold O1.out HD5.out (by rw [HZ0.out]; omega) 2 rfl
              have g3 := own_hold O1.out HD5.out (by rw [HZ0.out]; omega) 3 rfl
              have g4 := own_hold O1.out HD5.out (by rw [HZ0.out]; omega) 4 rfl
              have g5 := own_hold O1.out HD5.out (by rw [HZ0.out]; omega) 5 rfl
              have f0 := own_hold O2.out HC5.out (by rw [HZ2.out]; omega) 0 rfl
              have f1 := own_hold O2.out HC5.out (by rw [HZ2.out]; omega) 1 rfl
              have f2 := own_hold O2.out HC5.out (by rw [HZ2.out]; omega) 2 rfl
              have f3 := own_hold O2.out HC5.out (by rw [HZ2.out]; omega) 3 rfl
              have f4 := own_hold O2.out HC5.out (by rw [HZ2.out]; omega) 4 rfl
              go_wp2_with fail
              go_ret
              exact ⟨rfl, HB0.out.trans (HD5.out.mono HB0.out.size)⟩
theorem tell_instr {lo hi : Nat} {w0 : World} (l : List Instr) (hh : hi ≤ w0.heap.size) (hL : LaidS w0) : Tells 118 (fun w cs x => InstrC lo hi w cs x) (fun cs => .agg cs.toArray) instrR w0 l :=
  ⟨enters Tryz.func118 (by decide) rfl, fun w cs x hb _ h => instr_any lo hi w cs x h (Nat.le_trans hh hb.size) (hL.below hb (Nat.le_refl _))⟩
end Go.Proofs.YtkmndgjabkjafaaGreatDoor.Sh6
