/-
  Package show: what is right of ends, states, instructions, blocks, functions, programs, walked.
-/
import Derived.Test.YtkmndgjabkjafaaGreatDoorRights
namespace Go.Proofs.YtkmndgjabkjafaaGreatDoor.Sh6
open Go.RowKit Api Syn WordM Mem Rd5

set_option maxHeartbeats 4000000 in
theorem argN_any (a : Arg) (b : Bool) (h : argN a = b) (w : World) : Calls Tryz.prog 158 #[.agg #[i64 a.kind, str a.s, i64 a.n]] w (Says w b) := by
  obtain ⟨k, x, n⟩ := a
  unfold argN at h
  simp only at h ⊢
  obtain ⟨s, hs⟩ : ∃ s : ByteArray, s = ⟨x.toArray⟩ := ⟨_, rfl⟩
  have e0 := str_empty (x := x) (s := s) (by rw [hs])
  rw [← e0] at h
  rw [show (str x : Value) = .string s by rw [hs]]
  clear hs e0
  subst h
  obtain ⟨t0, h0⟩ : ∃ t, (k == 0) = t := ⟨_, rfl⟩
  obtain ⟨t1, h1⟩ : ∃ t, s.toList.isEmpty = t := ⟨_, rfl⟩
  obtain ⟨t2, h2⟩ : ∃ t, (n == 0) = t := ⟨_, rfl⟩
  rw [h0, h1, h2]
  cases t0 <;> cases t1 <;> cases t2
  all_goals
    go_enter Tryz.func158, Tryz.ntmps158
    go_wp2
    go_ret
    exact ⟨rfl, (Below.refl _ _).alloc (Nat.le_refl _) _⟩
theorem dests_any (lo hi : Nat) (w : World) (v : Value) (l : List Wd) (n : Nat) (hl : Texts lo hi w v l) (hh : hi ≤ w.heap.size) (hn : n ≤ 2) (b : Bool) (h : destsR n l = b) : Calls Tryz.prog 159 #[v, .int .i64 (n : Int)] w (Says w b) := by
  obtain ⟨A, cap, rfl⟩ := hl.form
  obtain ⟨t1, h1⟩ : ∃ t, allR n nameV l = t := ⟨_, rfl⟩
  have Q := Lib.hid (allStr_any lo hi w _ l n _ nameV hl hh (tell_name w l) (by omega))
  rw [h1] at Q
  by_cases hln : l.length = n
  · have hb : b = t1 := by
      rw [← h, ← h1]
      unfold destsR allR
      rw [decide_eq_true hln, decide_eq_true (by omega)]
    subst hb
    subst hln
    have e0 : (l.length == l.length) = true := by simp
    clear h h1 hl
    go_enter Tryz.func159, Tryz.ntmps159
    go_wp2_with fail
    refine (Q.out).mono ?_; rintro e w1 ⟨rfl, hb⟩
    have HB := Lib.hid hb
    clear hb
    go_wp2_with fail
    go_ret
    exact ⟨rfl, HB.out⟩
  · have e0 : (l.length == n) = false := by simp [hln]
    obtain rfl : b = false := by
      rw [← h]
      unfold destsR
      rw [decide_eq_false hln]; rfl
    clear h h1 hl
    go_enter Tryz.func159, Tryz.ntmps159
    go_wp2_with fail
    go_ret
    exact ⟨rfl, Below.refl _ _⟩
set_option maxRecDepth 100000 in
set_option maxHeartbeats 8000000 in
theorem end1 (lo hi : Nat) (w : World) (k ak an n : Int) (a : Wd) (dl : List Wd) (B1 : Option Addr) (c1 : Nat) (hk : k = 1) (kd : Texts lo hi w (.slice B1 dl.length c1) dl) (hh : hi ≤ w.heap.size) : Calls Tryz.prog 119 #[.agg #[i64 k, i64 ak, str a, i64 an, .slice B1 dl.length c1, i64 n]] w (Says w (argN ⟨ak, a, an⟩ && (destsR 1 dl && (n == 0)))) := by
  obtain ⟨t0, h0⟩ : ∃ t, argN ⟨ak, a, an⟩ = t := ⟨_, rfl⟩
  obtain ⟨t1, h1⟩ : ∃ t, destsR 1 dl = t := ⟨_, rfl⟩
  obtain ⟨t2, h2⟩ : ∃ t, (n == 0) = t := ⟨_, rfl⟩
  rw [h0, h1, h2]
  obtain ⟨W, hW⟩ : ∃ W, w.alloc (.cells #[i64 k, i64 ak, str a, i64 an, .slice B1 dl.length c1, i64 n] 45) = W := ⟨_, rfl⟩
  obtain ⟨o1, hb0, hz0⟩ := boxed1 (c := [i64 k, i64 ak, str a, i64 an, .slice B1 dl.length c1, i64 n]) hW
  have O1 := Lib.hid o1
  have HB0 := Lib.hid hb0
  have HZ0 := Lib.hid hz0
  have HW := Lib.hid hW
  have Q0 := Lib.hid fun (w' : World) (hb : Below W.heap.size W w') => (argN_any ⟨ak, a, an⟩ t0 h0 w')
  have Q1 := Lib.hid fun (w' : World) (hb : Below W.heap.size W w') => (show Calls Tryz.prog 159 #[.slice B1 dl.length c1, .int .i64 1] w' (Says w' t1) from dests_any lo hi w' _ dl 1 (Texts.move (Still.of_below ((HB0.out.trans (hb.mono HB0.out.size)).mono hh)) kd) (Nat.le_trans hh (Nat.le_trans HB0.out.size hb.size)) (by decide) t1 h1)
  have e2 : (n == 0) = t2 := h2
  obtain rfl : k = 1 := hk
  clear h0 h1 h2 o1 hb0 hz0 hW kd
  cases t0 with
  | false =>
    go_enter Tryz.func119, Tryz.ntmps119
    go_wp2_with fail
    rw [HW.out]
    refine (Q0.out _ (Below.refl _ _)).mono ?_; rintro e w0 ⟨rfl, hb0⟩
    have HB0x := Lib.hid hb0
    clear hb0
    have g0 := own_hold O1.out HB0x.out (by rw [HZ0.out]; omega) 0 rfl
    have g1 := own_hold O1.out HB0x.out (by rw [HZ0.out]; omega) 1 rfl
    have g2 := own_hold O1.out HB0x.out (by rw [HZ0.out]; omega) 2 rfl
    have g3 := own_hold O1.out HB0x.out (by rw [HZ0.out]; omega) 3 rfl
    have g4 := own_hold O1.out HB0x.out (by rw [HZ0.out]; omega) 4 rfl
    have g5 := own_hold O1.out HB0x.out (by rw [HZ0.out]; omega) 5 rfl
    go_wp2_with fail
    go_ret
    exact ⟨rfl, (HB0.out.trans (HB0x.out.mono HB0.out.size))⟩
  | true =>
    cases t1 with
    | false =>
      go_enter Tryz.func119, Tryz.ntmps119
      go_wp2_with fail
      rw [HW.out]
      refine (Q0.out _ (Below.refl _ _)).mono ?_; rintro e w0 ⟨rfl, hb0⟩
      have HB0x := Lib.hid hb0
      clear hb0
      have g0 := own_hold O1.out HB0x.out (by rw [HZ0.out]; omega) 0 rfl
      have g1 := own_hold O1.out HB0x.out (by rw [HZ0.out]; omega) 1 rfl
      have g2 := own_hold O1.out HB0x.out (by rw [HZ0.out]; omega) 2 rfl
      have g3 := own_hold O1.out HB0x.out (by rw [HZ0.out]; omega) 3 rfl
      have g4 := own_hold O1.out HB0x.out (by rw [HZ0.out]; omega) 4 rfl
      have g5 := own_hold O1.out HB0x.out (by rw [HZ0.out]; omega) 5 rfl
      go_wp2_with fail
      refine (Q1.out _ HB0x.out).mono ?_; rintro e w1 ⟨rfl, hb1⟩
      have HB1x := Lib.hid (HB0x.out.trans (hb1.mono HB0x.out.size))
      clear hb1
      clear g0 g1 g2 g3 g4 g5
      have g0 := own_hold O1.out HB1x.out (by rw [HZ0.out]; omega) 0 rfl
      have g1 := own_hold O1.out HB1x.out (by rw [HZ0.out]; omega) 1 rfl
      have g2 := own_hold O1.out HB1x.out (by rw [HZ0.out]; omega) 2 rfl
      have g3 := own_hold O1.out HB1x.out (by rw [HZ0.out]; omega) 3 rfl
      have g4 := own_hold O1.out HB1x.out (by rw [HZ0.out]; omega) 4 rfl
      have g5 := own_hold O1.out HB1x.out (by rw [HZ0.out]; omega) 5 rfl
      go_wp2_with fail
      go_ret
      exact ⟨rfl, (HB0.out.trans (HB1x.out.mono HB0.out.size))⟩
    | true =>
      cases t2 with
      | false =>
        go_enter Tryz.func119, Tryz.ntmps119
        go_wp2_with fail
        rw [HW.out]
        refine (Q0.out _ (Below.refl _ _)).mono ?_; rintro e w0 ⟨rfl, hb0⟩
        have HB0x := Lib.hid hb0
        clear hb0
        have g0 := own_hold O1.out HB0x.out (by rw [HZ0.out]; omega) 0 rfl
        have g1 := own_hold O1.out HB0x.out (by rw [HZ0.out]; omega) 1 rfl
        have g2 := own_hold O1.out HB0x.out (by rw [HZ0.out]; omega) 2 rfl
        have g3 := own_hold O1.out HB0x.out (by rw [HZ0.out]; omega) 3 rfl
        have g4 := own_hold O1.out HB0x.out (by rw [HZ0.out]; omega) 4 rfl
        have g5 := own_hold O1.out HB0x.out (by rw [HZ0.out]; omega) 5 rfl
        go_wp2_with fail
        refine (Q1.out _ HB0x.out).mono ?_; rintro e w1 ⟨rfl, hb1⟩
        have HB1x := Lib.hid (HB0x.out.trans (hb1.mono HB0x.out.size))
        clear hb1
        clear g0 g1 g2 g3 g4 g5
        have g0 := own_hold O1.out HB1x.out (by rw [HZ0.out]; omega) 0 rfl
        have g1 := own_hold O1.out HB1x.out (by rw [HZ0.out]; omega) 1 rfl
        have g2 := own_hold O1.out HB1x.out (by rw [HZ0.out]; omega) 2 rfl
        have g3 := own_hold O1.out HB1x.out (by rw [HZ0.out]; omega) 3 rfl
        have g4 := own_hold O1.out HB1x.out (by rw [HZ0.out]; omega) 4 rfl
        have g5 := own_hold O1.out HB1x.out (by rw [HZ0.out]; omega) 5 rfl
        go_wp2_with fail
        go_ret
        exact ⟨rfl, (HB0.out.trans (HB1x.out.mono HB0.out.size))⟩
      | true =>
        go_enter Tryz.func119, Tryz.ntmps119
        go_wp2_with fail
        rw [HW.out]
        refine (Q0.out _ (Below.refl _ _)).mono ?_; rintro e w0 ⟨rfl, hb0⟩
        have HB0x := Lib.hid hb0
        clear hb0
        have g0 := own_hold O1.out HB0x.out (by rw [HZ0.out]; omega) 0 rfl
        have g1 := own_hold O1.out HB0x.out (by rw [HZ0.out]; omega) 1 rfl
        have g2 := own_hold O1.out HB0x.out (by rw [HZ0.out]; omega) 2 rfl
        have g3 := own_hold O1.out HB0x.out (by rw [HZ0.out]; omega) 3 rfl
        have g4 := own_hold O1.out HB0x.out (by rw [HZ0.out]; omega) 4 rfl
        have g5 := own_hold O1.out HB0x.out (by rw [HZ0.out]; omega) 5 rfl
        go_wp2_with fail
        refine (Q1.out _ HB0x.out).mono ?_; rintro e w1 ⟨rfl, hb1⟩
        have HB1x := Lib.hid (HB0x.out.trans (hb1.mono HB0x.out.size))
        clear hb1
        clear g0 g1 g2 g3 g4 g5
        have g0 := own_hold O1.out HB1x.out (by rw [HZ0.out]; omega) 0 rfl
        have g1 := own_hold O1.out HB1x.out (by rw [HZ0.out]; omega) 1 rfl
        have g2 := own_hold O1.out HB1x.out (by rw [HZ0.out]; omega) 2 rfl
        have g3 := own_hold O1.out HB1x.out (by rw [HZ0.out]; omega) 3 rfl
        have g4 := own_hold O1.out HB1x.out (by rw [HZ0.out]; omega) 4 rfl
        have g5 := own_hold O1.out HB1x.out (by rw [HZ0.out]; omega) 5 rfl
        go_wp2_with fail
        go_ret
        exact ⟨rfl, (HB0.out.trans (HB1x.out.mono HB0.out.size))⟩
set_option maxRecDepth 100000 in
set_option maxHeartbeats 8000000 in
theorem end2 (lo hi : Nat) (w : World) (k ak an n : Int) (a : Wd) (dl : List Wd) (B1 : Option Addr) (c1 : Nat) (hk : k = 2) (kd : Texts lo hi w (.slice B1 dl.length c1) dl) (hh : hi ≤ w.heap.size) : Calls Tryz.prog 119 #[.agg #[i64 k, i64 ak, str a, i64 an, .slice B1 dl.length c1, i64 n]] w (Says w (argX ⟨ak, a, an⟩ && (destsR 2 dl && (n == 0)))) := by
  obtain ⟨t0, h0⟩ : ∃ t, argX ⟨ak, a, an⟩ = t := ⟨_, rfl⟩
  obtain ⟨t1, h1⟩ : ∃ t, destsR 2 dl = t := ⟨_, rfl⟩
  obtain ⟨t2, h2⟩ : ∃ t, (n == 0) = t := ⟨_, rfl⟩
  rw [h0, h1, h2]
  obtain ⟨W, hW⟩ : ∃ W, w.alloc (.cells #[i64 k, i64 ak, str a, i64 an, .slice B1 dl.length c1, i64 n] 45) = W := ⟨_, rfl⟩
  obtain ⟨o1, hb0, hz0⟩ := boxed1 (c := [i64 k, i64 ak, str a, i64 an, .slice B1 dl.length c1, i64 n]) hW
  have O1 := Lib.hid o1
  have HB0 := Lib.hid hb0
  have HZ0 := Lib.hid hz0
  have HW := Lib.hid hW
  have Q0 := Lib.hid fun (w' : World) (hb : Below W.heap.size W w') => (show Calls Tryz.prog 156 #[.agg #[i64 ak, str a, i64 an]] w' (Says w' t0) from by rw [← h0]; exact argX_any 0 0 w' _ ⟨ak, a, an⟩ rfl (Nat.zero_le _))
  have Q1 := Lib.hid fun (w' : World) (hb : Below W.heap.size W w') => (show Calls Tryz.prog 159 #[.slice B1 dl.length c1, .int .i64 2] w' (Says w' t1) from dests_any lo hi w' _ dl 2 (Texts.move (Still.of_below ((HB0.out.trans (hb.mono HB0.out.size)).mono hh)) kd) (Nat.le_trans hh (Nat.le_trans HB0.out.size hb.size)) (by decide) t1 h1)
  have e2 : (n == 0) = t2 := h2
  obtain rfl : k = 2 := hk
  clear h0 h1 h2 o1 hb0 hz0 hW kd
  cases t0 with
  | false =>
    go_enter Tryz.func119, Tryz.ntmps119
    go_wp2_with fail
    rw [HW.out]
    refine (Q0.out _ (Below.refl _ _)).mono ?_; rintro e w0 ⟨rfl, hb0⟩
    have HB0x := Lib.hid hb0
    clear hb0
    have g0 := own_hold O1.out HB0x.out (by rw [HZ0.out]; omega) 0 rfl
    have g1 := own_hold O1.out HB0x.out (by rw [HZ0.out]; omega) 1 rfl
    have g2 := own_hold O1.out HB0x.out (by rw [HZ0.out]; omega) 2 rfl
    have g3 := own_hold O1.out HB0x.out (by rw [HZ0.out]; omega) 3 rfl
    have g4 := own_hold O1.out HB0x.out (by rw [HZ0.out]; omega) 4 rfl
    have g5 := own_hold O1.out HB0x.out (by rw [HZ0.out]; omega) 5 rfl
    go_wp2_with fail
    go_ret
    exact ⟨rfl, (HB0.out.trans (HB0x.out.mono HB0.out.size))⟩
  | true =>
    cases t1 with
    | false =>
      go_enter Tryz.func119, Tryz.ntmps119
      go_wp2_with fail
      rw [HW.out]
      refine (Q0.out _ (Below.refl _ _)).mono ?_; rintro e w0 ⟨rfl, hb0⟩
      have HB0x := Lib.hid hb0
      clear hb0
      have g0 := own_hold O1.out HB0x.out (by rw [HZ0.out]; omega) 0 rfl
      have g1 := own_hold O1.out HB0x.out (by rw [HZ0.out]; omega) 1 rfl
      have g2 := own_hold O1.out HB0x.out (by rw [HZ0.out]; omega) 2 rfl
      have g3 := own_hold O1.out HB0x.out (by rw [HZ0.out]; omega) 3 rfl
      have g4 := own_hold O1.out HB0x.out (by rw [HZ0.out]; omega) 4 rfl
      have g5 := own_hold O1.out HB0x.out (by rw [HZ0.out]; omega) 5 rfl
      go_wp2_with fail
      refine (Q1.out _ HB0x.out).mono ?_; rintro e w1 ⟨rfl, hb1⟩
      have HB1x := Lib.hid (HB0x.out.trans (hb1.mono HB0x.out.size))
      clear hb1
      clear g0 g1 g2 g3 g4 g5
      have g0 := own_hold O1.out HB1x.out (by rw [HZ0.out]; omega) 0 rfl
      have g1 := own_hold O1.out HB1x.out (by rw [HZ0.out]; omega) 1 rfl
      have g2 := own_hold O1.out HB1x.out (by rw [HZ0.out]; omega) 2 rfl
      have g3 := own_hold O1.out HB1x.out (by rw [HZ0.out]; omega) 3 rfl
      have g4 := own_hold O1.out HB1x.out (by rw [HZ0.out]; omega) 4 rfl
      have g5 := own_hold O1.out HB1x.out (by rw [HZ0.out]; omega) 5 rfl
      go_wp2_with fail
      go_ret
      exact ⟨rfl, (HB0.out.trans (HB1x.out.mono HB0.out.size))⟩
    | true =>
      cases t2 with
      | false =>
        go_enter Tryz.func119, Tryz.ntmps119
        go_wp2_with fail
        rw [HW.out]
        refine (Q0.out _ (Below.refl _ _)).mono ?_; rintro e w0 ⟨rfl, hb0⟩
        have HB0x := Lib.hid hb0
        clear hb0
        have g0 := own_hold O1.out HB0x.out (by rw [HZ0.out]; omega) 0 rfl
        have g1 := own_hold O1.out HB0x.out (by rw [HZ0.out]; omega) 1 rfl
        have g2 := own_hold O1.out HB0x.out (by rw [HZ0.out]; omega) 2 rfl
        have g3 := own_hold O1.out HB0x.out (by rw [HZ0.out]; omega) 3 rfl
        have g4 := own_hold O1.out HB0x.out (by rw [HZ0.out]; omega) 4 rfl
        have g5 := own_hold O1.out HB0x.out (by rw [HZ0.out]; omega) 5 rfl
        go_wp2_with fail
        refine (Q1.out _ HB0x.out).mono ?_; rintro e w1 ⟨rfl, hb1⟩
        have HB1x := Lib.hid (HB0x.out.trans (hb1.mono HB0x.out.size))
        clear hb1
        clear g0 g1 g2 g3 g4 g5
        have g0 := own_hold O1.out HB1x.out (by rw [HZ0.out]; omega) 0 rfl
        have g1 := own_hold O1.out HB1x.out (by rw [HZ0.out]; omega) 1 rfl
        have g2 := own_hold O1.out HB1x.out (by rw [HZ0.out]; omega) 2 rfl
        have g3 := own_hold O1.out HB1x.out (by rw [HZ0.out]; omega) 3 rfl
        have g4 := own_hold O1.out HB1x.out (by rw [HZ0.out]; omega) 4 rfl
        have g5 := own_hold O1.out HB1x.out (by rw [HZ0.out]; omega) 5 rfl
        go_wp2_with fail
        go_ret
        exact ⟨rfl, (HB0.out.trans (HB1x.out.mono HB0.out.size))⟩
      | true =>
        go_enter Tryz.func119, Tryz.ntmps119
        go_wp2_with fail
        rw [HW.out]
        refine (Q0.out _ (Below.refl _ _)).mono ?_; rintro e w0 ⟨rfl, hb0⟩
        have HB0x := Lib.hid hb0
        clear hb0
        have g0 := own_hold O1.out HB0x.out (by rw [HZ0.out]; omega) 0 rfl
        have g1 := own_hold O1.out HB0x.out (by rw [HZ0.out]; omega) 1 rfl
        have g2 := own_hold O1.out HB0x.out (by rw [HZ0.out]; omega) 2 rfl
        have g3 := own_hold O1.out HB0x.out (by rw [HZ0.out]; omega) 3 rfl
        have g4 := own_hold O1.out HB0x.out (by rw [HZ0.out]; omega) 4 rfl
        have g5 := own_hold O1.out HB0x.out (by rw [HZ0.out]; omega) 5 rfl
        go_wp2_with fail
        refine (Q1.out _ HB0x.out).mono ?_; rintro e w1 ⟨rfl, hb1⟩
        have HB1x := Lib.hid (HB0x.out.trans (hb1.mono HB0x.out.size))
        clear hb1
        clear g0 g1 g2 g3 g4 g5
        have g0 := own_hold O1.out HB1x.out (by rw [HZ0.out]; omega) 0 rfl
        have g1 := own_hold O1.out HB1x.out (by rw [HZ0.out]; omega) 1 rfl
        have g2 := own_hold O1.out HB1x.out (by rw [HZ0.out]; omega) 2 rfl
        have g3 := own_hold O1.out HB1x.out (by rw [HZ0.out]; omega) 3 rfl
        have g4 := own_hold O1.out HB1x.out (by rw [HZ0.out]; omega) 4 rfl
        have g5 := own_hold O1.out HB1x.out (by rw [HZ0.out]; omega) 5 rfl
        go_wp2_with fail
        go_ret
        exact ⟨rfl, (HB0.out.trans (HB1x.out.mono HB0.out.size))⟩
set_option maxRecDepth 100000 in
set_option maxHeartbeats 8000000 in
theorem end3 (lo hi : Nat) (w : World) (k ak an n : Int) (a : Wd) (dl : List Wd) (B1 : Option Addr) (c1 : Nat) (hk : k = 3) (kd : Texts lo hi w (.slice B1 dl.length c1) dl) (hh : hi ≤ w.heap.size) : Calls Tryz.prog 119 #[.agg #[i64 k, i64 ak, str a, i64 an, .slice B1 dl.length c1, i64 n]] w (Says w (argX ⟨ak, a, an⟩ && (destsR 0 dl && (n == 0)))) := by
  obtain ⟨t0, h0⟩ : ∃ t, argX ⟨ak, a, an⟩ = t := ⟨_, rfl⟩
  obtain ⟨t1, h1⟩ : ∃ t, destsR 0 dl = t := ⟨_, rfl⟩
  obtain ⟨t2, h2⟩ : ∃ t, (n == 0) = t := ⟨_, rfl⟩
  rw [h0, h1, h2]
  obtain ⟨W, hW⟩ : ∃ W, w.alloc (.cells #[i64 k, i64 ak, str a, i64 an, .slice B1 dl.length c1, i64 n] 45) = W := ⟨_, rfl⟩
  obtain ⟨o1, hb0, hz0⟩ := boxed1 (c := [i64 k, i64 ak, str a, i64 an, .slice B1 dl.length c1, i64 n]) hW
  have O1 := Lib.hid o1
  have HB0 := Lib.hid hb0
  have HZ0 := Lib.hid hz0
  have HW := Lib.hid hW
  have Q0 := Lib.hid fun (w' : World) (hb : Below W.heap.size W w') => (show Calls Tryz.prog 156 #[.agg #[i64 ak, str a, i64 an]] w' (Says w' t0) from by rw [← h0]; exact argX_any 0 0 w' _ ⟨ak, a, an⟩ rfl (Nat.zero_le _))
  have Q1 := Lib.hid fun (w' : World) (hb : Below W.heap.size W w') => (show Calls Tryz.prog 159 #[.slice B1 dl.length c1, .int .i64 0] w' (Says w' t1) from dests_any lo hi w' _ dl 0 (Texts.move (Still.of_below ((HB0.out.trans (hb.mono HB0.out.size)).mono hh)) kd) (Nat.le_trans hh (Nat.le_trans HB0.out.size hb.size)) (by decide) t1 h1)
  have e2 : (n == 0) = t2 := h2
  obtain rfl : k = 3 := hk
  clear h0 h1 h2 o1 hb0 hz0 hW kd
  cases t0 with
  | false =>
    go_enter Tryz.func119, Tryz.ntmps119
    go_wp2_with fail
    rw [HW.out]
    refine (Q0.out _ (Below.refl _ _)).mono ?_; rintro e w0 ⟨rfl, hb0⟩
    have HB0x := Lib.hid hb0
    clear hb0
    have g0 := own_hold O1.out HB0x.out (by rw [HZ0.out]; omega) 0 rfl
    have g1 := own_hold O1.out HB0x.out (by rw [HZ0.out]; omega) 1 rfl
    have g2 := own_hold O1.out HB0x.out (by rw [HZ0.out]; omega) 2 rfl
    have g3 := own_hold O1.out HB0x.out (by rw [HZ0.out]; omega) 3 rfl
    have g4 := own_hold O1.out HB0x.out (by rw [HZ0.out]; omega) 4 rfl
    have g5 := own_hold O1.out HB0x.out (by rw [HZ0.out]; omega) 5 rfl
    go_wp2_with fail
    go_ret
    exact ⟨rfl, (HB0.out.trans (HB0x.out.mono HB0.out.size))⟩
  | true =>
    cases t1 with
    | false =>
      go_enter Tryz.func119, Tryz.ntmps119
      go_wp2_with fail
      rw [HW.out]
      refine (Q0.out _ (Below.refl _ _)).mono ?_; rintro e w0 ⟨rfl, hb0⟩
      have HB0x := Lib.hid hb0
      clear hb0
      have g0 := own_hold O1.out HB0x.out (by rw [HZ0.out]; omega) 0 rfl
      have g1 := own_hold O1.out HB0x.out (by rw [HZ0.out]; omega) 1 rfl
      have g2 := own_hold O1.out HB0x.out (by rw [HZ0.out]; omega) 2 rfl
      have g3 := own_hold O1.out HB0x.out (by rw [HZ0.out]; omega) 3 rfl
      have g4 := own_hold O1.out HB0x.out (by rw [HZ0.out]; omega) 4 rfl
      have g5 := own_hold O1.out HB0x.out (by rw [HZ0.out]; omega) 5 rfl
      go_wp2_with fail
      refine (Q1.out _ HB0x.out).mono ?_; rintro e w1 ⟨rfl, hb1⟩
      have HB1x := Lib.hid (HB0x.out.trans (hb1.mono HB0x.out.size))
      clear hb1
      clear g0 g1 g2 g3 g4 g5
      have g0 := own_hold O1.out HB1x.out (by rw [HZ0.out]; omega) 0 rfl
      have g1 := own_hold O1.out HB1x.out (by rw [HZ0.out]; omega) 1 rfl
      have g2 := own_hold O1.out HB1x.out (by rw [HZ0.out]; omega) 2 rfl
      have g3 := own_hold O1.out HB1x.out (by rw [HZ0.out]; omega) 3 rfl
      have g4 := own_hold O1.out HB1x.out (by rw [HZ0.out]; omega) 4 rfl
      have g5 := own_hold O1.out HB1x.out (by rw [HZ0.out]; omega) 5 rfl
      go_wp2_with fail
      go_ret
      exact ⟨rfl, (HB0.out.trans (HB1x.out.mono HB0.out.size))⟩
    | true =>
      cases t2 with
      | false =>
        go_enter Tryz.func119, Tryz.ntmps119
        go_wp2_with fail
        rw [HW.out]
        refine (Q0.out _ (Below.refl _ _)).mono ?_; rintro e w0 ⟨rfl, hb0⟩
        have HB0x := Lib.hid hb0
        clear hb0
        have g0 := own_hold O1.out HB0x.out (by rw [HZ0.out]; omega) 0 rfl
        have g1 := own_hold O1.out HB0x.out (by rw [HZ0.out]; omega) 1 rfl
        have g2 := own_hold O1.out HB0x.out (by rw [HZ0.out]; omega) 2 rfl
        have g3 := own_hold O1.out HB0x.out (by rw [HZ0.out]; omega) 3 rfl
        have g4 := own_hold O1.out HB0x.out (by rw [HZ0.out]; omega) 4 rfl
        have g5 := own_hold O1.out HB0x.out (by rw [HZ0.out]; omega) 5 rfl
        go_wp2_with fail
        refine (Q1.out _ HB0x.out).mono ?_; rintro e w1 ⟨rfl, hb1⟩
        have HB1x := Lib.hid (HB0x.out.trans (hb1.mono HB0x.out.size))
        clear hb1
        clear g0 g1 g2 g3 g4 g5
        have g0 := own_hold O1.out HB1x.out (by rw [HZ0.out]; omega) 0 rfl
        have g1 := own_hold O1.out HB1x.out (by rw [HZ0.out]; omega) 1 rfl
        have g2 := own_hold O1.out HB1x.out (by rw [HZ0.out]; omega) 2 rfl
        have g3 := own_hold O1.out HB1x.out (by rw [HZ0.out]; omega) 3 rfl
        have g4 := own_hold O1.out HB1x.out (by rw [HZ0.out]; omega) 4 rfl
        have g5 := own_hold O1.out HB1x.out (by rw [HZ0.out]; omega) 5 rfl
        go_wp2_with fail
        go_ret
        exact ⟨rfl, (HB0.out.trans (HB1x.out.mono HB0.out.size))⟩
      | true =>
        go_enter Tryz.func119, Tryz.ntmps119
        go_wp2_with fail
        rw [HW.out]
        refine (Q0.out _ (Below.refl _ _)).mono ?_; rintro e w0 ⟨rfl, hb0⟩
        have HB0x := Lib.hid hb0
        clear hb0
        have g0 := own_hold O1.out HB0x.out (by rw [HZ0.out]; omega) 0 rfl
        have g1 := own_hold O1.out HB0x.out (by rw [HZ0.out]; omega) 1 rfl
        have g2 := own_hold O1.out HB0x.out (by rw [HZ0.out]; omega) 2 rfl
        have g3 := own_hold O1.out HB0x.out (by rw [HZ0.out]; omega) 3 rfl
        have g4 := own_hold O1.out HB0x.out (by rw [HZ0.out]; omega) 4 rfl
        have g5 := own_hold O1.out HB0x.out (by rw [HZ0.out]; omega) 5 rfl
        go_wp2_with fail
        refine (Q1.out _ HB0x.out).mono ?_; rintro e w1 ⟨rfl, hb1⟩
        have HB1x := Lib.hid (HB0x.out.trans (hb1.mono HB0x.out.size))
        clear hb1
        clear g0 g1 g2 g3 g4 g5
        have g0 := own_hold O1.out HB1x.out (by rw [HZ0.out]; omega) 0 rfl
        have g1 := own_hold O1.out HB1x.out (by rw [HZ0.out]; omega) 1 rfl
        have g2 := own_hold O1.out HB1x.out (by rw [HZ0.out]; omega) 2 rfl
        have g3 := own_hold O1.out HB1x.out (by rw [HZ0.out]; omega) 3 rfl
        have g4 := own_hold O1.out HB1x.out (by rw [HZ0.out]; omega) 4 rfl
        have g5 := own_hold O1.out HB1x.out (by rw [HZ0.out]; omega) 5 rfl
        go_wp2_with fail
        go_ret
        exact ⟨rfl, (HB0.out.trans (HB1x.out.mono HB0.out.size))⟩
set_option maxRecDepth 100000 in
set_option maxHeartbeats 8000000 in
theorem end4 (lo hi : Nat) (w : World) (k ak an n : Int) (a : Wd) (dl : List Wd) (B1 : Option Addr) (c1 : Nat) (hk : k = 4) (kd : Texts lo hi w (.slice B1 dl.length c1) dl) (hh : hi ≤ w.heap.size) : Calls Tryz.prog 119 #[.agg #[i64 k, i64 ak, str a, i64 an, .slice B1 dl.length c1, i64 n]] w (Says w (argN ⟨ak, a, an⟩ && destsR 0 dl)) := by
  obtain ⟨t0, h0⟩ : ∃ t, argN ⟨ak, a, an⟩ = t := ⟨_, rfl⟩
  obtain ⟨t1, h1⟩ : ∃ t, destsR 0 dl = t := ⟨_, rfl⟩
  rw [h0, h1]
  obtain ⟨W, hW⟩ : ∃ W, w.alloc (.cells #[i64 k, i64 ak, str a, i64 an, .slice B1 dl.length c1, i64 n] 45) = W := ⟨_, rfl⟩
  obtain ⟨o1, hb0, hz0⟩ := boxed1 (c := [i64 k, i64 ak, str a, i64 an, .slice B1 dl.length c1, i64 n]) hW
  have O1 := Lib.hid o1
  have HB0 := Lib.hid hb0
  have HZ0 := Lib.hid hz0
  have HW := Lib.hid hW
  have Q0 := Lib.hid fun (w' : World) (hb : Below W.heap.size W w') => (argN_any ⟨ak, a, an⟩ t0 h0 w')
  have Q1 := Lib.hid fun (w' : World) (hb : Below W.heap.size W w') => (show Calls Tryz.prog 159 #[.slice B1 dl.length c1, .int .i64 0] w' (Says w' t1) from dests_any lo hi w' _ dl 0 (Texts.move (Still.of_below ((HB0.out.trans (hb.mono HB0.out.size)).mono hh)) kd) (Nat.le_trans hh (Nat.le_trans HB0.out.size hb.size)) (by decide) t1 h1)
  obtain rfl : k = 4 := hk
  clear h0 h1 o1 hb0 hz0 hW kd
  cases t0 with
  | false =>
    go_enter Tryz.func119, Tryz.ntmps119
    go_wp2_with fail
    rw [HW.out]
    refine (Q0.out _ (Below.refl _ _)).mono ?_; rintro e w0 ⟨rfl, hb0⟩
    have HB0x := Lib.hid hb0
    clear hb0
    have g0 := own_hold O1.out HB0x.out (by rw [HZ0.out]; omega) 0 rfl
    have g1 := own_hold O1.out HB0x.out (by rw [HZ0.out]; omega) 1 rfl
    have g2 := own_hold O1.out HB0x.out (by rw [HZ0.out]; omega) 2 rfl
    have g3 := own_hold O1.out HB0x.out (by rw [HZ0.out]; omega) 3 rfl
    have g4 := own_hold O1.out HB0x.out (by rw [HZ0.out]; omega) 4 rfl
    have g5 := own_hold O1.out HB0x.out (by rw [HZ0.out]; omega) 5 rfl
    go_wp2_with fail
    go_ret
    exact ⟨rfl, (HB0.out.trans (HB0x.out.mono HB0.out.size))⟩
  | true =>
    cases t1 with
    | false =>
      go_enter Tryz.func119, Tryz.ntmps119
      go_wp2_with fail
      rw [HW.out]
      refine (Q0.out _ (Below.refl _ _)).mono ?_; rintro e w0 ⟨rfl, hb0⟩
      have HB0x := Lib.hid hb0
      clear hb0
      have g0 := own_hold O1.out HB0x.out (by rw [HZ0.out]; omega) 0 rfl
      have g1 := own_hold O1.out HB0x.out (by rw [HZ0.out]; omega) 1 rfl
      have g2 := own_hold O1.out HB0x.out (by rw [HZ0.out]; omega) 2 rfl
      have g3 := own_hold O1.out HB0x.out (by rw [HZ0.out]; omega) 3 rfl
      have g4 := own_hold O1.out HB0x.out (by rw [HZ0.out]; omega) 4 rfl
      have g5 := own_hold O1.out HB0x.out (by rw [HZ0.out]; omega) 5 rfl
      go_wp2_with fail
      refine (Q1.out _ HB0x.out).mono ?_; rintro e w1 ⟨rfl, hb1⟩
      have HB1x := Lib.hid (HB0x.out.trans (hb1.mono HB0x.out.size))
      clear hb1
      clear g0 g1 g2 g3 g4 g5
      have g0 := own_hold O1.out HB1x.out (by rw [HZ0.out]; omega) 0 rfl
      have g1 := own_hold O1.out HB1x.out (by rw [HZ0.out]; omega) 1 rfl
      have g2 := own_hold O1.out HB1x.out (by rw [HZ0.out]; omega) 2 rfl
      have g3 := own_hold O1.out HB1x.out (by rw [HZ0.out]; omega) 3 rfl
      have g4 := own_hold O1.out HB1x.out (by rw [HZ0.out]; omega) 4 rfl
      have g5 := own_hold O1.out HB1x.out (by rw [HZ0.out]; omega) 5 rfl
      go_wp2_with fail
      go_ret
      exact ⟨rfl, (HB0.out.trans (HB1x.out.mono HB0.out.size))⟩
    | true =>
      go_enter Tryz.func119, Tryz.ntmps119
      go_wp2_with fail
      rw [HW.out]
      refine (Q0.out _ (Below.refl _ _)).mono ?_; rintro e w0 ⟨rfl, hb0⟩
      have HB0x := Lib.hid hb0
      clear hb0
      have g0 := own_hold O1.out HB0x.out (by rw [HZ0.out]; omega) 0 rfl
      have g1 := own_hold O1.out HB0x.out (by rw [HZ0.out]; omega) 1 rfl
      have g2 := own_hold O1.out HB0x.out (by rw [HZ0.out]; omega) 2 rfl
      have g3 := own_hold O1.out HB0x.out (by rw [HZ0.out]; omega) 3 rfl
      have g4 := own_hold O1.out HB0x.out (by rw [HZ0.out]; omega) 4 rfl
      have g5 := own_hold O1.out HB0x.out (by rw [HZ0.out]; omega) 5 rfl
      go_wp2_with fail
      refine (Q1.out _ HB0x.out).mono ?_; rintro e w1 ⟨rfl, hb1⟩
      have HB1x := Lib.hid (HB0x.out.trans (hb1.mono HB0x.out.size))
      clear hb1
      clear g0 g1 g2 g3 g4 g5
      have g0 := own_hold O1.out HB1x.out (by rw [HZ0.out]; omega) 0 rfl
      have g1 := own_hold O1.out HB1x.out (by rw [HZ0.out]; omega) 1 rfl
      have g2 := own_hold O1.out HB1x.out (by rw [HZ0.out]; omega) 2 rfl
      have g3 := own_hold O1.out HB1x.out (by rw [HZ0.out]; omega) 3 rfl
      have g4 := own_hold O1.out HB1x.out (by rw [HZ0.out]; omega) 4 rfl
      have g5 := own_hold O1.out HB1x.out (by rw [HZ0.out]; omega) 5 rfl
      go_wp2_with fail
      go_ret
      exact ⟨rfl, (HB0.out.trans (HB1x.out.mono HB0.out.size))⟩
end Go.Proofs.YtkmndgjabkjafaaGreatDoor.Sh6
