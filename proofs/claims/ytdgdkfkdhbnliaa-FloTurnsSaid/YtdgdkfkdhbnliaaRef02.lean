/-
  What the document's own IsNan, Plain, made, truth, Do and OfInt do, walked: what the program's do.
-/
import Derived.Test.YtdgdkfkdhbnliaaFloTurn
namespace Go.Proofs.Ytdgdkfkdhbnliaa.R02
open Go.RowKit NumM FloM

set_option maxHeartbeats 400000 in
theorem isnan_any (n : Int) (w : World) : Calls Try.prog 28 #[.int .i64 n] w fun e w' => e = .returned (.bool (decide (9218868437227405312 < n % 9223372036854775808))) ∧ w = w' := by
  have hv : decide (9218868437227405312 < IntKind.u64.wrap n % 9223372036854775808) = decide (9218868437227405312 < n % 9223372036854775808) := by
    rw [wu64, show n % 18446744073709551616 % 9223372036854775808 = n % 9223372036854775808 by omega]
  have Hv := Lib.hid hv
  have h0 : 0 ≤ IntKind.u64.wrap n := by rw [wu64]; omega
  have h1 : IntKind.u64.wrap n < 18446744073709551616 := by rw [wu64]; omega
  clear hv
  go_enter Try.func28, Try.ntmps28
  go_wp2
  go_ret
  exact ⟨congrArg (fun x => Ending.returned (Value.bool x)) Hv.out, rfl⟩
/-- .. with its answer. -/
theorem isnan_at (n : Int) (x : Bool) (h : decide (9218868437227405312 < n % 9223372036854775808) = x) (w : World) : Calls Try.prog 28 #[.int .i64 n] w fun e w' => e = .returned (.bool x) ∧ w = w' := by
  subst h; exact isnan_any n w

set_option maxHeartbeats 400000 in
theorem plain_any (n : Int) (w : World) : Calls Try.prog 15 #[.int .i64 n] w fun e w' => e = .returned (.int .i64 (plainV n)) ∧ w = w' := by
  by_cases h : 9218868437227405312 < n % 9223372036854775808
  · have hv : plainV n = 9221120237041090560 := by unfold plainV; rw [if_pos h]
    rw [hv]
    have H := Lib.hid (decide_eq_true h)
    clear hv h
    go_enter Try.func15, Try.ntmps15
    go_wp2_with (go_at_call 28; refine (isnan_at _ true H.out _).mono ?_; rintro e w' ⟨rfl, rfl⟩)
    go_ret
    exact ⟨rfl, rfl⟩
  · have hv : plainV n = n := by unfold plainV; rw [if_neg h]
    rw [hv]
    have H := Lib.hid (decide_eq_false h)
    clear hv h
    go_enter Try.func15, Try.ntmps15
    go_wp2_with (go_at_call 28; refine (isnan_at _ false H.out _).mono ?_; rintro e w' ⟨rfl, rfl⟩)
    go_ret
    exact ⟨rfl, rfl⟩

set_option maxHeartbeats 400000 in
theorem made_any (b : Nat) (v : Int) (h : nn b ∧ v = 9221120237041090560 ∨ ¬ nn b ∧ v = wrap64 b) (w : World) : Calls Try.prog 30 #[.float .f64 b] w fun e w' => e = .returned (.int .i64 v) ∧ w = w' := by
  have hr := fun (b : Nat) w => run_bits b w
  rcases h with ⟨h, rfl⟩ | ⟨h, rfl⟩
  · have hs := ne_self h
    clear h
    go_enter Try.func30, Try.ntmps30
    go_wp2
    go_ret
    exact ⟨rfl, rfl⟩
  · have hs := eq_self h
    clear h
    go_enter Try.func30, Try.ntmps30
    go_wp2
    go_ret
    exact ⟨rfl, rfl⟩

set_option maxHeartbeats 400000 in
theorem truth_any (x : Bool) (w : World) : Calls Try.prog 31 #[.bool x] w fun e w' => e = .returned (.int .i64 (tr x)) ∧ w = w' := by
  cases x
  all_goals
    go_enter Try.func31, Try.ntmps31
    go_wp2
    go_ret
    exact ⟨rfl, rfl⟩

set_option maxHeartbeats 400000 in
theorem ofint_any (n : Int) (w : World) : Calls Try.prog 17 #[.int .i64 n] w fun e w' => e = .returned (.int .i64 (ofV n)) ∧ w = w' := by
  have hv : Hid (¬ nn (floatOfInt .f64 n)) := Lib.hid (near_of n).1
  go_enter Try.func17, Try.ntmps17
  go_wp2_with (go_at_call 30; refine (made_any _ _ (.inr ⟨hv.out, rfl⟩) _).mono ?_; rintro e w' ⟨rfl, rfl⟩)
  go_ret
  exact ⟨rfl, rfl⟩

theorem same_kind (r : Nat) (w : World) : (convert 34 34 (.float .f64 r)).run Try.prog w = .ok (.float .f64 r) w :=
  run_convert_float_float w 34 34 .f64 .f64 r r (by rw [Try.underlying34]; rfl) Try.underlying34 (by simp [floatToFloatBits])

theorem told {n : Int} (h : ¬ 9218868437227405312 < n % 9223372036854775808) : (IntKind.u64.wrap n).toNat = fl n := by
  unfold fl plainV; rw [if_neg h, wu64]; rfl

theorem op_cases (op : Int) (h : 15 ≤ op ∧ op ≤ 21) : op = 15 ∨ op = 16 ∨ op = 17 ∨ op = 18 ∨ op = 19 ∨ op = 20 ∨ op = 21 := by omega

/-- what NaN makes. -/
theorem do_nan (op a b : Int) (h : nn (ub a) ∨ nn (ub b)) (hop : 15 ≤ op ∧ op ≤ 21) : fdo op a b = if op ≤ 18 then 9221120237041090560 else 0 := by
  have hx : nn (fl a) ∨ nn (fl b) := by
    rcases h with h | h
    · left; rw [fl_nan h]; exact nn_nan
    · right; rw [fl_nan h]; exact nn_nan
  have e1 : Ieee.double.add (fl a) (fl b) = none := hx.elim add_nanl add_nanr
  have e2 : Ieee.double.sub (fl a) (fl b) = none := hx.elim sub_nanl sub_nanr
  have e3 : Ieee.double.mul (fl a) (fl b) = none := hx.elim mul_nanl mul_nanr
  have e4 : Ieee.double.div (fl a) (fl b) = none := hx.elim div_nanl div_nanr
  have e5 : Ieee.double.order (fl a) (fl b) = none := hx.elim order_nanl order_nanr
  unfold fdo
  rw [e1, e2, e3, e4, e5]
  rcases op_cases op hop with rfl | rfl | rfl | rfl | rfl | rfl | rfl <;> rfl
theorem nn_of {n : Int} (h : 9218868437227405312 < n % 9223372036854775808) : nn (ub n) := by unfold nn; have := ub_mod n; omega

set_option maxHeartbeats 1000000 in
theorem do_out (op a b : Int) (w : World) (h : op < 15 ∨ 21 < op) :
    Calls Try.prog 11 #[.int .i64 op, .int .i64 a, .int .i64 b] w fun e w' => e = .returned (.tuple #[.int .i64 0, .bool false]) ∧ w = w' := by
  have hc : decide (op < 15) = true ∨ decide (op < 15) = false ∧ decide (21 < op) = true := by simp only [decide_eq_true_eq, decide_eq_false_iff_not]; omega
  clear h
  rcases hc with h1 | ⟨h1, h2⟩
  all_goals
    go_enter Try.func11, Try.ntmps11
    go_wp2
    go_ret2
    exact ⟨rfl, rfl⟩

set_option maxHeartbeats 1000000 in
theorem do_isnan (op a b : Int) (w : World) (hop : 15 ≤ op ∧ op ≤ 21) (h : nn (ub a) ∨ nn (ub b)) :
    Calls Try.prog 11 #[.int .i64 op, .int .i64 a, .int .i64 b] w fun e w' => e = .returned (.tuple #[.int .i64 (fdo op a b), .bool true]) ∧ w = w' := by
  rw [do_nan op a b h hop]
  have h1 : decide (op < 15) = false := decide_eq_false (by omega)
  have h2 : decide (21 < op) = false := decide_eq_false (by omega)
  have ma := ub_mod a
  have mb := ub_mod b
  unfold nn at h
  have hc : decide (9218868437227405312 < a % 9223372036854775808) = true ∨ decide (9218868437227405312 < a % 9223372036854775808) = false ∧ decide (9218868437227405312 < b % 9223372036854775808) = true := by
    simp only [decide_eq_true_eq, decide_eq_false_iff_not]; omega
  clear ma mb h hop
  by_cases h18 : op ≤ 18
  · rw [if_pos h18]
    have h3 : decide (op ≤ 18) = true := decide_eq_true h18
    clear h18
    rcases hc with c1 | ⟨c1, c2⟩
    · have C1 := Lib.hid fun w => isnan_at a true c1 w
      clear c1
      go_enter Try.func11, Try.ntmps11
      go_wp2_with (go_at_call 28; refine (C1.out _).mono ?_; rintro e w' ⟨rfl, rfl⟩)
      go_ret2
      exact ⟨rfl, rfl⟩
    · have C1 := Lib.hid fun w => isnan_at a false c1 w
      have C2 := Lib.hid fun w => isnan_at b true c2 w
      clear c1 c2
      go_enter Try.func11, Try.ntmps11
      go_wp2_with (first | (go_at_call 28; (with_reducible refine (C1.out _).mono ?_); rintro e w' ⟨rfl, rfl⟩) | (go_at_call 28; (with_reducible refine (C2.out _).mono ?_); rintro e w' ⟨rfl, rfl⟩))
      go_ret2
      exact ⟨rfl, rfl⟩
  · rw [if_neg h18]
    have h3 : decide (op ≤ 18) = false := decide_eq_false h18
    clear h18
    rcases hc with c1 | ⟨c1, c2⟩
    · have C1 := Lib.hid fun w => isnan_at a true c1 w
      clear c1
      go_enter Try.func11, Try.ntmps11
      go_wp2_with (go_at_call 28; refine (C1.out _).mono ?_; rintro e w' ⟨rfl, rfl⟩)
      go_ret2
      exact ⟨rfl, rfl⟩
    · have C1 := Lib.hid fun w => isnan_at a false c1 w
      have C2 := Lib.hid fun w => isnan_at b true c2 w
      clear c1 c2
      go_enter Try.func11, Try.ntmps11
      go_wp2_with (first | (go_at_call 28; (with_reducible refine (C1.out _).mono ?_); rintro e w' ⟨rfl, rfl⟩) | (go_at_call 28; (with_reducible refine (C2.out _).mono ?_); rintro e w' ⟨rfl, rfl⟩))
      go_ret2
      exact ⟨rfl, rfl⟩

theorem made_of (r : Nat) (o : Option Nat) (hr : plainV (wrap64 (r : Int)) = fr o) (hn : nn r ↔ o = none) (hlt : r < 18446744073709551616) : nn r ∧ fr o = 9221120237041090560 ∨ ¬ nn r ∧ fr o = wrap64 r := by
  by_cases h : nn r
  · left; rw [hn.1 h]; exact ⟨h, rfl⟩
  · right; rw [← hr]; exact ⟨h, plain_wrap ⟨h, hlt⟩⟩
theorem le_of_not (a b : Int) (h : (FloatKind.f64.format.order (fl a) (fl b) == some .lt) = false) : fdo 21 a b = tr (FloatKind.f64.format.order (fl a) (fl b) == some .eq) := by
  show tr (FloatKind.f64.format.order (fl a) (fl b) == some .lt || FloatKind.f64.format.order (fl a) (fl b) == some .eq) = _
  rw [h]; rfl
theorem le_of_lt (a b : Int) (h : (FloatKind.f64.format.order (fl a) (fl b) == some .lt) = true) : fdo 21 a b = 1 := by
  show tr (FloatKind.f64.format.order (fl a) (fl b) == some .lt || FloatKind.f64.format.order (fl a) (fl b) == some .eq) = _
  rw [h]; rfl

set_option maxHeartbeats 1000000 in
theorem do_num (op a b : Int) (w : World) (hop : 15 ≤ op ∧ op ≤ 21) (h : ¬ (nn (ub a) ∨ nn (ub b))) :
    Calls Try.prog 11 #[.int .i64 op, .int .i64 a, .int .i64 b] w fun e w' => e = .returned (.tuple #[.int .i64 (fdo op a b), .bool true]) ∧ Below w.heap.size w w' := by
  have ma := ub_mod a
  have mb := ub_mod b
  unfold nn at h
  have ca : ¬ 9218868437227405312 < a % 9223372036854775808 := by omega
  have cb : ¬ 9218868437227405312 < b % 9223372036854775808 := by omega
  have ta := told ca
  have tb := told cb
  have C1 := Lib.hid fun w => isnan_at a false (decide_eq_false ca) w
  have C2 := Lib.hid fun w => isnan_at b false (decide_eq_false cb) w
  have hr := fun (m : Int) w => run_from m w
  have hk := fun (r : Nat) w => same_kind r w
  clear ma mb h ca cb
  rcases op_cases op hop with rfl | rfl | rfl | rfl | rfl | rfl | rfl
  · obtain ⟨r, w1, hrun, hb, h1, h2, h3⟩ := run_fop (P := Try.prog) .add (by simp) (fl a) (fl b) w
    have Hm := Lib.hid fun w => made_any r (fdo 15 a b) (made_of r _ h1 h2 h3) w
    clear h1 h2 h3 hop
    go_enter Try.func11, Try.ntmps11
    go_wp2_with (first | (go_at_call 28; (with_reducible refine (C1.out _).mono ?_); rintro e w' ⟨rfl, rfl⟩) | (go_at_call 28; (with_reducible refine (C2.out _).mono ?_); rintro e w' ⟨rfl, rfl⟩) | (go_at_call 30; (with_reducible refine (Hm.out _).mono ?_); rintro e w' ⟨rfl, rfl⟩))
    go_ret2
    exact ⟨rfl, hb⟩
  · obtain ⟨r, w1, hrun, hb, h1, h2, h3⟩ := run_fop (P := Try.prog) .sub (by simp) (fl a) (fl b) w
    have Hm := Lib.hid fun w => made_any r (fdo 16 a b) (made_of r _ h1 h2 h3) w
    clear h1 h2 h3 hop
    go_enter Try.func11, Try.ntmps11
    go_wp2_with (first | (go_at_call 28; (with_reducible refine (C1.out _).mono ?_); rintro e w' ⟨rfl, rfl⟩) | (go_at_call 28; (with_reducible refine (C2.out _).mono ?_); rintro e w' ⟨rfl, rfl⟩) | (go_at_call 30; (with_reducible refine (Hm.out _).mono ?_); rintro e w' ⟨rfl, rfl⟩))
    go_ret2
    exact ⟨rfl, hb⟩
  · obtain ⟨r, w1, hrun, hb, h1, h2, h3⟩ := run_fop (P := Try.prog) .mul (by simp) (fl a) (fl b) w
    have Hm := Lib.hid fun w => made_any r (fdo 17 a b) (made_of r _ h1 h2 h3) w
    clear h1 h2 h3 hop
    go_enter Try.func11, Try.ntmps11
    go_wp2_with (first | (go_at_call 28; (with_reducible refine (C1.out _).mono ?_); rintro e w' ⟨rfl, rfl⟩) | (go_at_call 28; (with_reducible refine (C2.out _).mono ?_); rintro e w' ⟨rfl, rfl⟩) | (go_at_call 30; (with_reducible refine (Hm.out _).mono ?_); rintro e w' ⟨rfl, rfl⟩))
    go_ret2
    exact ⟨rfl, hb⟩
  · obtain ⟨r, w1, hrun, hb, h1, h2, h3⟩ := run_fop (P := Try.prog) .quo (by simp) (fl a) (fl b) w
    have Hm := Lib.hid fun w => made_any r (fdo 18 a b) (made_of r _ h1 h2 h3) w
    clear h1 h2 h3 hop
    go_enter Try.func11, Try.ntmps11
    go_wp2_with (first | (go_at_call 28; (with_reducible refine (C1.out _).mono ?_); rintro e w' ⟨rfl, rfl⟩) | (go_at_call 28; (with_reducible refine (C2.out _).mono ?_); rintro e w' ⟨rfl, rfl⟩) | (go_at_call 30; (with_reducible refine (Hm.out _).mono ?_); rintro e w' ⟨rfl, rfl⟩))
    go_ret2
    exact ⟨rfl, hb⟩
  · clear hop
    go_enter Try.func11, Try.ntmps11
    go_wp2_with (first | (go_at_call 28; (with_reducible refine (C1.out _).mono ?_); rintro e w' ⟨rfl, rfl⟩) | (go_at_call 28; (with_reducible refine (C2.out _).mono ?_); rintro e w' ⟨rfl, rfl⟩) | (go_at_call 31; refine (truth_any _ _).mono ?_; rintro e w' ⟨rfl, rfl⟩))
    go_ret2
    exact ⟨rfl, Below.refl _ _⟩
  · clear hop
    go_enter Try.func11, Try.ntmps11
    go_wp2_with (first | (go_at_call 28; (with_reducible refine (C1.out _).mono ?_); rintro e w' ⟨rfl, rfl⟩) | (go_at_call 28; (with_reducible refine (C2.out _).mono ?_); rintro e w' ⟨rfl, rfl⟩) | (go_at_call 31; refine (truth_any _ _).mono ?_; rintro e w' ⟨rfl, rfl⟩))
    go_ret2
    exact ⟨rfl, Below.refl _ _⟩
  · cases hl : (FloatKind.f64.format.order (fl a) (fl b) == some .lt)
    · have hv : Hid (fdo 21 a b = tr (FloatKind.f64.format.order (fl a) (fl b) == some .eq)) := Lib.hid (le_of_not a b hl)
      clear hop
      go_enter Try.func11, Try.ntmps11
      go_wp2_with (first | (go_at_call 28; (with_reducible refine (C1.out _).mono ?_); rintro e w' ⟨rfl, rfl⟩) | (go_at_call 28; (with_reducible refine (C2.out _).mono ?_); rintro e w' ⟨rfl, rfl⟩) | (go_at_call 31; refine (truth_any _ _).mono ?_; rintro e w' ⟨rfl, rfl⟩))
      go_ret2
      exact ⟨ret_p hv.out.symm rfl, Below.refl _ _⟩
    · have hv : Hid (fdo 21 a b = 1) := Lib.hid (le_of_lt a b hl)
      clear hop
      go_enter Try.func11, Try.ntmps11
      go_wp2_with (first | (go_at_call 28; (with_reducible refine (C1.out _).mono ?_); rintro e w' ⟨rfl, rfl⟩) | (go_at_call 28; (with_reducible refine (C2.out _).mono ?_); rintro e w' ⟨rfl, rfl⟩) | (go_at_call 31; refine (truth_any _ _).mono ?_; rintro e w' ⟨rfl, rfl⟩))
      go_ret2
      exact ⟨ret_p hv.out.symm rfl, Below.refl _ _⟩

/-- the document's Do is the program's. -/
theorem do_any (op a b : Int) (w : World) :
    Calls Try.prog 11 #[.int .i64 op, .int .i64 a, .int .i64 b] w fun e w' => e = .returned (.tuple #[.int .i64 (fdo op a b), .bool (fok op)]) ∧ Below w.heap.size w w' := by
  by_cases hop : 15 ≤ op ∧ op ≤ 21
  · have h2 : fok op = true := decide_eq_true hop
    rw [h2]
    by_cases h : nn (ub a) ∨ nn (ub b)
    · exact (do_isnan op a b w hop h).mono fun e w' ⟨h, h'⟩ => ⟨h, h' ▸ Below.refl _ _⟩
    · exact do_num op a b w hop h
  · have h1 : fdo op a b = 0 := by unfold fdo; repeat (rw [if_neg (by omega)])
    have h2 : fok op = false := decide_eq_false hop
    rw [h1, h2]
    exact (do_out op a b w (by omega)).mono fun e w' ⟨h, h'⟩ => ⟨h, h' ▸ Below.refl _ _⟩

end Go.Proofs.Ytdgdkfkdhbnliaa.R02
