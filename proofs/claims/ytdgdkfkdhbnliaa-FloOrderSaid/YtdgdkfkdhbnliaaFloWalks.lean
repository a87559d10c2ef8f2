/-
  What flo.Plain, flo.number, flo.bits, flo.truth and flo.Do do, on whatever they are given. A result that is no number has whatever bits; what is answered hangs on none of them.
-/
import Derived.Test.YtdgdkfkdhbnliaaRows
import Derived.Test.YtdgdkfkdhbnliaaFloMath
import Derived.Laws.Externs
import Derived.WalkKit
import Derived.WalkSpells
import Derived.WalkLawsBesides
import Derived.Below
import Derived.Lib.Hide
namespace Go.Proofs.Ytdgdkfkdhbnliaa
open Go.RowKit NumM FloM

theorem ret_i {k : IntKind} {a b : Int} (h : a = b) : Ending.returned (Value.int k a) = .returned (.int k b) := by rw [h]
theorem ret_p {a b : Int} {x y : Bool} (h : a = b) (h' : x = y) : Ending.returned (.tuple #[.int .i64 a, .bool x]) = .returned (.tuple #[.int .i64 b, .bool y]) := by rw [h, h']

set_option maxHeartbeats 400000 in
theorem plain_any (n : Int) (w : World) : Calls Try.prog 14 #[.int .i64 n] w fun e w' => e = .returned (.int .i64 (plainV n)) ∧ w = w' := by
  by_cases h : 9218868437227405312 < n % 9223372036854775808
  · have hd : decide (9218868437227405312 < bits .and .i64 n 9223372036854775807) = true := by rw [low63]; simpa using h
    have hv : plainV n = 9221120237041090560 := by unfold plainV; rw [if_pos h]
    rw [hv]
    clear hv h
    go_enter Try.func14, Try.ntmps14
    go_wp2
    go_ret
    exact ⟨rfl, rfl⟩
  · have hd : decide (9218868437227405312 < bits .and .i64 n 9223372036854775807) = false := by rw [low63]; simpa using h
    have hv : plainV n = n := by unfold plainV; rw [if_neg h]
    rw [hv]
    clear hv h
    go_enter Try.func14, Try.ntmps14
    go_wp2
    go_ret
    exact ⟨rfl, rfl⟩

theorem run_from (n : Int) (w : World) : (callFunc 29 #[.int .u64 n]).run Try.prog w = .ok (.value (.float .f64 n.toNat)) w := by
  rw [run_callFunc_extern (P := Try.prog) (e := Extern.MathFloatBits.float64frombits) Try.func29 (by kernel_rfl) (by kernel_rfl) (by kernel_rfl) (by kernel_rfl)]
  rfl
theorem run_bits (b : Nat) (w : World) : (callFunc 34 #[.float .f64 b]).run Try.prog w = .ok (.value (.int .u64 (b : Int))) w := by
  rw [run_callFunc_extern (P := Try.prog) (e := Extern.MathFloatBits.float64bits) Try.func34 (by kernel_rfl) (by kernel_rfl) (by kernel_rfl) (by kernel_rfl)]
  rfl

set_option maxHeartbeats 400000 in
theorem number_any (n : Int) (w : World) : Calls Try.prog 25 #[.int .i64 n] w fun e w' => e = .returned (.float .f64 (fl n)) ∧ w = w' := by
  have hr := fun (m : Int) w => run_from m w
  go_enter Try.func25, Try.ntmps25
  go_wp2_with (go_at_call 14; refine (plain_any _ _).mono ?_; rintro e w' ⟨rfl, rfl⟩)
  go_ret
  exact ⟨rfl, rfl⟩

set_option maxHeartbeats 400000 in
theorem bits_any (b : Nat) (w : World) : Calls Try.prog 26 #[.float .f64 b] w fun e w' => e = .returned (.int .i64 (plainV (wrap64 b))) ∧ w = w' := by
  have hr := fun (b : Nat) w => run_bits b w
  go_enter Try.func26, Try.ntmps26
  go_wp2_with (go_at_call 14; refine (plain_any _ _).mono ?_; rintro e w' ⟨rfl, rfl⟩)
  go_ret
  exact ⟨rfl, rfl⟩

set_option maxHeartbeats 400000 in
theorem ftruth_any (x : Bool) (w : World) : Calls Try.prog 27 #[.bool x] w fun e w' => e = .returned (.int .i64 (tr x)) ∧ w = w' := by
  cases x
  all_goals
    go_enter Try.func27, Try.ntmps27
    go_wp2
    go_ret
    exact ⟨rfl, rfl⟩

/-- '+', '-', '*', '/' on two floats: some float, whose bits, with the one NaN in place of the others, are the IEEE's. -/
theorem run_fop {P : Program} (op : BinOp) (hop : op = .add ∨ op = .sub ∨ op = .mul ∨ op = .quo) (x y : Nat) (w : World) :
    ∃ r w1, (∀ t, (binOp op t (.float .f64 x) (.float .f64 y)).run P w = .ok (.float .f64 r) w1) ∧ Below w.heap.size w w1 ∧ plainV (wrap64 (r : Int)) = fr (floatBits op .f64 x y) ∧ (nn r ↔ floatBits op .f64 x y = none) ∧ r < 18446744073709551616 := by
  cases h : floatBits op .f64 x y with
  | some r =>
    have hr : ¬ nn r ∧ r < 18446744073709551616 := by
      rcases hop with rfl | rfl | rfl | rfl
      · exact add_num h
      · exact sub_num h
      · exact mul_num h
      · exact div_num h
    exact ⟨r, w, fun t => run_float_arith w op t .f64 x y r h, Below.refl _ _, plain_wrap hr, by simp [hr.1], hr.2⟩
  | none =>
    have hc := cut_nan x y (w.tape w.drawn (.nanBits .f64 x y))
    refine ⟨_, w.drew, fun t => ?_, (Below.refl _ _).drew, ?_, ?_, hc.2⟩
    · unfold floatBits at h
      rcases hop with rfl | rfl | rfl | rfl <;> simp only at h <;> simp [binOp, Op.floatArith, h, Question.forced]
      all_goals rfl
    · exact plain_nan (by rw [ub_wrap, ub_nat _ hc.2]; exact hc.1)
    · simp [hc.1]

set_option maxHeartbeats 400000 in
theorem do_arith (op a b : Int) (w : World) (h : op = 15 ∨ op = 16 ∨ op = 17 ∨ op = 18) :
    Calls Try.prog 10 #[.int .i64 op, .int .i64 a, .int .i64 b] w fun e w' => e = .returned (.tuple #[.int .i64 (fdo op a b), .bool true]) ∧ Below w.heap.size w w' := by
  rcases h with rfl | rfl | rfl | rfl
  · obtain ⟨r, w1, hrun, hb, hr, _, _⟩ := run_fop (P := Try.prog) .add (by simp) (fl a) (fl b) w
    have Hr : Hid (plainV (wrap64 (r : Int)) = fdo 15 a b) := Lib.hid (hr.trans rfl)
    clear hr
    go_enter Try.func10, Try.ntmps10
    go_wp2_with (first | (go_at_call 25; refine (number_any _ _).mono ?_; rintro e w' ⟨rfl, rfl⟩) | (go_at_call 26; refine (bits_any _ _).mono ?_; rintro e w' ⟨rfl, rfl⟩))
    go_ret2
    exact ⟨ret_p Hr.out rfl, hb⟩
  · obtain ⟨r, w1, hrun, hb, hr, _, _⟩ := run_fop (P := Try.prog) .sub (by simp) (fl a) (fl b) w
    have Hr : Hid (plainV (wrap64 (r : Int)) = fdo 16 a b) := Lib.hid (hr.trans rfl)
    clear hr
    go_enter Try.func10, Try.ntmps10
    go_wp2_with (first | (go_at_call 25; refine (number_any _ _).mono ?_; rintro e w' ⟨rfl, rfl⟩) | (go_at_call 26; refine (bits_any _ _).mono ?_; rintro e w' ⟨rfl, rfl⟩))
    go_ret2
    exact ⟨ret_p Hr.out rfl, hb⟩
  · obtain ⟨r, w1, hrun, hb, hr, _, _⟩ := run_fop (P := Try.prog) .mul (by simp) (fl a) (fl b) w
    have Hr : Hid (plainV (wrap64 (r : Int)) = fdo 17 a b) := Lib.hid (hr.trans rfl)
    clear hr
    go_enter Try.func10, Try.ntmps10
    go_wp2_with (first | (go_at_call 25; refine (number_any _ _).mono ?_; rintro e w' ⟨rfl, rfl⟩) | (go_at_call 26; refine (bits_any _ _).mono ?_; rintro e w' ⟨rfl, rfl⟩))
    go_ret2
    exact ⟨ret_p Hr.out rfl, hb⟩
  · obtain ⟨r, w1, hrun, hb, hr, _, _⟩ := run_fop (P := Try.prog) .quo (by simp) (fl a) (fl b) w
    have Hr : Hid (plainV (wrap64 (r : Int)) = fdo 18 a b) := Lib.hid (hr.trans rfl)
    clear hr
    go_enter Try.func10, Try.ntmps10
    go_wp2_with (first | (go_at_call 25; refine (number_any _ _).mono ?_; rintro e w' ⟨rfl, rfl⟩) | (go_at_call 26; refine (bits_any _ _).mono ?_; rintro e w' ⟨rfl, rfl⟩))
    go_ret2
    exact ⟨ret_p Hr.out rfl, hb⟩

set_option maxHeartbeats 400000 in
theorem do_order (op a b : Int) (w : World) (h : op = 19 ∨ op = 20 ∨ op = 21) :
    Calls Try.prog 10 #[.int .i64 op, .int .i64 a, .int .i64 b] w fun e w' => e = .returned (.tuple #[.int .i64 (fdo op a b), .bool true]) ∧ w = w' := by
  rcases h with rfl | rfl | rfl
  all_goals
    go_enter Try.func10, Try.ntmps10
    go_wp2_with (first | (go_at_call 25; refine (number_any _ _).mono ?_; rintro e w' ⟨rfl, rfl⟩) | (go_at_call 27; refine (ftruth_any _ _).mono ?_; rintro e w' ⟨rfl, rfl⟩))
    go_ret2
    exact ⟨ret_p rfl rfl, rfl⟩

set_option maxHeartbeats 400000 in
theorem do_other (op a b : Int) (w : World) (h : op < 15 ∨ 21 < op) :
    Calls Try.prog 10 #[.int .i64 op, .int .i64 a, .int .i64 b] w fun e w' => e = .returned (.tuple #[.int .i64 0, .bool false]) ∧ w = w' := by
  have e1 : (op == 15) = false := by simp; omega
  have e2 : (op == 16) = false := by simp; omega
  have e3 : (op == 17) = false := by simp; omega
  have e4 : (op == 18) = false := by simp; omega
  have e5 : (op == 19) = false := by simp; omega
  have e6 : (op == 20) = false := by simp; omega
  have e7 : (op == 21) = false := by simp; omega
  clear h
  go_enter Try.func10, Try.ntmps10
  go_wp2_with (first | (go_at_call 25; refine (number_any _ _).mono ?_; rintro e w' ⟨rfl, rfl⟩))
  go_ret2
  exact ⟨rfl, rfl⟩

/-- flo.Do, on whatever it is given. -/
theorem fdo_any (op a b : Int) (w : World) :
    Calls Try.prog 10 #[.int .i64 op, .int .i64 a, .int .i64 b] w fun e w' => e = .returned (.tuple #[.int .i64 (fdo op a b), .bool (fok op)]) ∧ Below w.heap.size w w' := by
  by_cases h0 : op < 15 ∨ 21 < op
  · have h1 : fdo op a b = 0 := by unfold fdo; repeat (rw [if_neg (by omega)])
    have h2 : fok op = false := by unfold fok; simp; omega
    rw [h1, h2]
    exact (do_other op a b w h0).mono fun e w' ⟨h, h'⟩ => ⟨h, h' ▸ Below.refl _ _⟩
  · have h2 : fok op = true := by unfold fok; simp; omega
    rw [h2]
    by_cases h1 : op = 19 ∨ op = 20 ∨ op = 21
    · exact (do_order op a b w h1).mono fun e w' ⟨h, h'⟩ => ⟨h, h' ▸ Below.refl _ _⟩
    · exact do_arith op a b w (by omega)

set_option maxHeartbeats 400000 in
theorem fis_any (op : Int) (w : World) : Calls Try.prog 13 #[.int .i64 op] w fun e w' => e = .returned (.bool (fok op)) ∧ w = w' := by
  by_cases h1 : 15 ≤ op
  · have hd : decide (15 ≤ op) = true := by simpa using h1
    have hf : fok op = decide (op ≤ 21) := by unfold fok; simp [h1]
    rw [hf]
    clear hf
    go_enter Try.func13, Try.ntmps13
    go_wp2
    go_ret
    exact ⟨rfl, rfl⟩
  · have hd : decide (15 ≤ op) = false := by simpa using h1
    have hf : fok op = false := by unfold fok; simp; omega
    rw [hf]
    clear hf
    go_enter Try.func13, Try.ntmps13
    go_wp2
    go_ret
    exact ⟨rfl, rfl⟩

end Go.Proofs.Ytdgdkfkdhbnliaa
