/-
  What flo.Plain, flo.number, flo.bits, flo.truth and flo.Do do, on whatever they are given. A result that is no number has whatever bits; what is answered hangs on none of them.
-/
import Derived.Test.YtfihnnfjkhcgkaaRows
import Derived.Test.YtfihnnfjkhcgkaaFloMath
import Derived.Laws.Externs
import Derived.WalkKit
import Derived.WalkSpells
import Derived.WalkLawsBesides
import Derived.Below
import Derived.Lib.Hide
namespace Go.Proofs.Ytfihnnfjkhcgkaa
open Go.RowKit NumM FloM

theorem ret_i {k : IntKind} {a b : Int} (h : a = b) : Ending.returned (Value.int k a) = .returned (.int k b) := by rw [h]
theorem ret_p {a b : Int} {x y : Bool} (h : a = b) (h' : x = y) : Ending.returned (.tuple #[.int .i64 a, .bool x]) = .returned (.tuple #[.int .i64 b, .bool y]) := by rw [h, h']

set_option maxHeartbeats 400000 in
theorem plain_any (n : Int) (w : World) : Calls Try.prog 19 #[.int .i64 n] w fun e w' => e = .returned (.int .i64 (plainV n)) ∧ w = w' := by
  by_cases h : 9218868437227405312 < n % 9223372036854775808
  · have hd : decide (9218868437227405312 < bits .and .i64 n 9223372036854775807) = true := by rw [low63]; simpa using h
    have hv : plainV n = 9221120237041090560 := by unfold plainV; rw [if_pos h]
    rw [hv]
    clear hv h
    go_enter Try.func19, Try.ntmps19
    go_wp2
    go_ret
    exact ⟨rfl, rfl⟩
  · have hd : decide (9218868437227405312 < bits .and .i64 n 9223372036854775807) = false := by rw [low63]; simpa using h
    have hv : plainV n = n := by unfold plainV; rw [if_neg h]
    rw [hv]
    clear hv h
    go_enter Try.func19, Try.ntmps19
    go_wp2
    go_ret
    exact ⟨rfl, rfl⟩

/-- '+', '-', '*', '/' on two floats: some float, whose bits, with the one NaN in place of the others, are the IEEE's. -/
theorem run_fop {P : Program} (op : BinOp) (hop : op = .add ∨ op = .sub ∨ op = .mul ∨ op = .quo) (x y : Nat) (w : World) :
    ∃ r w1, (∀ t, (binOp op t (.float .f64 x) (.float .f64 y)).run P w = .ok (.float .f64 r) w1) ∧ Below w.heap.size w w1 ∧ plainV (wrap64 (r : Int)) = fr (floatBits op .f64 x y) ∧ (nn r ↔ floatBits op .f64 x y = none) ∧ r < 18446744073709551616 := by
  cases h : floatBits op .f64 x y with
  | some r =>
    have hr : ¬ nn r ∧ r < 18446744073709551616 := by
      rcases hop with rfl | rfl | rfl | rfl
      · exact add_num h
      · exact sub_num h
      · exact mul_num h
      · exact div_num h
    exact ⟨r, w, fun t => run_float_arith w op t .f64 x y r h, Below.refl _ _, plain_wrap hr, by simp [hr.1], hr.2⟩
  | none =>
    have hc := cut_nan x y (w.tape w.drawn (.nanBits .f64 x y))
    refine ⟨_, w.drew, fun t => ?_, (Below.refl _ _).drew, ?_, ?_, hc.2⟩
    · unfold floatBits at h
      rcases hop with rfl | rfl | rfl | rfl <;> simp only at h <;> simp [binOp, Op.floatArith, h, Question.forced]
      all_goals rfl
    · exact plain_nan (by rw [ub_wrap, ub_nat _ hc.2]; exact hc.1)
    · simp [hc.1]

end Go.Proofs.Ytfihnnfjkhcgkaa
