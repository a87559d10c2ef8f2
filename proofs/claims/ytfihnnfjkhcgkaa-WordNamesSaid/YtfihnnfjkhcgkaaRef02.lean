/-
  What the document's own IsNan, Plain, made, truth, Do and OfInt do, walked: what the program's do.
-/
import Derived.Test.YtfihnnfjkhcgkaaFloTurn
namespace Go.Proofs.Ytfihnnfjkhcgkaa.R02
open Go.RowKit NumM FloM

set_option maxHeartbeats 400000 in
theorem isnan_any (n : Int) (w : World) : Calls Try.prog 29 #[.int .i64 n] w fun e w' => e = .returned (.bool (decide (9218868437227405312 < n % 9223372036854775808))) ∧ w = w' := by
  have hv : decide (9218868437227405312 < IntKind.u64.wrap n % 9223372036854775808) = decide (9218868437227405312 < n % 9223372036854775808) := by
    rw [wu64, show n % 18446744073709551616 % 9223372036854775808 = n % 9223372036854775808 by omega]
  have Hv := Lib.hid hv
  have h0 : 0 ≤ IntKind.u64.wrap n := by rw [wu64]; omega
  have h1 : IntKind.u64.wrap n < 18446744073709551616 := by rw [wu64]; omega
  clear hv
  go_enter Try.func29, Try.ntmps29
  go_wp2
  go_ret
  exact ⟨congrArg (fun x => Ending.returned (Value.bool x)) Hv.out, rfl⟩
/-- .. with its answer. -/
theorem isnan_at (n : Int) (x : Bool) (h : decide (9218868437227405312 < n % 9223372036854775808) = x) (w : World) : Calls Try.prog 29 #[.int .i64 n] w fun e w' => e = .returned (.bool x) ∧ w = w' := by
  subst h; exact isnan_any n w

set_option maxHeartbeats 400000 in
theorem plain_any (n : Int) (w : World) : Calls Try.prog 20 #[.int .i64 n] w fun e w' => e = .returned (.int .i64 (plainV n)) ∧ w = w' := by
  by_cases h : 9218868437227405312 < n % 9223372036854775808
  · have hv : plainV n = 9221120237041090560 := by unfold plainV; rw [if_pos h]
    rw [hv]
    have H := Lib.hid (decide_eq_true h)
    clear hv h
    go_enter Try.func20, Try.ntmps20
    go_wp2_with (go_at_call 29; refine (isnan_at _ true H.out _).mono ?_; rintro e w' ⟨rfl, rfl⟩)
    go_ret
    exact ⟨rfl, rfl⟩
  · have hv : plainV n = n := by unfold plainV; rw [if_neg h]
    rw [hv]
    have H := Lib.hid (decide_eq_false h)
    clear hv h
    go_enter Try.func20, Try.ntmps20
    go_wp2_with (go_at_call 29; refine (isnan_at _ false H.out _).mono ?_; rintro e w' ⟨rfl, rfl⟩)
    go_ret
    exact ⟨rfl, rfl⟩

theorem told {n : Int} (h : ¬ 9218868437227405312 < n % 9223372036854775808) : (IntKind.u64.wrap n).toNat = fl n := by
  unfold fl plainV; rw [if_neg h, wu64]; rfl

theorem op_cases (op : Int) (h : 15 ≤ op ∧ op ≤ 21) : op = 15 ∨ op = 16 ∨ op = 17 ∨ op = 18 ∨ op = 19 ∨ op = 20 ∨ op = 21 := by omega

/-- what NaN makes. -/
theorem do_nan (op a b : Int) (h : nn (ub a) ∨ nn (ub b)) (hop : 15 ≤ op ∧ op ≤ 21) : fdo op a b = if op ≤ 18 then 9221120237041090560 else 0 := by
  have hx : nn (fl a) ∨ nn (fl b) := by
    rcases h with h | h
    · left; rw [fl_nan h]; exact nn_nan
    · right; rw [fl_nan h]; exact nn_nan
  have e1 : Ieee.double.add (fl a) (fl b) = none := hx.elim add_nanl add_nanr
  have e2 : Ieee.double.sub (fl a) (fl b) = none := hx.elim sub_nanl sub_nanr
  have e3 : Ieee.double.mul (fl a) (fl b) = none := hx.elim mul_nanl mul_nanr
  have e4 : Ieee.double.div (fl a) (fl b) = none := hx.elim div_nanl div_nanr
  have e5 : Ieee.double.order (fl a) (fl b) = none := hx.elim order_nanl order_nanr
  unfold fdo
  rw [e1, e2, e3, e4, e5]
  rcases op_cases op hop with rfl | rfl | rfl | rfl | rfl | rfl | rfl <;> rfl
theorem nn_of {n : Int} (h : 9218868437227405312 < n % 9223372036854775808) : nn (ub n) := by unfold nn; have := ub_mod n; omega

theorem made_of (r : Nat) (o : Option Nat) (hr : plainV (wrap64 (r : Int)) = fr o) (hn : nn r ↔ o = none) (hlt : r < 18446744073709551616) : nn r ∧ fr o = 9221120237041090560 ∨ ¬ nn r ∧ fr o = wrap64 r := by
  by_cases h : nn r
  · left; rw [hn.1 h]; exact ⟨h, rfl⟩
  · right; rw [← hr]; exact ⟨h, plain_wrap ⟨h, hlt⟩⟩
theorem le_of_not (a b : Int) (h : (FloatKind.f64.format.order (fl a) (fl b) == some .lt) = false) : fdo 21 a b = tr (FloatKind.f64.format.order (fl a) (fl b) == some .eq) := by
  show tr (FloatKind.f64.format.order (fl a) (fl b) == some .lt || FloatKind.f64.format.order (fl a) (fl b) == some .eq) = _
  rw [h]; rfl
theorem le_of_lt (a b : Int) (h : (FloatKind.f64.format.order (fl a) (fl b) == some .lt) = true) : fdo 21 a b = 1 := by
  show tr (FloatKind.f64.format.order (fl a) (fl b) == some .lt || FloatKind.f64.format.order (fl a) (fl b) == some .eq) = _
  rw [h]; rfl

end Go.Proofs.Ytfihnnfjkhcgkaa.R02
