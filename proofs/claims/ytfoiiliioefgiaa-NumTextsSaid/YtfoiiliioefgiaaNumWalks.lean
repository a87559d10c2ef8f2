/-
  What num.lowSix, num.truth, num.size and num.Do do, on whatever they are given: they only compute.
-/
import Derived.Test.YtfoiiliioefgiaaRows
import Derived.Test.YtfoiiliioefgiaaNumMath
import Derived.WalkKit
import Derived.WalkSpells
import Derived.WalkLawsBesides
namespace Go.Proofs.Ytfoiiliioefgiaa
open Go.RowKit NumM

set_option maxHeartbeats 400000 in
theorem lowSix_any (b : Int) (w : World) : Calls Try.prog 18 #[.int .i64 b] w fun e w' => e = .returned (.int .u64 (b % 64)) ∧ w = w' := by
  go_enter Try.func18, Try.ntmps18
  go_wp2
  go_ret
  exact ⟨congrArg (fun x => Ending.returned (Value.int IntKind.u64 x)) (low_six b), rfl⟩

set_option maxHeartbeats 400000 in
theorem truth_any (x : Bool) (w : World) : Calls Try.prog 19 #[.bool x] w fun e w' => e = .returned (.int .i64 (tr x)) ∧ w = w' := by
  cases x
  all_goals
    go_enter Try.func19, Try.ntmps19
    go_wp2
    go_ret
    exact ⟨rfl, rfl⟩

theorem ret_pair {a b : Int} {x y : Bool} (h : a = b) (h' : x = y) : Ending.returned (.tuple #[.int .i64 a, .bool x]) = .returned (.tuple #[.int .i64 b, .bool y]) := by rw [h, h']

set_option maxHeartbeats 400000 in
theorem do_plain (op a b : Int) (w : World) (h : op = 1 ∨ op = 2 ∨ op = 3 ∨ op = 6 ∨ op = 7 ∨ op = 8) :
    Calls Try.prog 9 #[.int .i64 op, .int .i64 a, .int .i64 b] w fun e w' => e = .returned (.tuple #[.int .i64 (doV op a b), .bool (doK op b)]) ∧ w = w' := by
  rcases h with rfl | rfl | rfl | rfl | rfl | rfl
  all_goals
    go_enter Try.func9, Try.ntmps9
    go_wp2
    go_ret2
    exact ⟨ret_pair (by simp [doV]) (by simp [doK]), rfl⟩

set_option maxHeartbeats 400000 in
theorem do_quo (op a b : Int) (w : World) (h : op = 4 ∨ op = 5) :
    Calls Try.prog 9 #[.int .i64 op, .int .i64 a, .int .i64 b] w fun e w' => e = .returned (.tuple #[.int .i64 (doV op a b), .bool (doK op b)]) ∧ w = w' := by
  by_cases hb : b = 0
  · subst hb
    rcases h with rfl | rfl
    all_goals
      go_enter Try.func9, Try.ntmps9
      go_wp2
      go_ret2
      exact ⟨ret_pair (by simp [doV]) (by simp [doK]), rfl⟩
  · have hb1 : (b == 0) = false := by simpa using hb
    have hb2 : (b != 0) = true := by simpa using hb
    rcases h with rfl | rfl
    all_goals
      go_enter Try.func9, Try.ntmps9
      go_wp2
      go_ret2
      exact ⟨ret_pair (by simp [doV, hb]) (by simp [doK, hb]), rfl⟩

set_option maxHeartbeats 400000 in
theorem do_shift (op a b : Int) (w : World) (h : op = 9 ∨ op = 10) :
    Calls Try.prog 9 #[.int .i64 op, .int .i64 a, .int .i64 b] w fun e w' => e = .returned (.tuple #[.int .i64 (doV op a b), .bool (doK op b)]) ∧ w = w' := by
  have h1 : 0 ≤ b % 64 := by omega
  have h2 : b % 64 ≤ 64 := by omega
  rcases h with rfl | rfl
  all_goals
    go_enter Try.func9, Try.ntmps9
    go_wp2_with (go_at_call 18; refine (lowSix_any _ _).mono ?_; rintro e w' ⟨rfl, rfl⟩)
    go_ret2
    exact ⟨ret_pair (by simp [doV]) (by simp [doK]), rfl⟩

set_option maxHeartbeats 400000 in
theorem do_truth (op a b : Int) (w : World) (h : op = 11 ∨ op = 12 ∨ op = 13 ∨ op = 14) :
    Calls Try.prog 9 #[.int .i64 op, .int .i64 a, .int .i64 b] w fun e w' => e = .returned (.tuple #[.int .i64 (doV op a b), .bool (doK op b)]) ∧ w = w' := by
  rcases h with rfl | rfl | rfl | rfl
  all_goals
    go_enter Try.func9, Try.ntmps9
    go_wp2_with (go_at_call 19; refine (truth_any _ _).mono ?_; rintro e w' ⟨rfl, rfl⟩)
    go_ret2
    exact ⟨ret_pair (by simp [doV]) (by simp [doK]), rfl⟩

set_option maxHeartbeats 400000 in
theorem do_none (op a b : Int) (w : World) (h : op < 1 ∨ 14 < op) :
    Calls Try.prog 9 #[.int .i64 op, .int .i64 a, .int .i64 b] w fun e w' => e = .returned (.tuple #[.int .i64 (doV op a b), .bool (doK op b)]) ∧ w = w' := by
  have hv : doV op a b = 0 := by unfold doV; repeat (rw [if_neg (by omega)])
  have hk : doK op b = false := by unfold doK; rw [if_neg (by omega)]; simp; omega
  rw [hv, hk]
  have e1 : (op == 1) = false := by simp; omega
  have e2 : (op == 2) = false := by simp; omega
  have e3 : (op == 3) = false := by simp; omega
  have e4 : (op == 4) = false := by simp; omega
  have e5 : (op == 5) = false := by simp; omega
  have e6 : (op == 6) = false := by simp; omega
  have e7 : (op == 7) = false := by simp; omega
  have e8 : (op == 8) = false := by simp; omega
  have e9 : (op == 9) = false := by simp; omega
  have e10 : (op == 10) = false := by simp; omega
  have e11 : (op == 11) = false := by simp; omega
  have e12 : (op == 12) = false := by simp; omega
  have e13 : (op == 13) = false := by simp; omega
  have e14 : (op == 14) = false := by simp; omega
  clear hv hk h
  go_enter Try.func9, Try.ntmps9
  go_wp2
  go_ret2
  exact ⟨rfl, rfl⟩

/-- num.Do, on whatever it is given. -/
theorem do_any (op a b : Int) (w : World) :
    Calls Try.prog 9 #[.int .i64 op, .int .i64 a, .int .i64 b] w fun e w' => e = .returned (.tuple #[.int .i64 (doV op a b), .bool (doK op b)]) ∧ w = w' := by
  by_cases h0 : op < 1 ∨ 14 < op
  · exact do_none op a b w h0
  · by_cases h1 : op = 1 ∨ op = 2 ∨ op = 3 ∨ op = 6 ∨ op = 7 ∨ op = 8
    · exact do_plain op a b w h1
    · by_cases h2 : op = 4 ∨ op = 5
      · exact do_quo op a b w h2
      · by_cases h3 : op = 9 ∨ op = 10
        · exact do_shift op a b w h3
        · exact do_truth op a b w (by omega)

end Go.Proofs.Ytfoiiliioefgiaa
