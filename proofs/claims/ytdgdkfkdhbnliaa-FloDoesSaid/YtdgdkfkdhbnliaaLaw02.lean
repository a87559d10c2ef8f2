/-
  What the statements of layer 2 share: Do's number alone, and the answers that the document fixes.
-/
import Derived.Test.YtdgdkfkdhbnliaaFloGet
import Derived.Test.YtdgdkfkdhbnliaaFloTurn
namespace Go.Proofs.Ytdgdkfkdhbnliaa
open Go.RowKit NumM FloM Mem

set_option maxHeartbeats 400000 in
/-- the statements' own 'do': Do's number alone. -/
theorem do1_any (op a b : Int) (w : World) :
    Calls Try.prog 24 #[.int .i64 op, .int .i64 a, .int .i64 b] w fun e w' => e = .returned (.int .i64 (fdo op a b)) ∧ Below w.heap.size w w' := by
  go_enter Try.func24, Try.ntmps24
  go_wp2_with (go_at_call 10; refine (fdo_any _ _ _ _).mono ?_; rintro e w' ⟨rfl, hb⟩)
  go_ret
  exact ⟨rfl, hb⟩

set_option maxHeartbeats 800000 in
theorem awake_any (w : World) : Calls Try.prog 12 #[] w fun e w' => e = .returned (.bool true) ∧ Below w.heap.size w w' := by
  have hg1 : fgetV [48, 102, 55, 102, 102, 56, 48, 48, 48, 48, 48, 48, 48, 48, 48, 48, 48, 49] = (0, false) := by decide +kernel
  have d1 : fdo 16 4607182418800017408 4607182418800017408 = 0 := by decide +kernel
  have d2 : fdo 19 (-9223372036854775808) 0 = 1 := by decide +kernel
  have d3 : fdo 15 (-9223372036854775808) (-9223372036854775808) = -9223372036854775808 := by decide +kernel
  have d4 : fdo 18 0 0 = 9221120237041090560 := by decide +kernel
  have t1 : toV 4890909195324358656 = 9223372036854775807 := by decide +kernel
  have p1 : putV 4607182418800017408 = [48, 102, 51, 102, 102, 48, 48, 48, 48, 48, 48, 48, 48, 48, 48, 48, 48, 48] := by decide +kernel
  have get1 := fun w => fget_any ⟨#[48, 102, 55, 102, 102, 56, 48, 48, 48, 48, 48, 48, 48, 48, 48, 48, 48, 49]⟩ w
  simp only [hg1] at get1
  have q1 := fun w => do1_any 16 4607182418800017408 4607182418800017408 w
  have q2 := fun w => do1_any 19 (-9223372036854775808) 0 w
  have q3 := fun w => do1_any 15 (-9223372036854775808) (-9223372036854775808) w
  have q4 := fun w => do1_any 18 0 0 w
  have q5 := fun w => ftoint_any 4890909195324358656 w (by unfold In; omega)
  have q6 := fun w => fput_any 4607182418800017408 w
  simp only [d1, d2, d3, d4, t1, p1] at q1 q2 q3 q4 q5 q6
  have Get1 := Lib.hid get1
  have Q1 := Lib.hid q1
  have Q2 := Lib.hid q2
  have Q3 := Lib.hid q3
  have Q4 := Lib.hid q4
  have Q5 := Lib.hid q5
  have Q6 := Lib.hid q6
  clear hg1 d1 d2 d3 d4 t1 p1 get1 q1 q2 q3 q4 q5 q6
  go_enter Try.func12, Try.ntmps12
  go_wp2_with fail
  refine (Get1.out _).mono ?_; rintro e w1 ⟨rfl, hb1⟩
  go_wp2_with fail
  refine (Q1.out _).mono ?_; rintro e w2 ⟨rfl, hb2⟩
  go_wp2_with fail
  refine (Q2.out _).mono ?_; rintro e w3 ⟨rfl, hb3⟩
  go_wp2_with fail
  refine (Q3.out _).mono ?_; rintro e w4 ⟨rfl, hb4⟩
  go_wp2_with fail
  refine (Q4.out _).mono ?_; rintro e w5 ⟨rfl, hb5⟩
  go_wp2_with fail
  refine (Q5.out _).mono ?_; rintro e w' ⟨rfl, rfl⟩
  go_wp2_with fail
  refine (Q6.out _).mono ?_; rintro e w6 ⟨rfl, hb6⟩
  go_wp2_with fail
  go_ret
  have s1 := hb1.size
  have s2 := hb2.size
  have s3 := hb3.size
  have s4 := hb4.size
  have s5 := hb5.size
  exact ⟨rfl, ((((hb1.trans (hb2.mono s1)).trans (hb3.mono (by omega))).trans (hb4.mono (by omega))).trans (hb5.mono (by omega))).trans (hb6.mono (by omega))⟩

/-- the statements' own 'do' of a comparison, with its answer. -/
theorem do1_ord (op a b v : Int) (h : op = 19 ∨ op = 20 ∨ op = 21) (hv : fdo op a b = v) (w : World) :
    Calls Try.prog 24 #[.int .i64 op, .int .i64 a, .int .i64 b] w fun e w' => e = .returned (.int .i64 v) ∧ w = w' := by
  have Hv := Lib.hid hv
  have Hc := Lib.hid (fun w => do_order op a b w h)
  clear h hv
  go_enter Try.func24, Try.ntmps24
  go_wp2_with (go_at_call 10; refine (Hc.out _).mono ?_; rintro e w' ⟨rfl, rfl⟩)
  go_ret
  exact ⟨ret_i Hv.out, rfl⟩
/-- .. of anything, with its answer. -/
theorem do1_at (op a b v : Int) (hv : fdo op a b = v) (w : World) :
    Calls Try.prog 24 #[.int .i64 op, .int .i64 a, .int .i64 b] w fun e w' => e = .returned (.int .i64 v) ∧ Below w.heap.size w w' := by
  subst hv; exact do1_any op a b w

end Go.Proofs.Ytdgdkfkdhbnliaa
