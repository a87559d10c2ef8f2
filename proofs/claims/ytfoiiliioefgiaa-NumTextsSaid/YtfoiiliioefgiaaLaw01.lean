/-
  What the statements of layer 1 share: Do's number alone, and the answers that the document fixes.
-/
import Derived.Test.YtfoiiliioefgiaaNumGet
namespace Go.Proofs.Ytfoiiliioefgiaa
open Go.RowKit NumM Mem

set_option maxHeartbeats 400000 in
/-- the statements' own 'do': Do's number alone. -/
theorem do1_any (op a b : Int) (w : World) :
    Calls Try.prog 13 #[.int .i64 op, .int .i64 a, .int .i64 b] w fun e w' => e = .returned (.int .i64 (doV op a b)) ∧ w = w' := by
  go_enter Try.func13, Try.ntmps13
  go_wp2_with (go_at_call 9; refine (do_any _ _ _ _).mono ?_; rintro e w' ⟨rfl, rfl⟩)
  go_ret
  exact ⟨rfl, rfl⟩

set_option maxHeartbeats 400000 in
theorem awake_any (w : World) : Calls Try.prog 11 #[] w fun e w' => e = .returned (.bool true) ∧ Below w.heap.size w w' := by
  have hg1 : getV [48, 49] = (0, false) := by decide +kernel
  have hg2 : getV [45, 49, 50] = (-12, true) := by decide +kernel
  have d1 : doV 4 (-7) 2 = -3 := by decide +kernel
  have d2 : doV 5 (-7) 2 = -1 := by decide +kernel
  have d3 : doV 9 1 65 = 2 := by decide +kernel
  have get1 := fun w => get_any ⟨#[48, 49]⟩ w (by decide)
  have get2 := fun w => get_any ⟨#[45, 49, 50]⟩ w (by decide)
  have do4 := fun w => do_any 4 1 0 w
  rw [show doV 4 1 0 = 0 from rfl, show doK 4 0 = false from rfl] at do4
  simp only [hg1, hg2] at get1 get2
  have Get1 := Lib.hid get1
  have Get2 := Lib.hid get2
  have Do4 := Lib.hid do4
  have q1 := fun w => do1_any 4 (-7) 2 w
  have q2 := fun w => do1_any 5 (-7) 2 w
  have q3 := fun w => do1_any 9 1 65 w
  simp only [d1, d2, d3] at q1 q2 q3
  have Q1 := Lib.hid q1
  have Q2 := Lib.hid q2
  have Q3 := Lib.hid q3
  clear hg1 hg2 d1 d2 d3 get1 get2 do4 q1 q2 q3
  go_enter Try.func11, Try.ntmps11
  go_wp2_with fail
  refine (Do4.out _).mono ?_; rintro e w' ⟨rfl, rfl⟩
  go_wp2_with fail
  refine (Get1.out _).mono ?_; rintro e w1 ⟨rfl, hb1⟩
  go_wp2_with fail
  refine (Get2.out _).mono ?_; rintro e w2 ⟨rfl, hb2⟩
  go_wp2_with fail
  refine (Q1.out _).mono ?_; rintro e w' ⟨rfl, rfl⟩
  go_wp2_with fail
  refine (Q2.out _).mono ?_; rintro e w' ⟨rfl, rfl⟩
  go_wp2_with fail
  refine (Q3.out _).mono ?_; rintro e w' ⟨rfl, rfl⟩
  go_wp2_with fail
  go_ret
  exact ⟨rfl, hb1.trans (hb2.mono hb1.size)⟩

end Go.Proofs.Ytfoiiliioefgiaa
