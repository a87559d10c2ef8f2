/-
  flo.OfInt and flo.ToInt, on whatever they are given.
-/
import Derived.Test.YtdgdkfkdhbnliaaFloWalks
import Derived.Test.YtdgdkfkdhbnliaaFloInt
namespace Go.Proofs.Ytdgdkfkdhbnliaa
open Go.RowKit NumM FloM

set_option maxHeartbeats 400000 in
theorem fofint_any (n : Int) (w : World) : Calls Try.prog 16 #[.int .i64 n] w fun e w' => e = .returned (.int .i64 (ofV n)) ∧ w = w' := by
  have hv := Lib.hid (of_plain n)
  go_enter Try.func16, Try.ntmps16
  go_wp2_with (go_at_call 26; refine (bits_any _ _).mono ?_; rintro e w' ⟨rfl, rfl⟩)
  go_ret
  exact ⟨ret_i hv.out, rfl⟩

theorem isnan_any (b : Nat) (x : Bool) (h : (FloatKind.f64.format.order b b != some .eq) = x) (w : World) : Calls Try.prog 32 #[.float .f64 b] w fun e w' => e = .returned (.bool x) ∧ w = w' := by
  go_enter Try.func32, Try.ntmps32
  go_wp2
  go_ret
  exact ⟨rfl, rfl⟩

theorem ne_self {b : Nat} (h : nn b) : (FloatKind.f64.format.order b b != some .eq) = true := by
  show (Ieee.double.order b b != some .eq) = true
  rw [order_nanl h]; rfl
theorem eq_self {b : Nat} (h : ¬ nn b) : (FloatKind.f64.format.order b b != some .eq) = false := by
  show (Ieee.double.order b b != some .eq) = false
  rw [order_self h]; rfl
theorem fl_nan {n : Int} (h : nn (ub n)) : fl n = 9221120237041090560 := by unfold fl; rw [plain_nan h]; rfl
theorem fl_num {n : Int} (h : ¬ nn (ub n)) : fl n = ub n := by unfold fl; rw [plain_num h]
theorem nn_nan : nn 9221120237041090560 := by decide

set_option maxHeartbeats 400000 in
theorem ftoint_any (n : Int) (w : World) (hn : In n) : Calls Try.prog 18 #[.int .i64 n] w fun e w' => e = .returned (.int .i64 (toV n)) ∧ w = w' := by
  by_cases h : nn (ub n)
  · have hf : nn (fl n) := by rw [fl_nan h]; exact nn_nan
    have hv : toV n = 0 := by unfold toV; rw [if_pos h]
    have Hs := Lib.hid (ne_self hf)
    rw [hv]
    clear hv hf h hn
    go_enter Try.func18, Try.ntmps18
    go_wp2_with (first | (go_at_call 25; refine (number_any _ _).mono ?_; rintro e w' ⟨rfl, rfl⟩) | (go_at_call 32; refine (isnan_any _ true Hs.out _).mono ?_; rintro e w' ⟨rfl, rfl⟩))
    go_ret
    exact ⟨rfl, rfl⟩
  · have hc := to_cases n hn h
    rw [← fl_num h] at hc
    have Hs : Hid ((FloatKind.f64.format.order (fl n) (fl n) != some .eq) = false) := Lib.hid (eq_self (by rw [fl_num h]; exact h))
    clear h hn
    rcases hc with ⟨h1, h2⟩ | ⟨⟨h1, h2⟩, h3⟩ | ⟨h1, h2, h3⟩
    · have e1 : (FloatKind.f64.format.order (fl n) 14114281232179134464 == some .lt) = true := by
        show (Ieee.double.order (fl n) 14114281232179134464 == some .lt) = true
        rw [h1]; rfl
      rw [h2]
      clear h1 h2
      go_enter Try.func18, Try.ntmps18
      go_wp2_with (first | (go_at_call 25; refine (number_any _ _).mono ?_; rintro e w' ⟨rfl, rfl⟩) | (go_at_call 32; refine (isnan_any _ false Hs.out _).mono ?_; rintro e w' ⟨rfl, rfl⟩))
      go_ret
      exact ⟨rfl, rfl⟩
    · have e1 : (FloatKind.f64.format.order (fl n) 14114281232179134464 == some .lt) = false := by
        show (Ieee.double.order (fl n) 14114281232179134464 == some .lt) = false
        rw [h1]; rfl
      have e2 : (FloatKind.f64.format.order (fl n) 4890909195324358656 == some .gt || FloatKind.f64.format.order (fl n) 4890909195324358656 == some .eq) = true := by
        show (Ieee.double.order (fl n) 4890909195324358656 == some .gt || Ieee.double.order (fl n) 4890909195324358656 == some .eq) = true
        rcases h2 with h2 | h2 <;> rw [h2] <;> rfl
      rw [h3]
      clear h1 h2 h3
      go_enter Try.func18, Try.ntmps18
      go_wp2_with (first | (go_at_call 25; refine (number_any _ _).mono ?_; rintro e w' ⟨rfl, rfl⟩) | (go_at_call 32; refine (isnan_any _ false Hs.out _).mono ?_; rintro e w' ⟨rfl, rfl⟩))
      go_ret
      exact ⟨rfl, rfl⟩
    · have e1 : (FloatKind.f64.format.order (fl n) 14114281232179134464 == some .lt) = false := by
        show (Ieee.double.order (fl n) 14114281232179134464 == some .lt) = false
        rcases h1 with h1 | h1 <;> rw [h1] <;> rfl
      have e2 : (FloatKind.f64.format.order (fl n) 4890909195324358656 == some .gt || FloatKind.f64.format.order (fl n) 4890909195324358656 == some .eq) = false := by
        show (Ieee.double.order (fl n) 4890909195324358656 == some .gt || Ieee.double.order (fl n) 4890909195324358656 == some .eq) = false
        rw [h2]; rfl
      have hcv : ∀ w, (convert 34 2 (.float .f64 (fl n))).run Try.prog w = .ok (.int .i64 (toV n)) w := fun w => run_convert_float_int w 34 2 .f64 .i64 (fl n) (toV n) (by rw [Try.underlying34]; rfl) Try.underlying2 h3
      clear h1 h2 h3
      go_enter Try.func18, Try.ntmps18
      go_wp2_with (first | (go_at_call 25; refine (number_any _ _).mono ?_; rintro e w' ⟨rfl, rfl⟩) | (go_at_call 32; refine (isnan_any _ false Hs.out _).mono ?_; rintro e w' ⟨rfl, rfl⟩))
      go_ret
      exact ⟨rfl, rfl⟩

end Go.Proofs.Ytdgdkfkdhbnliaa
