/-
  Quotient and remainder of any two numbers of 64 bits make the number again, and the remainder is nearer to 0 than what was divided by, with the number's sign: the statement NumWhole. No condition.
-/
import Derived.Test.YtfoiiliioefgiaaLaw01
import Derived.Test.YtfoiiliioefgiaaShell
import Derived.ProofKit
import Derived.OpenShut
namespace Go.Proofs.Ytfoiiliioefgiaa.numWhole
open Go.ChangeShapes Go.WideShapes Go.ChangeAt Go.RowKit
open NumM Mem

theorem whole (a b : Int) (ha : In a) : doV 1 (doV 3 (wrap64 (a.tdiv b)) b) (a.tmod b) = a := by
  simp only [v1, v3, wrap_mull, wrap_addl]
  rw [show a.tdiv b * b + a.tmod b = a from by rw [Int.mul_comm]; exact Int.mul_tdiv_add_tmod a b, wrap_in ha]

theorem near_sign (a b : Int) (h : ¬ a.tmod b = 0) : decide (a.tmod b < 0) = decide (a < 0) := by
  by_cases ha : a < 0
  · have h1 : a.tmod b ≤ 0 := by
      have := Int.tmod_nonneg b (show 0 ≤ -a by omega)
      rw [Int.neg_tmod] at this; omega
    simp [ha]; omega
  · have h1 : 0 ≤ a.tmod b := Int.tmod_nonneg b (by omega)
    simp [ha]; omega

theorem near_pos (a b : Int) (hb : 0 < b) : a.tmod b < b ∧ -b < a.tmod b := by
  constructor
  · exact Int.tmod_lt_of_pos a hb
  · have := Int.tmod_lt_of_pos (-a) hb
    rw [Int.neg_tmod] at this; omega

theorem near_neg (a b : Int) (hb : b < 0) : a.tmod b < -b ∧ b < a.tmod b := by
  have := near_pos a (-b) (by omega)
  rw [Int.tmod_neg] at this
  omega

set_option maxHeartbeats 400000 in
theorem walk0 (a : Int) (w : World) :
    Calls Try.prog 4 #[.int .i64 a, .int .i64 0] w fun e w' => e = .returned (.bool true) ∧ Below w.heap.size w w' := by
  have c4 := fun w => do_any 4 a 0 w
  have c5 := fun w => do_any 5 a 0 w
  rw [show doV 4 a 0 = 0 from rfl, show doK 4 0 = false from rfl] at c4
  rw [show doV 5 a 0 = 0 from rfl, show doK 5 0 = false from rfl] at c5
  have C4 := Lib.hid c4
  have C5 := Lib.hid c5
  clear c4 c5
  go_enter Try.func4, Try.ntmps4
  go_wp2_with fail
  refine (C4.out _).mono ?_; rintro e w' ⟨rfl, rfl⟩
  go_wp2_with fail
  refine (C5.out _).mono ?_; rintro e w' ⟨rfl, rfl⟩
  go_wp2_with fail
  refine (awake_any _).mono ?_; rintro e w' ⟨rfl, hb⟩
  go_wp2_with fail
  go_ret
  exact ⟨rfl, hb⟩

set_option maxHeartbeats 4000000 in
theorem walk1 (a b q r : Int) (w : World) (hq : q = wrap64 (a.tdiv b)) (hr : r = a.tmod b) (hb0 : ¬ b = 0) (ha : In a) (hib : In b) :
    Calls Try.prog 4 #[.int .i64 a, .int .i64 b] w fun e w' => e = .returned (.bool true) ∧ Below w.heap.size w w' := by
  have c4 := fun w => do_any 4 a b w
  have c5 := fun w => do_any 5 a b w
  rw [show doV 4 a b = q from by rw [hq]; simp [doV, hb0], show doK 4 b = true from by simp [doK, hb0]] at c4
  rw [show doV 5 a b = r from by rw [hr]; simp [doV, hb0], show doK 5 b = true from by simp [doK, hb0]] at c5
  have e1 : (doV 1 (doV 3 q b) r == a) = true := by rw [hq, hr, whole a b ha]; simp
  have hs : r = 0 ∨ decide (r < 0) = decide (a < 0) := by
    by_cases h : r = 0
    · exact .inl h
    · right; rw [hr]; exact near_sign a b (by rw [← hr]; exact h)
  have hp : b < 0 ∨ r < b ∧ -b < r := by
    by_cases h : b < 0
    · exact .inl h
    · right; rw [hr]; exact near_pos a b (by omega)
  have hn : 0 < b ∨ r < -b ∧ b < r := by
    by_cases h : 0 < b
    · exact .inl h
    · right; rw [hr]; exact near_neg a b (by omega)
  obtain ⟨hb1, hb2⟩ := hib
  have e2 : (b != 0) = true := by simpa using hb0
  have e3 : (b == 0) = false := by simpa using hb0
  have C4 := Lib.hid c4
  have C5 := Lib.hid c5
  clear c4 c5 hq hr ha hb0
  have hsa : r = 0 ∨ (r < 0 ∧ a < 0) ∨ (0 < r ∧ 0 ≤ a) := by
    rcases hs with h | h
    · exact .inl h
    · by_cases hr : r < 0
      · by_cases ha : a < 0
        · omega
        · simp [hr, ha] at h
      · by_cases ha : a < 0
        · simp [hr, ha] at h
        · omega
  have hbc : (0 < b ∧ r < b ∧ -b < r) ∨ b = -9223372036854775808 ∨ (-9223372036854775807 ≤ b ∧ b < 0 ∧ r < -b ∧ b < r) := by
    have : ¬ b = 0 := by simpa using e3
    omega
  clear hs hp hn
  rcases hsa with h0 | ⟨h01, h02⟩ | ⟨h01, h02⟩
  · subst h0
    have e4 : ((0 : Int) == 0) = true := rfl
    rcases hbc with ⟨h1, h2, h3⟩ | h1 | ⟨h1, h2, h3, h4⟩
    · have e5 : True := trivial
      go_enter Try.func4, Try.ntmps4
      go_wp2_with fail
      refine (C4.out _).mono ?_; rintro e w' ⟨rfl, rfl⟩
      go_wp2_with fail
      refine (C5.out _).mono ?_; rintro e w' ⟨rfl, rfl⟩
      go_wp2_with (first | (go_at_call 13; refine (do1_any _ _ _ _).mono ?_; rintro e w' ⟨rfl, rfl⟩) | (go_at_call 11; refine (awake_any _).mono ?_; rintro e w' ⟨rfl, hb⟩))
      go_ret
      exact ⟨rfl, hb⟩
    · have e5 : (b != -9223372036854775808) = false := by simpa using h1
      have e6 : b < 0 := by omega
      clear h1
      go_enter Try.func4, Try.ntmps4
      go_wp2_with fail
      refine (C4.out _).mono ?_; rintro e w' ⟨rfl, rfl⟩
      go_wp2_with fail
      refine (C5.out _).mono ?_; rintro e w' ⟨rfl, rfl⟩
      go_wp2_with (first | (go_at_call 13; refine (do1_any _ _ _ _).mono ?_; rintro e w' ⟨rfl, rfl⟩) | (go_at_call 11; refine (awake_any _).mono ?_; rintro e w' ⟨rfl, hb⟩))
      go_ret
      exact ⟨rfl, hb⟩
    · have e5 : (b != -9223372036854775808) = true := by simp; omega
      go_enter Try.func4, Try.ntmps4
      go_wp2_with fail
      refine (C4.out _).mono ?_; rintro e w' ⟨rfl, rfl⟩
      go_wp2_with fail
      refine (C5.out _).mono ?_; rintro e w' ⟨rfl, rfl⟩
      go_wp2_with (first | (go_at_call 13; refine (do1_any _ _ _ _).mono ?_; rintro e w' ⟨rfl, rfl⟩) | (go_at_call 11; refine (awake_any _).mono ?_; rintro e w' ⟨rfl, hb⟩))
      go_ret
      exact ⟨rfl, hb⟩
  · have e4 : (r == 0) = false := by simp; omega
    rcases hbc with ⟨h1, h2, h3⟩ | h1 | ⟨h1, h2, h3, h4⟩
    · have e5 : True := trivial
      go_enter Try.func4, Try.ntmps4
      go_wp2_with fail
      refine (C4.out _).mono ?_; rintro e w' ⟨rfl, rfl⟩
      go_wp2_with fail
      refine (C5.out _).mono ?_; rintro e w' ⟨rfl, rfl⟩
      go_wp2_with (first | (go_at_call 13; refine (do1_any _ _ _ _).mono ?_; rintro e w' ⟨rfl, rfl⟩) | (go_at_call 11; refine (awake_any _).mono ?_; rintro e w' ⟨rfl, hb⟩))
      go_ret
      exact ⟨rfl, hb⟩
    · have e5 : (b != -9223372036854775808) = false := by simpa using h1
      have e6 : b < 0 := by omega
      clear h1
      go_enter Try.func4, Try.ntmps4
      go_wp2_with fail
      refine (C4.out _).mono ?_; rintro e w' ⟨rfl, rfl⟩
      go_wp2_with fail
      refine (C5.out _).mono ?_; rintro e w' ⟨rfl, rfl⟩
      go_wp2_with (first | (go_at_call 13; refine (do1_any _ _ _ _).mono ?_; rintro e w' ⟨rfl, rfl⟩) | (go_at_call 11; refine (awake_any _).mono ?_; rintro e w' ⟨rfl, hb⟩))
      go_ret
      exact ⟨rfl, hb⟩
    · have e5 : (b != -9223372036854775808) = true := by simp; omega
      go_enter Try.func4, Try.ntmps4
      go_wp2_with fail
      refine (C4.out _).mono ?_; rintro e w' ⟨rfl, rfl⟩
      go_wp2_with fail
      refine (C5.out _).mono ?_; rintro e w' ⟨rfl, rfl⟩
      go_wp2_with (first | (go_at_call 13; refine (do1_any _ _ _ _).mono ?_; rintro e w' ⟨rfl, rfl⟩) | (go_at_call 11; refine (awake_any _).mono ?_; rintro e w' ⟨rfl, hb⟩))
      go_ret
      exact ⟨rfl, hb⟩
  · have e4 : (r == 0) = false := by simp; omega
    have e7 : decide (r < 0) = false := by simp; omega
    have e8 : decide (a < 0) = false := by simp; omega
    rcases hbc with ⟨h1, h2, h3⟩ | h1 | ⟨h1, h2, h3, h4⟩
    · have e5 : True := trivial
      go_enter Try.func4, Try.ntmps4
      go_wp2_with fail
      refine (C4.out _).mono ?_; rintro e w' ⟨rfl, rfl⟩
      go_wp2_with fail
      refine (C5.out _).mono ?_; rintro e w' ⟨rfl, rfl⟩
      go_wp2_with (first | (go_at_call 13; refine (do1_any _ _ _ _).mono ?_; rintro e w' ⟨rfl, rfl⟩) | (go_at_call 11; refine (awake_any _).mono ?_; rintro e w' ⟨rfl, hb⟩))
      go_ret
      exact ⟨rfl, hb⟩
    · have e5 : (b != -9223372036854775808) = false := by simpa using h1
      have e6 : b < 0 := by omega
      clear h1
      go_enter Try.func4, Try.ntmps4
      go_wp2_with fail
      refine (C4.out _).mono ?_; rintro e w' ⟨rfl, rfl⟩
      go_wp2_with fail
      refine (C5.out _).mono ?_; rintro e w' ⟨rfl, rfl⟩
      go_wp2_with (first | (go_at_call 13; refine (do1_any _ _ _ _).mono ?_; rintro e w' ⟨rfl, rfl⟩) | (go_at_call 11; refine (awake_any _).mono ?_; rintro e w' ⟨rfl, hb⟩))
      go_ret
      exact ⟨rfl, hb⟩
    · have e5 : (b != -9223372036854775808) = true := by simp; omega
      go_enter Try.func4, Try.ntmps4
      go_wp2_with fail
      refine (C4.out _).mono ?_; rintro e w' ⟨rfl, rfl⟩
      go_wp2_with fail
      refine (C5.out _).mono ?_; rintro e w' ⟨rfl, rfl⟩
      go_wp2_with (first | (go_at_call 13; refine (do1_any _ _ _ _).mono ?_; rintro e w' ⟨rfl, rfl⟩) | (go_at_call 11; refine (awake_any _).mono ?_; rintro e w' ⟨rfl, hb⟩))
      go_ret
      exact ⟨rfl, hb⟩

theorem walk (a b : Int) (ha : (Lit.int .i64 a).wf = true) (hb : (Lit.int .i64 b).wf = true) (w : World) :
    Calls Try.prog 4 #[.int .i64 a, .int .i64 b] w fun e w' => e = .returned (.bool true) ∧ Below w.heap.size w w' := by
  by_cases h0 : b = 0
  · subst h0; exact walk0 a w
  · exact walk1 a b _ _ w rfl rfl h0 (in_of_wf ha) (in_of_wf hb)

set_option maxRecDepth 100000 in
theorem lifted (os : Os) (started : os.Started) (H : Type) (enc : TypeId × Value → H) :
    ReturnsInHanded {} Try.checked os 4 .any (Rows.numWholeSpec.pre6 enc Try.prog Try.f4 Rows.numWholeRow.domain false) (Rows.numWholeSpec.post enc Try.prog Try.f4 false true false false) := by
  refine returnsInHanded_of_change (C := Try.checked) (by kernel_rfl) started (by kernel_rfl) Try.func4
    (ChangeSpec.witness6 (enc := enc) (C := Try.checked) false ⟨#[], #[.int .i64 0, .int .i64 0], []⟩ 8 (by kernel_rfl) (by kernel_rfl) (by kernel_rfl) (by kernel_rfl)) ?_
  intro W base args ds gs before hval0 hW hcnd _
  have hval : ∀ (j : Nat) t v, Try.f4.params[j]? = some t → args[j]? = some v → Value.okWide Try.prog W .any base t v := hval0
  have hW' := hW
  obtain ⟨p, q, hA0, hV, rfl, hfz, hnd⟩ := hW
  have hA : DataW.TrodAll enc Try.prog W 0 (fun _ => true) true Try.f4.params.toList args.toList ds p := hA0
  rw [Try.params4] at hA hval
  obtain ⟨v0, vs0, d0, ds0, p0, q0, hargs, rfl, rfl, h0, r0⟩ := trodAll_cons hA
  obtain ⟨v1, vs1, d1, ds1, p1, q1, rfl, rfl, rfl, h1, r1⟩ := trodAll_cons r0
  obtain ⟨rfl, rfl, rfl⟩ := trodAll_nil r1
  obtain rfl : args = #[v0, v1] := by cases args; simp_all
  obtain ⟨rfl, rfl⟩ := trodVars_none hV
  obtain ⟨a0, rfl, rfl, rfl, w0⟩ := open_int Try.underlying2 (hval 0 2 v0 rfl rfl) h0
  obtain ⟨a1, rfl, rfl, rfl, w1⟩ := open_int Try.underlying2 (hval 1 2 v1 rfl rfl) h1
  clear hA0 hval0
  simp only [List.append_nil] at hW'
  refine (walk a0 a1 w0 w1 W).mono fun e W' ⟨he, hg⟩ => ?_
  subst he
  exact ⟨_, rfl, Shell.lawPost (by kernel_rfl) rfl (by kernel_rfl) rfl Try.underlying4 hW' rfl hg⟩

/-- The statement. -/
theorem proved : Rows.NumWholeSaid :=
  OpenClaim.holds_of_wide 4 Try.f4 rfl rfl rfl rfl rfl rfl rfl ⟨rfl, rfl, rfl, rfl, rfl⟩ rfl rfl rfl rfl rfl (by kernel_rfl) Try.func4 (by kernel_rfl)
    (of_decide_eq_true (by kernel_rfl)) (by unfold Func.isWrapper; first | (rw [if_pos (by decide +kernel)]; kernel_rfl) | (rw [if_neg (by decide +kernel)]; exact ⟨rfl, rfl⟩))
    (fun os started H enc _ => lifted os started H enc)
end Go.Proofs.Ytfoiiliioefgiaa.numWhole
