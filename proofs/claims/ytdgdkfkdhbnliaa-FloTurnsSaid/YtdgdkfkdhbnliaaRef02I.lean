/-
  The document's own ToInt, walked: what the program's does.
-/
import Derived.Test.YtdgdkfkdhbnliaaRef02
namespace Go.Proofs.Ytdgdkfkdhbnliaa.R02
open Go.RowKit NumM FloM

theorem shf_steps (M E : Nat) : M / 2 ^ (1075 - E) * 2 ^ (E - 1075) = shf M E := by
  unfold shf
  by_cases h : 1075 ≤ E
  · rw [show 1075 - E = 0 by omega, Nat.pow_zero, Nat.div_one, Nat.div_one]
  · rw [show E - 1075 = 0 by omega, Nat.pow_zero, Nat.mul_one, Nat.mul_one]
theorem half (M k : Nat) : ((M / 2 ^ k : Nat) : Int) / 2 = ((M / 2 ^ (k + 1) : Nat) : Int) := by
  rw [Nat.pow_succ, ← Nat.div_div_eq_div_mul]; omega
theorem twice (Q k : Nat) : ((Q * 2 ^ k : Nat) : Int) * 2 = ((Q * 2 ^ (k + 1) : Nat) : Int) := by
  rw [Nat.pow_succ, ← Nat.mul_assoc]; omega
theorem u64_eq {a b : Int} (h : a = b) : Value.int IntKind.u64 a = .int .u64 b := by rw [h]
theorem size_ok2 (Q k : Nat) (h : Q < 9007199254740992) (hk : k ≤ 10) : Q * 2 ^ k < 9223372036854775808 := by
  have h1 : 2 ^ k ≤ 2 ^ 10 := Nat.pow_le_pow_right (by decide) (by omega)
  have h2 := Nat.mul_le_mul (show Q ≤ 9007199254740991 by omega) h1
  omega
theorem size_ok (Q k : Nat) (h : Q < 9007199254740992) (hk : k < 11) : ((Q * 2 ^ k : Nat) : Int) * 2 < 18446744073709551616 := by
  have h1 : 2 ^ k ≤ 2 ^ 10 := Nat.pow_le_pow_right (by decide) (by omega)
  have h2 := Nat.mul_le_mul (show Q ≤ 9007199254740991 by omega) h1
  omega

set_option maxHeartbeats 1000000 in
theorem toint_in (n : Int) (w : World) (hn : In n) (hnn : ¬ nn (ub n)) (h1 : ¬ 1086 ≤ ub n % 9223372036854775808 / 4503599627370496) (h2 : ¬ ub n % 9223372036854775808 / 4503599627370496 < 1023) :
    Calls Try.prog 19 #[.int .i64 n] w fun e w' => e = .returned (.int .i64 (toV n)) ∧ w = w' := by
  have hv := toV_num hnn
  rw [if_neg h1, if_neg h2] at hv
  have hu : IntKind.u64.wrap n % 9223372036854775808 = ((ub n % 9223372036854775808 : Nat) : Int) := by rw [wu64, ub_mod]; omega
  have h3 : 0 ≤ IntKind.u64.wrap n := by rw [wu64]; omega
  have h4 : IntKind.u64.wrap n < 18446744073709551616 := by rw [wu64]; omega
  have hN := Lib.hid fun w => isnan_at n false (decide_eq_false (by have := ub_mod n; unfold nn at hnn; omega)) w
  clear hnn
  generalize ub n % 9223372036854775808 = R at *
  obtain ⟨E, hE⟩ : ∃ E, R / 4503599627370496 = E := ⟨_, rfl⟩
  obtain ⟨m, hm⟩ : ∃ m, R % 4503599627370496 = m := ⟨_, rfl⟩
  rw [hE] at h1 h2 hv
  rw [hm] at hv
  have hE' : (R : Int) / 4503599627370496 = (E : Int) := by omega
  have hm' : (R : Int) % 4503599627370496 = (m : Int) := by omega
  have hml : m < 4503599627370496 := by omega
  have t1 : decide (1086 ≤ (E : Int)) = false := decide_eq_false (by omega)
  have t2 : decide ((E : Int) < 1023) = false := decide_eq_false (by omega)
  have HE := Lib.hid (show 1023 ≤ E ∧ E ≤ 1085 by omega)
  have Hm := Lib.hid hml
  have Hin := Lib.hid hn
  have Hv := Lib.hid hv
  clear hE hm h1 h2 hml hn hv
  go_enter Try.func19, Try.ntmps19
  go_wp2_with (go_at_call 28; (with_reducible refine (hN.out _).mono ?_); rintro e w' ⟨rfl, rfl⟩)
  go_loop [5, 6] (fun q i => ∃ k : Nat, E ≤ k ∧ (k ≤ 1075 ∨ k = E) ∧ i = .int .i64 (k : Int) ∧ q = .int .u64 (((m + 4503599627370496) / 2 ^ (k - E) : Nat) : Int)) (fun _ i => (1075 - intOf i).toNat)
  case atStart => exact ⟨E, Nat.le_refl _, .inr rfl, rfl, u64_eq (by simp)⟩
  case round =>
    obtain ⟨k, hk1, hk2, rfl, rfl⟩ := hrel
    have hq := half (m + 4503599627370496) (k - E)
    have hqb : (m + 4503599627370496) / 2 ^ (k - E) < 9007199254740992 := Nat.lt_of_le_of_lt (Nat.div_le_self _ _) (by have := Hm.out; omega)
    generalize hQ : (m + 4503599627370496) / 2 ^ (k - E) = Q at hq hqb ⊢
    generalize hQ' : (m + 4503599627370496) / 2 ^ (k - E + 1) = Q' at hq
    have hq64 : (Q' : Int) < 18446744073709551616 := by omega
    have HQ := Lib.hid hQ
    have HQ' := Lib.hid hQ'
    have Hqb := Lib.hid hqb
    clear hQ hQ' hqb
    by_cases hlt : k < 1075
    · have t3 : decide ((k : Int) < 1075) = true := decide_eq_true (by omega)
      have hkE : k ≤ 1085 := by omega
      have Hk := Lib.hid hlt
      have Hk1 := Lib.hid hk1
      clear hlt hk2 hk1
      go_wp2
      go_round
      case rel =>
        have h1 := Hk.out
        have h2 := Hk1.out
        exact ⟨k + 1, by omega, .inl (by omega), by go_num, u64_eq (by rw [← HQ'.out, show k + 1 - E = k - E + 1 by omega])⟩
      case measure =>
        have h1 := Hk.out
        simp [intOf]; omega
    · have t3 : decide ((k : Int) < 1075) = false := decide_eq_false (by omega)
      have HK := Lib.hid (show k - E = 1075 - E by omega)
      clear hlt hk2 hk1 hq
      go_wp2
      go_loop [5, 7] (fun q i => ∃ l : Nat, 1075 ≤ l ∧ (l ≤ E ∨ l = 1075) ∧ i = .int .i64 (l : Int) ∧ q = .int .u64 ((Q * 2 ^ (l - 1075) : Nat) : Int)) (fun _ i => (E - intOf i).toNat)
      case atStart => exact ⟨1075, Nat.le_refl _, .inr rfl, rfl, u64_eq (by simp)⟩
      case round =>
        obtain ⟨l, hl1, hl2, rfl, rfl⟩ := hrel
        have hq := twice Q (l - 1075)
        have hb : l < E → ((Q * 2 ^ (l - 1075) : Nat) : Int) * 2 < 18446744073709551616 := fun h => size_ok Q (l - 1075) Hqb.out (by have := HE.out; omega)
        generalize hP : Q * 2 ^ (l - 1075) = P at hq hb ⊢
        generalize hP' : Q * 2 ^ (l - 1075 + 1) = P' at hq
        have HP := Lib.hid hP
        have HP' := Lib.hid hP'
        clear hP hP'
        have hl4 : l ≤ 1085 := by have := HE.out; omega
        by_cases hlt : l < E
        · have t4 : decide (l < E) = true := decide_eq_true hlt
          have hb' := hb hlt
          have Hk := Lib.hid hlt
          have Hk1 := Lib.hid hl1
          have Hq := Lib.hid hq
          clear hb hlt hl2 hl1 hq
          go_wp2
          go_round
          case rel =>
            have h1 := Hk.out
            have h2 := Hk1.out
            exact ⟨l + 1, by omega, .inl (by omega), by go_num, u64_eq (by rw [show l + 1 - 1075 = l - 1075 + 1 by omega, HP'.out]; exact Hq.out)⟩
          case measure =>
            have h1 := Hk.out
            simp [intOf]; omega
        · have t4 : decide (l < E) = false := decide_eq_false hlt
          have hfin : P = shf (m + 4503599627370496) E := by
            rw [← HP.out, ← HQ.out, HK.out, show l - 1075 = E - 1075 by omega, shf_steps]
          have hPb : P < 9223372036854775808 := by rw [← HP.out]; exact size_ok2 Q _ Hqb.out (by omega)
          have Hfin := Lib.hid hfin
          clear hfin hb hlt hl2 hl1 hq
          by_cases h0 : n < 0
          · have t5 : decide (n < 0) = true := decide_eq_true h0
            have hres : toV n = wrap64 (IntKind.u64.wrap (-(P : Int))) := by rw [Hv.out, if_pos h0, ← Hfin.out, w64, wu64]; omega
            have Hres := Lib.hid hres
            clear hres h0
            go_wp2
            go_ret
            exact ⟨ret_i Hres.out.symm, rfl⟩
          · have t5 : decide (n < 0) = false := decide_eq_false h0
            have hres : toV n = (P : Int) := by rw [Hv.out, if_neg h0, ← Hfin.out]
            have Hres := Lib.hid hres
            clear hres h0
            go_wp2
            go_ret
            exact ⟨ret_i Hres.out.symm, rfl⟩

set_option maxHeartbeats 1000000 in
theorem toint_any (n : Int) (w : World) (hn : In n) :
    Calls Try.prog 19 #[.int .i64 n] w fun e w' => e = .returned (.int .i64 (toV n)) ∧ w = w' := by
  by_cases hnn : nn (ub n)
  · have hv : toV n = 0 := by unfold toV; rw [if_pos hnn]
    have hN := Lib.hid fun w => isnan_at n true (decide_eq_true (by have := ub_mod n; unfold nn at hnn; omega)) w
    rw [hv]
    clear hv hnn hn
    go_enter Try.func19, Try.ntmps19
    go_wp2_with (go_at_call 28; (with_reducible refine (hN.out _).mono ?_); rintro e w' ⟨rfl, rfl⟩)
    go_ret
    exact ⟨rfl, rfl⟩
  by_cases h1 : 1086 ≤ ub n % 9223372036854775808 / 4503599627370496
  · have hv := toV_num hnn
    rw [if_pos h1] at hv
    have hu : IntKind.u64.wrap n % 9223372036854775808 = ((ub n % 9223372036854775808 : Nat) : Int) := by rw [wu64, ub_mod]; omega
    have h3 : 0 ≤ IntKind.u64.wrap n := by rw [wu64]; omega
    have h4 : IntKind.u64.wrap n < 18446744073709551616 := by rw [wu64]; omega
    have hN := Lib.hid fun w => isnan_at n false (decide_eq_false (by have := ub_mod n; unfold nn at hnn; omega)) w
    have t1 : decide (1086 ≤ ((ub n % 9223372036854775808 : Nat) : Int) / 4503599627370496) = true := decide_eq_true (by omega)
    have hR : ub n % 9223372036854775808 < 9223372036854775808 := by omega
    clear hnn h1 hn
    generalize ub n % 9223372036854775808 = R at *
    clear hR
    by_cases h0 : n < 0
    · have t5 : decide (n < 0) = true := decide_eq_true h0
      rw [if_pos h0] at hv
      rw [hv]
      clear hv h0
      go_enter Try.func19, Try.ntmps19
      go_wp2_with (go_at_call 28; (with_reducible refine (hN.out _).mono ?_); rintro e w' ⟨rfl, rfl⟩)
      go_ret
      exact ⟨rfl, rfl⟩
    · have t5 : decide (n < 0) = false := decide_eq_false h0
      rw [if_neg h0] at hv
      rw [hv]
      clear hv h0
      go_enter Try.func19, Try.ntmps19
      go_wp2_with (go_at_call 28; (with_reducible refine (hN.out _).mono ?_); rintro e w' ⟨rfl, rfl⟩)
      go_ret
      exact ⟨rfl, rfl⟩
  by_cases h2 : ub n % 9223372036854775808 / 4503599627370496 < 1023
  · have hv := toV_num hnn
    rw [if_neg h1, if_pos h2] at hv
    have hu : IntKind.u64.wrap n % 9223372036854775808 = ((ub n % 9223372036854775808 : Nat) : Int) := by rw [wu64, ub_mod]; omega
    have h3 : 0 ≤ IntKind.u64.wrap n := by rw [wu64]; omega
    have h4 : IntKind.u64.wrap n < 18446744073709551616 := by rw [wu64]; omega
    have hN := Lib.hid fun w => isnan_at n false (decide_eq_false (by have := ub_mod n; unfold nn at hnn; omega)) w
    have t1 : decide (1086 ≤ ((ub n % 9223372036854775808 : Nat) : Int) / 4503599627370496) = false := decide_eq_false (by omega)
    have t2 : decide (((ub n % 9223372036854775808 : Nat) : Int) / 4503599627370496 < 1023) = true := decide_eq_true (by omega)
    rw [hv]
    clear hnn h1 h2 hn hv
    generalize ub n % 9223372036854775808 = R at *
    go_enter Try.func19, Try.ntmps19
    go_wp2_with (go_at_call 28; (with_reducible refine (hN.out _).mono ?_); rintro e w' ⟨rfl, rfl⟩)
    go_ret
    exact ⟨rfl, rfl⟩
  exact toint_in n w hn hnn h1 h2

end Go.Proofs.Ytdgdkfkdhbnliaa.R02
