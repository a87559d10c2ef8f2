/-
  Plain facts on floats: what stands for a number without rest is written as itself. No program is named here.
-/
import Derived.Test.YtdgdkfkdhbnliaaFloInt
namespace Go.Proofs.Ytdgdkfkdhbnliaa.FloM
open Go.RowKit NumM

theorem log_mul {M : Nat} (hM : M ≠ 0) (k : Nat) : (M * 2 ^ k).log2 = M.log2 + k := by
  have h : M * 2 ^ k ≠ 0 := by
    have := Nat.two_pow_pos k
    exact Nat.mul_ne_zero hM (by omega)
  rw [Nat.log2_eq_iff h]
  constructor
  · rw [Nat.pow_add]; exact Nat.mul_le_mul_right _ (Nat.log2_self_le hM)
  · rw [show M.log2 + k + 1 = M.log2 + 1 + k by omega, Nat.pow_add]
    exact Nat.mul_lt_mul_of_pos_right Nat.lt_log2_self (Nat.two_pow_pos k)

theorem cut_even (s : Bool) (M k : Nat) : Ieee.Toward.even.cut s (M * 2 ^ k) k = M := by
  by_cases hM : M = 0
  · subst hM
    unfold Ieee.Toward.cut
    simp only [Nat.zero_mul, Nat.zero_div, Nat.zero_mod, Nat.one_shiftLeft, Nat.mul_zero, Nat.zero_add]
    have := Nat.two_pow_pos (min k (Nat.log2 0 + 2))
    have e : (decide (2 ^ min k (Nat.log2 0 + 2) < 0)) = false := by simp
    have e2 : (2 ^ min k (Nat.log2 0 + 2) == 0) = false := by simp
    rw [e, e2]; rfl
  · unfold Ieee.Toward.cut
    have hk : min k ((M * 2 ^ k).log2 + 2) = k := by rw [log_mul hM]; omega
    simp only [hk, Nat.one_shiftLeft]
    have hp := Nat.two_pow_pos k
    rw [Nat.mul_div_cancel _ hp, Nat.mul_mod_left]
    have e : (decide (2 ^ k < 2 * 0)) = false := by simp
    have e2 : (2 ^ k == 2 * 0) = false := by simp
    rw [e, e2]; rfl

/-- the rung of M digits at place p above the least is where M * 2 ^ p is written. -/
def Fit (M p : Nat) : Prop := M < 9007199254740992 ∧ (M < 4503599627370496 → p = 0) ∧ p * 4503599627370496 + M ≤ 9218868437227405312

theorem log_hi {M : Nat} (h1 : 4503599627370496 ≤ M) (h2 : M < 9007199254740992) : M.log2 = 52 := by
  rw [Nat.log2_eq_iff (by omega)]; exact ⟨h1, h2⟩
theorem log_lo {M : Nat} (h : M < 4503599627370496) : M.log2 ≤ 52 := by
  by_cases h0 : M = 0
  · subst h0; decide
  · have := Nat.log2_lt h0 (k := 52)
    have := this.2 h
    omega

/-- what has the value of a word is written as that word. -/
theorem near_fit (s : Bool) {M p : Nat} (hf : Fit M p) (mag : Nat) (place : Int) (c : Nat) (hc : 0 ≤ place + c) (h1074 : 1074 ≤ c)
    (h : mag * 2 ^ (place + c).toNat = M * 2 ^ (p + (c - 1074))) : Ieee.double.nearest s mag place = Ieee.double.word s (p * 4503599627370496 + M) := by
  obtain ⟨h1, h2, h3⟩ := hf
  by_cases hM : M = 0
  · subst hM
    have hm : mag = 0 := by
      rw [Nat.zero_mul] at h
      rcases Nat.mul_eq_zero.1 h with h | h
      · exact h
      · exact absurd h (by have := Nat.two_pow_pos (place + c).toNat; omega)
    subst hm
    have hp := h2 (by decide)
    subst hp
    unfold Ieee.Format.nearest; simp
  · have hlast : ∀ l : Nat, place + (l : Int) = (p : Int) - 1074 + (M.log2 : Nat) → max (place + (l : Int) - 52) (-1074) = (p : Int) - 1074 := by
      intro l hl
      rw [hl]
      by_cases h52 : 4503599627370496 ≤ M
      · rw [log_hi h52 h1]; omega
      · have h0 := h2 (by omega)
        have := log_lo (M := M) (by omega)
        omega
    have hw : ∀ x, x = M → Ieee.double.word s (min (((p : Int) - 1074 - -1074).toNat * 4503599627370496 + x) 9218868437227405312) = Ieee.double.word s (p * 4503599627370496 + M) := by
      rintro x rfl
      rw [show ((p : Int) - 1074 - -1074).toNat = p by omega, Nat.min_eq_left h3]
    by_cases hk : place ≤ (p : Int) - 1074
    · obtain ⟨k, hk'⟩ : ∃ k : Nat, (p : Int) - 1074 = place + k := ⟨((p : Int) - 1074 - place).toNat, by omega⟩
      have hmag : mag = M * 2 ^ k := by
        rw [show p + (c - 1074) = k + (place + c).toNat by omega, Nat.pow_add, ← Nat.mul_assoc] at h
        exact Nat.eq_of_mul_eq_mul_right (Nat.two_pow_pos _) h
      subst hmag
      have h0 : M * 2 ^ k ≠ 0 := Nat.mul_ne_zero hM (by have := Nat.two_pow_pos k; omega)
      unfold Ieee.Format.nearest
      rw [if_neg h0, fb_d, lp_d, bin_d, inf_d, log_mul hM]
      show Ieee.double.word s (min ((max (place + ((M.log2 + k : Nat) : Int) - 52) (-1074) - -1074).toNat * 4503599627370496 + _) 9218868437227405312) = _
      have e := hlast (M.log2 + k) (by omega)
      rw [show ((52 : Nat) : Int) = 52 from rfl, e]
      apply hw
      rw [show (place - ((p : Int) - 1074)).toNat = 0 by omega, shl_0, show ((p : Int) - 1074 - place).toNat = k by omega]
      exact cut_even s M k
    · obtain ⟨k, hk'⟩ : ∃ k : Nat, place = (p : Int) - 1074 + k := ⟨(place - ((p : Int) - 1074)).toNat, by omega⟩
      have hmag : M = mag * 2 ^ k := by
        rw [show (place + c).toNat = k + (p + (c - 1074)) by omega, Nat.pow_add, ← Nat.mul_assoc] at h
        exact (Nat.eq_of_mul_eq_mul_right (Nat.two_pow_pos _) h).symm
      have h0 : mag ≠ 0 := by rintro rfl; simp at hmag; exact hM hmag
      have hlog : M.log2 = mag.log2 + k := by rw [hmag, log_mul h0]
      unfold Ieee.Format.nearest
      rw [if_neg h0, fb_d, lp_d, bin_d, inf_d]
      have e := hlast mag.log2 (by omega)
      dsimp only
      rw [show ((52 : Nat) : Int) = 52 from rfl, e]
      apply hw
      rw [show ((p : Int) - 1074 - place).toNat = 0 by omega, show (place - ((p : Int) - 1074)).toNat = k by omega, Nat.shiftLeft_eq, ← hmag]
      have := cut_even s M 0
      rw [Nat.pow_zero, Nat.mul_one] at this
      exact this

theorem fit_read {r : Nat} (h : r < 9218868437227405312) : Fit (mg r) (pl r) ∧ pl r * 4503599627370496 + mg r = r := by
  unfold Fit mg pl
  split <;> omega
theorem word_back {b : Nat} (h : b < 18446744073709551616) : Ieee.double.word (sg b) (b % 9223372036854775808) = b := by
  unfold Ieee.Format.word sg
  rw [sgw_d]
  by_cases hs : b / 9223372036854775808 % 2 = 1
  · rw [hs]; simp; omega
  · rw [show (b / 9223372036854775808 % 2 == 1) = false by simpa using hs]; simp; omega

/-- a word read, and written with its digits moved, is itself. -/
theorem near_read {b : Nat} (hb : b < 18446744073709551616) (h : b % 9223372036854775808 < 9218868437227405312) (mag : Nat) (place : Int) (c : Nat) (hc : 0 ≤ place + c) (h1074 : 1074 ≤ c)
    (e : mag * 2 ^ (place + c).toNat = mg (b % 9223372036854775808) * 2 ^ (pl (b % 9223372036854775808) + (c - 1074))) : Ieee.double.nearest (sg b) mag place = b := by
  obtain ⟨f1, f2⟩ := fit_read h
  rw [near_fit (sg b) f1 mag place c hc h1074 e, f2, word_back hb]

/-! ### what stays -/
theorem read_z1 : Ieee.double.read 9223372036854775808 = .number true 0 (-1074) := by decide +kernel
theorem read_z0 : Ieee.double.read 0 = .number false 0 (-1074) := by decide +kernel
theorem read_one : Ieee.double.read 4607182418800017408 = .number false 4503599627370496 (-52) := by decide +kernel

theorem inf_back {b : Nat} (hb : b < 18446744073709551616) (h : b % 9223372036854775808 = 9218868437227405312) : Ieee.double.write (.infinity (sg b)) = b := by
  show Ieee.double.word (sg b) Ieee.double.infRung = b
  rw [inf_d, ← h, word_back hb]

theorem neg_z (m k : Nat) : Ieee.signed true 0 k = 0 ∧ Ieee.signed false 0 k = 0 ∧ (Ieee.signed true m k).natAbs = m <<< k ∧ (Ieee.signed false m k).natAbs = m <<< k := by
  rw [sg_t, sg_f, sg_t, sg_f]
  simp only [Int.natAbs_neg, Int.natAbs_natCast, Nat.zero_shiftLeft, and_true]
  exact ⟨rfl, rfl⟩

theorem sum_z1 (b : Nat) (hb : b < 18446744073709551616) (h : ¬ nn b) : ((Ieee.double.read b).sum (.number true 0 (-1074))).map Ieee.double.write = some b := by
  unfold nn at h
  by_cases hi : b % 9223372036854775808 = 9218868437227405312
  · rw [read_inf b hi]
    show some (Ieee.double.write (.infinity (sg b))) = _
    rw [inf_back hb hi]
  · rw [read_fin b (by omega)]
    have hlt : b % 9223372036854775808 < 9218868437227405312 := by omega
    have key : ∀ x, x = sg b → ∀ m, m = mg (b % 9223372036854775808) <<< pl (b % 9223372036854775808) → Ieee.double.nearest x m (-1074) = b := by
      rintro x rfl m rfl
      refine near_read hb hlt _ _ 1074 (by omega) (by omega) ?_
      rw [show (-1074 + ((1074 : Nat) : Int)).toNat = 0 by omega, Nat.shiftLeft_eq]; simp
    simp only [Ieee.Datum.sum, Option.map, Option.some_inj]
    show Ieee.double.nearest _ _ _ = b
    rw [show min (-1074 + ((pl (b % 9223372036854775808) : Nat) : Int)) (-1074) = -1074 by omega, show (-1074 + ((pl (b % 9223372036854775808) : Nat) : Int) - -1074).toNat = pl (b % 9223372036854775808) by omega]
    rw [show ((-1074 : Int) - -1074).toNat = 0 from rfl, (neg_z 0 0).1, Int.add_zero]
    generalize mg (b % 9223372036854775808) = m at key ⊢
    generalize pl (b % 9223372036854775808) = p at key ⊢
    apply key
    · cases hs : sg b
      · rw [sg_f]
        generalize m <<< p = X
        split
        · rfl
        · exact decide_eq_false (by omega)
      · rw [sg_t]
        generalize m <<< p = X
        split
        · rfl
        · exact decide_eq_true (by omega)
    · cases sg b
      · exact (neg_z m p).2.2.2
      · exact (neg_z m p).2.2.1

theorem add_z1 (b : Nat) (hb : b < 18446744073709551616) (h : ¬ nn b) : Ieee.double.add b 9223372036854775808 = some b := by
  unfold Ieee.Format.add; rw [read_z1]; exact sum_z1 b hb h
theorem sub_z0 (b : Nat) (hb : b < 18446744073709551616) (h : ¬ nn b) : Ieee.double.sub b 0 = some b := by
  unfold Ieee.Format.sub; rw [read_z0]; exact sum_z1 b hb h
theorem mul_one' (b : Nat) (hb : b < 18446744073709551616) (h : ¬ nn b) : Ieee.double.mul b 4607182418800017408 = some b := by
  unfold Ieee.Format.mul
  rw [read_one]
  unfold nn at h
  by_cases hi : b % 9223372036854775808 = 9218868437227405312
  · rw [read_inf b hi]
    simp only [Ieee.Datum.product, Bool.xor_false]
    show some (Ieee.double.write (.infinity (sg b))) = _
    rw [inf_back hb hi]
  · rw [read_fin b (by omega)]
    simp only [Ieee.Datum.product, Bool.xor_false, Option.map, Option.some_inj]
    show Ieee.double.nearest _ _ _ = b
    refine near_read hb (by omega) _ _ 2000 (by omega) (by omega) ?_
    rw [show (4503599627370496 : Nat) = 2 ^ 52 from rfl, Nat.mul_assoc, ← Nat.pow_add]
    congr 2; omega
theorem div_one' (b : Nat) (hb : b < 18446744073709551616) (h : ¬ nn b) : Ieee.double.div b 4607182418800017408 = some b := by
  unfold Ieee.Format.div
  rw [read_one, fb_d]
  unfold nn at h
  by_cases hi : b % 9223372036854775808 = 9218868437227405312
  · rw [read_inf b hi]
    simp only [Ieee.Datum.quotient, Bool.xor_false]
    show some (Ieee.double.write (.infinity (sg b))) = _
    rw [inf_back hb hi]
  · rw [read_fin b (by omega)]
    have hml := mg_lt (b % 9223372036854775808)
    have hlog : (mg (b % 9223372036854775808)).log2 ≤ 52 := by
      by_cases h52 : 4503599627370496 ≤ mg (b % 9223372036854775808)
      · rw [log_hi h52 hml]; omega
      · exact log_lo (by omega)
    simp only [Ieee.Datum.quotient, Bool.xor_false]
    rw [if_neg (by decide), show Nat.log2 4503599627370496 = 52 from by decide +kernel]
    simp only [Option.map, Option.some_inj]
    show Ieee.double.nearest _ _ _ = b
    obtain ⟨k, hk⟩ : ∃ k, 52 + 2 + 52 - (mg (b % 9223372036854775808)).log2 = 52 + k := ⟨54 - (mg (b % 9223372036854775808)).log2, by omega⟩
    have hk54 : k ≤ 54 := by omega
    rw [hk, Nat.shiftLeft_eq, Nat.pow_add, Nat.mul_comm (2 ^ 52), ← Nat.mul_assoc, show (4503599627370496 : Nat) = 2 ^ 52 from rfl, Nat.mul_div_cancel _ (Nat.two_pow_pos _), Nat.mul_mod_left]
    show Ieee.double.nearest _ (2 * (mg (b % 9223372036854775808) * 2 ^ k) + 0) _ = b
    refine near_read hb (by omega) _ _ 2000 (by omega) (by omega) ?_
    rw [Nat.add_zero, Nat.mul_comm 2, Nat.mul_assoc, Nat.mul_assoc, ← Nat.mul_assoc (2 ^ k), ← Nat.pow_succ, ← Nat.pow_add]
    congr 2; omega

/-! ### in either order -/
theorem sum_comm (x y : Ieee.Datum) : x.sum y = y.sum x := by
  cases x <;> cases y <;> simp only [Ieee.Datum.sum]
  · rename_i s m i t n j
    rw [Int.min_comm j i, Int.add_comm (Ieee.signed t n _), Bool.and_comm t s]
  · rename_i s t
    by_cases h : s = t
    · subst h; rfl
    · rw [if_neg h, if_neg fun e => h e.symm]
theorem product_comm (x y : Ieee.Datum) : x.product y = y.product x := by
  cases x <;> cases y <;> simp only [Ieee.Datum.product]
  · rw [Bool.xor_comm, Nat.mul_comm, Int.add_comm]
  · rw [Bool.xor_comm]
theorem add_comm' (x y : Nat) : Ieee.double.add x y = Ieee.double.add y x := by unfold Ieee.Format.add; rw [sum_comm]
theorem mul_comm' (x y : Nat) : Ieee.double.mul x y = Ieee.double.mul y x := by unfold Ieee.Format.mul; rw [product_comm]

end Go.Proofs.Ytdgdkfkdhbnliaa.FloM
