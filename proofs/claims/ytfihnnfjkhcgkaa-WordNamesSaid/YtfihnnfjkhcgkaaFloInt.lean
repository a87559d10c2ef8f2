/-
  Plain facts on floats and whole numbers, each turned into the other. No program is named here.
-/
import Derived.Test.YtfihnnfjkhcgkaaFloMath
namespace Go.Proofs.Ytfihnnfjkhcgkaa.FloM
open Go.RowKit NumM

/-- flo.OfInt. -/
def ofV (n : Int) : Int := wrap64 (FloatKind.f64.nearest n : Nat)
/-- the whole part of a float without its sign, by its digits and its exponent. -/
def shf (m e : Nat) : Nat := m * 2 ^ (e - 1075) / 2 ^ (1075 - e)
/-- flo.ToInt. -/
def toV (n : Int) : Int :=
  if nn (ub n) then 0
  else if 1086 ≤ ub n % 9223372036854775808 / 4503599627370496 then (if n < 0 then -9223372036854775808 else 9223372036854775807)
  else if ub n % 9223372036854775808 / 4503599627370496 < 1023 then 0
  else if n < 0 then -(shf (ub n % 9223372036854775808 % 4503599627370496 + 4503599627370496) (ub n % 9223372036854775808 / 4503599627370496) : Nat)
  else (shf (ub n % 9223372036854775808 % 4503599627370496 + 4503599627370496) (ub n % 9223372036854775808 / 4503599627370496) : Nat)

theorem near_of (n : Int) : ¬ nn (FloatKind.f64.nearest n) ∧ FloatKind.f64.nearest n < 18446744073709551616 := write_num (d := .number (n < 0) n.natAbs 0) rfl
theorem of_plain (n : Int) : plainV (wrap64 (floatOfInt .f64 n : Nat)) = ofV n := plain_wrap (near_of n)

theorem cut_zero (s : Bool) (n d : Nat) : Ieee.Toward.zero.cut s n d = n / 2 ^ d := by
  unfold Ieee.Toward.cut
  simp only [Nat.one_shiftLeft, Bool.toNat_false, Nat.add_zero]
  by_cases h : d ≤ n.log2 + 2
  · rw [Nat.min_eq_left h]
  · rw [Nat.min_eq_right (by omega)]
    have h1 : n < 2 ^ (n.log2 + 1) := Nat.lt_log2_self
    rw [Nat.div_eq_of_lt (Nat.lt_of_lt_of_le h1 (Nat.pow_le_pow_right (by decide) (by omega))), Nat.div_eq_of_lt (Nat.lt_of_lt_of_le h1 (Nat.pow_le_pow_right (by decide) (by omega)))]

theorem read_c1 : Ieee.double.read 14114281232179134464 = .number true 4503599627370496 11 := by decide +kernel
theorem read_c2 : Ieee.double.read 4890909195324358656 = .number false 4503599627370496 11 := by decide +kernel

theorem sg_neg {n : Int} (h : In n) : sg (ub n) = decide (n < 0) := by
  obtain ⟨h1, h2⟩ := h
  unfold sg ub
  by_cases hn : n < 0
  · rw [show ((n % 18446744073709551616).toNat / 9223372036854775808 % 2) = 1 by omega]; simp [hn]
  · rw [show ((n % 18446744073709551616).toNat / 9223372036854775808 % 2) = 0 by omega]; simp [hn]

theorem mg_hi {r : Nat} (h : 1 ≤ r / 4503599627370496) : mg r = r % 4503599627370496 + 4503599627370496 ∧ pl r = r / 4503599627370496 - 1 := by
  unfold mg pl
  rw [if_neg (by omega), if_neg (by omega)]; omega
theorem mg_lt (r : Nat) : mg r < 9007199254740992 := by unfold mg; split <;> omega

theorem shl_ge (m k : Nat) : m ≤ m <<< k := by rw [Nat.shiftLeft_eq]; exact Nat.le_mul_of_pos_right _ (Nat.two_pow_pos k)

theorem cmp_lt {a b : Int} (h : a < b) : compare a b = .lt := by
  show compareOfLessAndEq a b = _
  unfold compareOfLessAndEq
  rw [if_pos h]
theorem cmp_gt {a b : Int} (h : b < a) : compare a b = .gt := by
  show compareOfLessAndEq a b = _
  unfold compareOfLessAndEq
  rw [if_neg (by omega), if_neg (by omega)]
theorem cmp_eq {a b : Int} (h : a = b) : compare a b = .eq := by
  show compareOfLessAndEq a b = _
  unfold compareOfLessAndEq
  rw [if_neg (by omega), if_pos h]
theorem sg_t (m k : Nat) : Ieee.signed true m k = -((m <<< k : Nat) : Int) := rfl
theorem sg_f (m k : Nat) : Ieee.signed false m k = ((m <<< k : Nat) : Int) := rfl
theorem shl_0 (m : Nat) : m <<< 0 = m := rfl

/-- below 2^63 in size: between both bounds. -/
theorem ord_in (s : Bool) (m : Nat) (i : Int) (hm : m < 9007199254740992) (hi : i ≤ 10) :
    Ieee.Datum.order (.number s m i) (.number true 4503599627370496 11) = some .gt ∧ Ieee.Datum.order (.number s m i) (.number false 4503599627370496 11) = some .lt := by
  simp only [Ieee.Datum.order, Option.some_inj]
  rw [show min i 11 = i by omega, show (i - i).toNat = 0 by omega]
  obtain ⟨k, hk⟩ : ∃ k, (11 - i).toNat = k + 1 := ⟨(11 - i).toNat - 1, by omega⟩
  rw [hk]
  have h1 := shl_ge 9007199254740992 k
  have h2 : 4503599627370496 <<< (k + 1) = 9007199254740992 <<< k := by rw [Nat.shiftLeft_eq, Nat.shiftLeft_eq, Nat.pow_succ]; omega
  rw [← h2] at h1
  clear h2
  constructor
  · apply cmp_gt
    cases s <;> simp only [sg_t, sg_f, shl_0] <;> generalize 4503599627370496 <<< (k + 1) = X at h1 ⊢ <;> omega
  · apply cmp_lt
    cases s <;> simp only [sg_t, sg_f, shl_0] <;> generalize 4503599627370496 <<< (k + 1) = X at h1 ⊢ <;> omega
/-- not less than 2^63 in size. -/
theorem ord_out (m : Nat) (i : Int) (hm : 4503599627370496 ≤ m) (hi : 11 ≤ i) :
    (Ieee.Datum.order (.number true m i) (.number true 4503599627370496 11) = some .lt ∨ (m <<< (i - 11).toNat = 4503599627370496 ∧ Ieee.Datum.order (.number true m i) (.number true 4503599627370496 11) = some .eq ∧ Ieee.Datum.order (.number true m i) (.number false 4503599627370496 11) = some .lt)) ∧
    (Ieee.Datum.order (.number false m i) (.number true 4503599627370496 11) = some .gt ∧ (Ieee.Datum.order (.number false m i) (.number false 4503599627370496 11) = some .gt ∨ Ieee.Datum.order (.number false m i) (.number false 4503599627370496 11) = some .eq)) := by
  simp only [Ieee.Datum.order, Option.some_inj]
  rw [show min i 11 = 11 by omega, show ((11 : Int) - 11).toNat = 0 from rfl]
  simp only [sg_t, sg_f, shl_0]
  have h1 := shl_ge m (i - 11).toNat
  generalize m <<< (i - 11).toNat = X at h1 ⊢
  refine ⟨?_, cmp_gt (by omega), ?_⟩
  · by_cases hX : 4503599627370496 < X
    · exact .inl (cmp_lt (by omega))
    · exact .inr ⟨by omega, cmp_eq (by omega), cmp_lt (by omega)⟩
  · by_cases hX : 4503599627370496 < X
    · exact .inl (cmp_gt (by omega))
    · exact .inr (cmp_eq (by omega))

/-- the whole number that a number is cut to. -/
theorem int_of (s : Bool) (m : Nat) (i : Int) : (Ieee.Datum.number s m i).toInt .zero = some (if s then -((m <<< i.toNat / 2 ^ (-i).toNat : Nat) : Int) else ((m <<< i.toNat / 2 ^ (-i).toNat : Nat) : Int)) := by
  unfold Ieee.Datum.toInt Ieee.Datum.integral
  simp only [cut_zero]
  cases s <;> simp only [sg_t, sg_f, shl_0] <;> rfl

theorem toV_num {n : Int} (h : ¬ nn (ub n)) : toV n = if 1086 ≤ ub n % 9223372036854775808 / 4503599627370496 then (if n < 0 then (-9223372036854775808 : Int) else 9223372036854775807)
    else if ub n % 9223372036854775808 / 4503599627370496 < 1023 then (0 : Int)
    else if n < 0 then -((shf (ub n % 9223372036854775808 % 4503599627370496 + 4503599627370496) (ub n % 9223372036854775808 / 4503599627370496) : Nat) : Int)
    else ((shf (ub n % 9223372036854775808 % 4503599627370496 + 4503599627370496) (ub n % 9223372036854775808 / 4503599627370496) : Nat) : Int) := by unfold toV; rw [if_neg h]

/-- of a float that isn't NaN, with what size and sign it has: flo.ToInt's tests, and what is cut. -/
theorem to_cases (n : Int) (hn : In n) (h : ¬ nn (ub n)) :
    (Ieee.double.order (ub n) 14114281232179134464 = some .lt ∧ toV n = -9223372036854775808) ∨
    ((Ieee.double.order (ub n) 14114281232179134464 = some .gt ∧ (Ieee.double.order (ub n) 4890909195324358656 = some .gt ∨ Ieee.double.order (ub n) 4890909195324358656 = some .eq)) ∧ toV n = 9223372036854775807) ∨
    ((Ieee.double.order (ub n) 14114281232179134464 = some .gt ∨ Ieee.double.order (ub n) 14114281232179134464 = some .eq) ∧ Ieee.double.order (ub n) 4890909195324358656 = some .lt ∧ floatToIntVal .f64 (ub n) .i64 = some (toV n)) := by
  have hs := sg_neg hn
  have hdec : FloatKind.f64.decode (ub n) = Ieee.double.read (ub n) := rfl
  unfold Ieee.Format.order floatToIntVal
  rw [read_c1, read_c2, hdec]
  rw [toV_num h]
  unfold nn at h
  clear hdec
  by_cases he : 1086 ≤ ub n % 9223372036854775808 / 4503599627370496
  · rw [if_pos he]
    by_cases hi : ub n % 9223372036854775808 = 9218868437227405312
    · rw [read_inf _ hi, hs]
      by_cases h0 : n < 0
      · left; rw [if_pos h0]; simp [h0, Ieee.Datum.order]
      · right; left; rw [if_neg h0]; simp [h0, Ieee.Datum.order]
    · obtain ⟨hm, hp⟩ := mg_hi (r := ub n % 9223372036854775808) (by omega)
      rw [read_fin _ (by omega), hs, hm, hp]
      generalize hM : ub n % 9223372036854775808 % 4503599627370496 + 4503599627370496 = M
      generalize hI : (-1074 + ((ub n % 9223372036854775808 / 4503599627370496 - 1 : Nat) : Int)) = I
      obtain ⟨o1, o2⟩ := ord_out M I (by omega) (by omega)
      by_cases h0 : n < 0
      · rw [if_pos h0, show decide (n < 0) = true from by simpa using h0]
        rcases o1 with o1 | ⟨e, o1, o3⟩
        · exact .inl ⟨o1, rfl⟩
        · refine .inr (.inr ⟨.inr o1, o3, ?_⟩)
          rw [int_of]
          have e2 : M <<< I.toNat / 2 ^ (-I).toNat = 9223372036854775808 := by
            rw [show (-I).toNat = 0 by omega, Nat.pow_zero, Nat.div_one, show I.toNat = (I - 11).toNat + 11 by omega, Nat.shiftLeft_add, e]
            rfl
          rw [e2]
          decide
      · rw [if_neg h0, show decide (n < 0) = false from by simpa using h0]
        exact .inr (.inl ⟨o2, rfl⟩)
  · rw [if_neg he]
    right; right
    rw [read_fin _ (by omega), hs]
    have hml := mg_lt (ub n % 9223372036854775808)
    have hpl : (pl (ub n % 9223372036854775808) : Int) ≤ 1084 := by unfold pl; split <;> omega
    obtain ⟨o1, o2⟩ := ord_in (decide (n < 0)) (mg (ub n % 9223372036854775808)) (-1074 + (pl (ub n % 9223372036854775808) : Nat)) hml (by omega)
    refine ⟨.inl o1, o2, ?_⟩
    rw [int_of]
    have key : mg (ub n % 9223372036854775808) <<< (-1074 + ((pl (ub n % 9223372036854775808) : Nat) : Int)).toNat / 2 ^ (-(-1074 + ((pl (ub n % 9223372036854775808) : Nat) : Int))).toNat =
        if ub n % 9223372036854775808 / 4503599627370496 < 1023 then 0 else shf (ub n % 9223372036854775808 % 4503599627370496 + 4503599627370496) (ub n % 9223372036854775808 / 4503599627370496) := by
      split
      · rename_i hlt
        have hp2 : pl (ub n % 9223372036854775808) ≤ 1021 := by unfold pl; split <;> omega
        rw [show (-1074 + ((pl (ub n % 9223372036854775808) : Nat) : Int)).toNat = 0 by omega, shl_0]
        apply Nat.div_eq_of_lt
        refine Nat.lt_of_lt_of_le hml ?_
        have hp3 := Nat.pow_le_pow_right (n := 2) (show 0 < 2 by decide) (show 53 ≤ (-(-1074 + ((pl (ub n % 9223372036854775808) : Nat) : Int))).toNat by omega)
        exact Nat.le_trans (by decide) hp3
      · rename_i hge
        obtain ⟨hm, hp⟩ := mg_hi (r := ub n % 9223372036854775808) (by omega)
        unfold shf
        rw [hm, hp, Nat.shiftLeft_eq]
        rw [show (-1074 + ((ub n % 9223372036854775808 / 4503599627370496 - 1 : Nat) : Int)).toNat = ub n % 9223372036854775808 / 4503599627370496 - 1075 by omega,
          show (-(-1074 + ((ub n % 9223372036854775808 / 4503599627370496 - 1 : Nat) : Int))).toNat = 1075 - ub n % 9223372036854775808 / 4503599627370496 by omega]
    have hsz : (if ub n % 9223372036854775808 / 4503599627370496 < 1023 then 0 else shf (ub n % 9223372036854775808 % 4503599627370496 + 4503599627370496) (ub n % 9223372036854775808 / 4503599627370496)) < 9223372036854775808 := by
      split
      · decide
      · unfold shf
        refine Nat.lt_of_le_of_lt (Nat.div_le_self _ _) ?_
        have : 2 ^ (ub n % 9223372036854775808 / 4503599627370496 - 1075) ≤ 2 ^ 10 := Nat.pow_le_pow_right (by decide) (by omega)
        have h2 := Nat.mul_le_mul (show ub n % 9223372036854775808 % 4503599627370496 + 4503599627370496 ≤ 9007199254740991 by omega) this
        omega
    rw [key]
    generalize hX : (if ub n % 9223372036854775808 / 4503599627370496 < 1023 then 0 else shf (ub n % 9223372036854775808 % 4503599627370496 + 4503599627370496) (ub n % 9223372036854775808 / 4503599627370496)) = X at hsz
    have hmin : IntKind.i64.min = -9223372036854775808 := by decide
    have hmax : IntKind.i64.max = 9223372036854775807 := by decide
    rw [hmin, hmax]
    by_cases h0 : n < 0
    · rw [show decide (n < 0) = true from by simpa using h0]
      simp only [if_true, h0]
      rw [if_pos (by omega), ← hX]
      split <;> rfl
    · rw [show decide (n < 0) = false from by simpa using h0]
      simp only [h0, Bool.false_eq_true, if_false]
      rw [if_pos (by omega), ← hX]
      split <;> rfl

end Go.Proofs.Ytfihnnfjkhcgkaa.FloM
