/-
  Plain facts on floats that are whole numbers of at most 53 bits: their order, their sums and differences are the numbers'. No program is named here.
-/
import Derived.Test.YtdgdkfkdhbnliaaFloExact
namespace Go.Proofs.Ytdgdkfkdhbnliaa.FloM
open Go.RowKit NumM

/-- how often the least float is in 1. -/
def lowest : Nat := 1074
theorem lowest_def : lowest = 1074 := rfl
def big : Nat := 2 ^ lowest
theorem big_pos : 0 < big := Nat.two_pow_pos lowest
theorem big_def : big = 2 ^ lowest := rfl

/-- a word that stands for a whole number. -/
def Rep (b : Nat) (n : Int) : Prop := b < 18446744073709551616 ∧ b % 9223372036854775808 < 9218868437227405312 ∧ Ieee.signed (sg b) (mg (b % 9223372036854775808)) (pl (b % 9223372036854775808)) = n * (big : Int)

theorem fit_word {M p : Nat} (h : Fit M p) (h2 : p * 4503599627370496 + M < 9218868437227405312) : mg (p * 4503599627370496 + M) = M ∧ pl (p * 4503599627370496 + M) = p := by
  obtain ⟨h1, h3, _⟩ := h
  unfold mg pl
  by_cases hM : M < 4503599627370496
  · have := h3 hM; subst this
    rw [if_pos (by omega), if_pos (by omega)]; omega
  · rw [if_neg (by omega), if_neg (by omega)]; omega

theorem canon (N : Nat) (h : N ≤ 9007199254740992) : ∃ M p, Fit M p ∧ p * 4503599627370496 + M < 9218868437227405312 ∧ M * 2 ^ p = N * big := by
  by_cases h0 : N = 0
  · subst h0; exact ⟨0, 0, ⟨by omega, by omega, by omega⟩, by omega, by simp⟩
  · by_cases h53 : N = 9007199254740992
    · subst h53
      have h3 : (1 + lowest) * 4503599627370496 + 4503599627370496 = 4845873199050653696 := by rw [lowest_def]
      refine ⟨4503599627370496, 1 + lowest, ⟨by omega, fun h => absurd h (by omega), by rw [h3]; omega⟩, by rw [h3]; omega, ?_⟩
      rw [big_def, Nat.pow_add, ← Nat.mul_assoc]
    · have hl : N.log2 ≤ 52 := by
        have := (Nat.log2_lt h0 (k := 53)).2 (show N < 2 ^ 53 by omega)
        omega
      have h1 : 2 ^ N.log2 ≤ N := Nat.log2_self_le h0
      have h2 : N < 2 ^ (N.log2 + 1) := Nat.lt_log2_self
      generalize N.log2 = l at hl h1 h2
      have e1 : 2 ^ l * 2 ^ (52 - l) = 4503599627370496 := by rw [← Nat.pow_add, show l + (52 - l) = 52 by omega]
      have e2 : 2 ^ (l + 1) * 2 ^ (52 - l) = 9007199254740992 := by rw [← Nat.pow_add, show l + 1 + (52 - l) = 53 by omega]
      have g1 : 4503599627370496 ≤ N * 2 ^ (52 - l) := by rw [← e1]; exact Nat.mul_le_mul_right _ h1
      have g2 : N * 2 ^ (52 - l) < 9007199254740992 := by rw [← e2]; exact Nat.mul_lt_mul_of_pos_right h2 (Nat.two_pow_pos _)
      refine ⟨N * 2 ^ (52 - l), 1022 + l, ⟨g2, by omega, by omega⟩, by omega, ?_⟩
      rw [Nat.mul_assoc, ← Nat.pow_add, show 52 - l + (1022 + l) = lowest by rw [lowest_def]; omega, big_def]

theorem sg_word (s : Bool) (r : Nat) (h : r < 9223372036854775808) : sg (Ieee.double.word s r) = s ∧ Ieee.double.word s r % 9223372036854775808 = r := by
  unfold sg Ieee.Format.word
  rw [sgw_d]
  cases s
  · simp; omega
  · simp; omega

/-- what has a whole number's value is written as such a word. -/
theorem rep_near (s : Bool) (N : Nat) (hN : N ≤ 9007199254740992) (mag : Nat) (k : Nat) (place : Int) (hp : place = -1074 + (k : Int)) (h : mag * 2 ^ k = N * big) (n : Int) (hn : n.natAbs = N) (h1 : n < 0 → s = true) (h2 : 0 < n → s = false) :
    Rep (Ieee.double.nearest s mag place) n := by
  obtain ⟨M, p, hf, hlt, he⟩ := canon N hN
  have hw : Ieee.double.nearest s mag place = Ieee.double.word s (p * 4503599627370496 + M) := by
    refine near_fit s hf mag place 1074 (by omega) (by omega) ?_
    rw [show (place + ((1074 : Nat) : Int)).toNat = k by omega, h, Nat.sub_self, Nat.add_zero, he]
  obtain ⟨w1, w2⟩ := sg_word s (p * 4503599627370496 + M) (by omega)
  obtain ⟨f1, f2⟩ := fit_word hf hlt
  unfold Rep
  rw [hw, w1, w2, f1, f2]
  refine ⟨(word_num s _ (by omega)).2, hlt, ?_⟩
  have e : M <<< p = N * big := by rw [Nat.shiftLeft_eq]; exact he
  cases s
  · rw [sg_f, e]
    have : (N : Int) = n := by
      rcases Int.lt_trichotomy n 0 with h3 | h3 | h3
      · cases h1 h3
      · omega
      · omega
    rw [← this]; rfl
  · rw [sg_t, e]
    have : -(N : Int) = n := by
      rcases Int.lt_trichotomy n 0 with h3 | h3 | h3
      · omega
      · omega
      · cases h2 h3
    rw [← this, Int.neg_mul]; rfl

theorem rep_of (n : Int) (h : n.natAbs ≤ 9007199254740992) : Rep (FloatKind.f64.nearest n) n := by
  refine rep_near (decide (n < 0)) n.natAbs h n.natAbs lowest 0 (by rw [lowest_def]; rfl) rfl n rfl (fun h => decide_eq_true h) (fun h => decide_eq_false (by omega))

theorem signed_shift (s : Bool) (m k p : Nat) (h : k ≤ p) : Ieee.signed s m (p - k) * ((2 ^ k : Nat) : Int) = Ieee.signed s m p := by
  have e : m <<< (p - k) * 2 ^ k = m <<< p := by
    rw [Nat.shiftLeft_eq, Nat.shiftLeft_eq, Nat.mul_assoc, ← Nat.pow_add, show p - k + k = p by omega]
  cases s
  · rw [sg_f, sg_f, ← e]; exact (Int.natCast_mul _ _).symm
  · rw [sg_t, sg_t, ← e, Int.neg_mul]; exact congrArg (fun z : Int => -z) (Int.natCast_mul _ _).symm
theorem signed_not (s : Bool) (m p : Nat) : Ieee.signed (!s) m p = -Ieee.signed s m p := by
  cases s
  · rfl
  · rw [sg_t, Int.neg_neg]; rfl

/-- two such words at a common place. -/
theorem rep_two {x y : Nat} {a b : Int} (hx : Rep x a) (hy : Rep y b) : ∃ (s t : Bool) (m n p q k : Nat), Ieee.double.read x = .number s m (-1074 + (p : Int)) ∧ Ieee.double.read y = .number t n (-1074 + (q : Int)) ∧
    min (-1074 + (p : Int)) (-1074 + (q : Int)) = -1074 + (k : Int) ∧ (-1074 + (p : Int) - (-1074 + (k : Int))).toNat = p - k ∧ (-1074 + (q : Int) - (-1074 + (k : Int))).toNat = q - k ∧
    Ieee.signed s m (p - k) * ((2 ^ k : Nat) : Int) = a * (big : Int) ∧ Ieee.signed t n (q - k) * ((2 ^ k : Nat) : Int) = b * (big : Int) := by
  obtain ⟨_, h1, h2⟩ := hx
  obtain ⟨_, h3, h4⟩ := hy
  generalize hp : pl (x % 9223372036854775808) = p at h2
  generalize hq : pl (y % 9223372036854775808) = q at h4
  refine ⟨sg x, sg y, mg (x % 9223372036854775808), mg (y % 9223372036854775808), p, q, min p q, by rw [read_fin x h1, hp], by rw [read_fin y h3, hq], by omega, by omega, by omega, ?_, ?_⟩
  · rw [signed_shift _ _ _ _ (by omega)]; exact h2
  · rw [signed_shift _ _ _ _ (by omega)]; exact h4

theorem cancel {X a : Int} {k : Nat} (h : X * ((2 ^ k : Nat) : Int) = a * (big : Int)) : (X < 0 ↔ a < 0) ∧ (X = 0 ↔ a = 0) ∧ X.natAbs * 2 ^ k = a.natAbs * big := by
  have hk : (0 : Int) < ((2 ^ k : Nat) : Int) := by have := Nat.two_pow_pos k; omega
  have hb : (0 : Int) < (big : Int) := by have := big_pos; omega
  have hn : X.natAbs * 2 ^ k = a.natAbs * big := by
    have := congrArg Int.natAbs h
    rwa [Int.natAbs_mul, Int.natAbs_mul, Int.natAbs_natCast, Int.natAbs_natCast] at this
  refine ⟨?_, ?_, hn⟩
  · constructor
    · intro hx
      have := Int.mul_neg_of_neg_of_pos hx hk
      rw [h] at this
      rcases Int.lt_or_le a 0 with h3 | h3
      · exact h3
      · have := Int.mul_nonneg h3 (Int.le_of_lt hb); omega
    · intro ha
      have := Int.mul_neg_of_neg_of_pos ha hb
      rw [← h] at this
      rcases Int.lt_or_le X 0 with h3 | h3
      · exact h3
      · have := Int.mul_nonneg h3 (Int.le_of_lt hk); omega
  · constructor
    · rintro rfl
      rw [Int.zero_mul] at h
      rcases Int.mul_eq_zero.1 h.symm with h | h <;> omega
    · rintro rfl
      rw [Int.zero_mul] at h
      rcases Int.mul_eq_zero.1 h with h | h <;> omega

theorem rep_lt {x y : Nat} {a b : Int} (hx : Rep x a) (hy : Rep y b) : (Ieee.double.order x y == some .lt) = decide (a < b) := by
  obtain ⟨s, t, m, n, p, q, k, e1, e2, e3, e4, e5, e6, e7⟩ := rep_two hx hy
  unfold Ieee.Format.order
  rw [e1, e2]
  simp only [Ieee.Datum.order]
  rw [e3, e4, e5]
  have hc := (cancel (X := Ieee.signed s m (p - k) - Ieee.signed t n (q - k)) (a := a - b) (k := k) (by rw [Int.sub_mul, Int.sub_mul, e6, e7])).1
  generalize Ieee.signed s m (p - k) = X at hc ⊢
  generalize Ieee.signed t n (q - k) = Y at hc ⊢
  by_cases h : a < b
  · rw [cmp_lt (show X < Y by omega), decide_eq_true h]; rfl
  · rw [decide_eq_false h]
    have hxy : ¬ X < Y := by omega
    rcases Int.lt_or_eq_of_le (show Y ≤ X by omega) with h3 | h3
    · rw [cmp_gt h3]; rfl
    · rw [cmp_eq h3.symm]; rfl

theorem rep_sum {x y : Nat} {a b : Int} (hx : Rep x a) (hy : Rep y b) (h : (a + b).natAbs ≤ 9007199254740992) : ∃ r, Ieee.double.add x y = some r ∧ Rep r (a + b) := by
  obtain ⟨s, t, m, n, p, q, k, e1, e2, e3, e4, e5, e6, e7⟩ := rep_two hx hy
  unfold Ieee.Format.add
  rw [e1, e2]
  simp only [Ieee.Datum.sum, Option.map]
  rw [e3, e4, e5]
  refine ⟨_, rfl, ?_⟩
  obtain ⟨c1, c2, c3⟩ := cancel (X := Ieee.signed s m (p - k) + Ieee.signed t n (q - k)) (a := a + b) (k := k) (by rw [Int.add_mul, Int.add_mul, e6, e7])
  refine rep_near _ (a + b).natAbs h _ k _ rfl c3 (a + b) rfl ?_ ?_
  · intro hlt
    have hX := c1.2 hlt
    rw [if_neg (by omega)]; exact decide_eq_true hX
  · intro hgt
    have hX : ¬ Ieee.signed s m (p - k) + Ieee.signed t n (q - k) < 0 := fun e => by have := c1.1 e; omega
    have hX0 : ¬ Ieee.signed s m (p - k) + Ieee.signed t n (q - k) = 0 := fun e => by have := c2.1 e; omega
    rw [if_neg hX0]; exact decide_eq_false hX
theorem rep_sub {x y : Nat} {a b : Int} (hx : Rep x a) (hy : Rep y b) (h : (a - b).natAbs ≤ 9007199254740992) : ∃ r, Ieee.double.sub x y = some r ∧ Rep r (a - b) := by
  obtain ⟨s, t, m, n, p, q, k, e1, e2, e3, e4, e5, e6, e7⟩ := rep_two hx hy
  unfold Ieee.Format.sub
  rw [e1, e2]
  simp only [Ieee.Datum.opposite, Ieee.Datum.sum, Option.map]
  rw [e3, e4, e5, signed_not]
  refine ⟨_, rfl, ?_⟩
  obtain ⟨c1, c2, c3⟩ := cancel (X := Ieee.signed s m (p - k) + -Ieee.signed t n (q - k)) (a := a - b) (k := k) (by rw [Int.add_mul, Int.neg_mul, Int.sub_mul, e6, e7]; omega)
  refine rep_near _ (a - b).natAbs h _ k _ rfl c3 (a - b) rfl ?_ ?_
  · intro hlt
    have hX := c1.2 hlt
    rw [if_neg (by omega)]; exact decide_eq_true hX
  · intro hgt
    have hX : ¬ Ieee.signed s m (p - k) + -Ieee.signed t n (q - k) < 0 := fun e => by have := c1.1 e; omega
    have hX0 : ¬ Ieee.signed s m (p - k) + -Ieee.signed t n (q - k) = 0 := fun e => by have := c2.1 e; omega
    rw [if_neg hX0]; exact decide_eq_false hX

theorem by_sign (x n : Int) (h : n ≠ 0 → (x < 0 ↔ n < 0)) : (if x < 0 then -((n.natAbs : Nat) : Int) else ((n.natAbs : Nat) : Int)) = n := by
  by_cases h0 : n = 0
  · subst h0; simp
  · have := h h0
    split <;> omega

/-- such a word is turned into its number. -/
theorem rep_to {x : Nat} {n : Int} (hx : Rep x n) (h : n.natAbs ≤ 9007199254740992) : toV (wrap64 (x : Int)) = n := by
  obtain ⟨h1, h2, h3⟩ := hx
  have hub : ub (wrap64 (x : Int)) = x := by rw [ub_wrap, ub_nat _ h1]
  have hnn : ¬ nn x := by unfold nn; omega
  have hsg : sg x = decide (wrap64 (x : Int) < 0) := by have := sg_neg (in_wrap (x : Int)); rw [hub] at this; exact this
  rw [toV_num (by rw [hub]; exact hnn), hub]
  have hc := cancel (X := Ieee.signed (sg x) (mg (x % 9223372036854775808)) (pl (x % 9223372036854775808))) (k := 0) (a := n) (by rw [h3]; simp)
  have hab : mg (x % 9223372036854775808) * 2 ^ pl (x % 9223372036854775808) = n.natAbs * big := by
    have := hc.2.2
    rw [Nat.pow_zero, Nat.mul_one] at this
    rw [← this]
    cases sg x
    · rw [sg_f, Int.natAbs_natCast, Nat.shiftLeft_eq]
    · rw [sg_t, Int.natAbs_neg, Int.natAbs_natCast, Nat.shiftLeft_eq]
  have hlt : x % 9223372036854775808 / 4503599627370496 < 1086 := by
    rcases Nat.lt_or_ge (x % 9223372036854775808 / 4503599627370496) 1086 with h5 | h5
    · exact h5
    · exfalso
      obtain ⟨g1, g2⟩ := mg_hi (r := x % 9223372036854775808) (by omega)
      have g3 : 4503599627370496 ≤ mg (x % 9223372036854775808) := by omega
      have g4 : 2 ^ (lowest + 2) ≤ 2 ^ pl (x % 9223372036854775808) := Nat.pow_le_pow_right (by decide) (by rw [lowest_def]; omega)
      rw [Nat.pow_add, ← big_def] at g4
      have g5 := Nat.mul_le_mul g3 g4
      rw [hab] at g5
      have g6 := Nat.mul_le_mul_right big h
      have := big_pos
      have e : 4503599627370496 * (big * 2 ^ 2) = 18014398509481984 * big := by
        rw [Nat.mul_comm big, ← Nat.mul_assoc]
      rw [e] at g5
      generalize big = B at *
      omega
  rw [if_neg (by omega)]
  have hsn : n ≠ 0 → (wrap64 (x : Int) < 0 ↔ n < 0) := by
    intro h0
    rw [← hc.1]
    have hd : wrap64 (x : Int) < 0 ↔ sg x = true := by rw [hsg]; simp
    rw [hd]
    have hX0 : Ieee.signed (sg x) (mg (x % 9223372036854775808)) (pl (x % 9223372036854775808)) ≠ 0 := fun e => h0 (hc.2.1.1 e)
    generalize mg (x % 9223372036854775808) = M at hX0 ⊢
    generalize pl (x % 9223372036854775808) = P at hX0 ⊢
    cases hs : sg x
    · rw [sg_f]; exact ⟨(fun h => nomatch h), fun h => absurd h (Int.not_lt.2 (Int.natCast_nonneg _))⟩
    · rw [hs, sg_t] at hX0; rw [sg_t]
      have h6 := Int.natCast_nonneg (M <<< P)
      generalize ((M <<< P : Nat) : Int) = Z at h6 hX0 ⊢
      exact ⟨fun _ => by omega, fun _ => rfl⟩
  by_cases he : x % 9223372036854775808 / 4503599627370496 < 1023
  · rw [if_pos he]
    have g1 : pl (x % 9223372036854775808) ≤ 1021 := by unfold pl; split <;> omega
    have g2 := mg_lt (x % 9223372036854775808)
    have g3 : mg (x % 9223372036854775808) * 2 ^ pl (x % 9223372036854775808) < big := by
      have g4 : 2 ^ (53 + pl (x % 9223372036854775808)) ≤ 2 ^ lowest := Nat.pow_le_pow_right (by decide) (by rw [lowest_def]; omega)
      have g5 : mg (x % 9223372036854775808) * 2 ^ pl (x % 9223372036854775808) < 2 ^ 53 * 2 ^ pl (x % 9223372036854775808) := Nat.mul_lt_mul_of_pos_right g2 (Nat.two_pow_pos _)
      rw [← Nat.pow_add] at g5
      exact Nat.lt_of_lt_of_le g5 g4
    rw [hab] at g3
    have : n.natAbs = 0 := by
      rcases Nat.eq_zero_or_pos n.natAbs with h6 | h6
      · exact h6
      · have := Nat.mul_le_mul_right big (show 1 ≤ n.natAbs from h6); omega
    omega
  · rw [if_neg he]
    obtain ⟨g1, g2⟩ := mg_hi (r := x % 9223372036854775808) (by omega)
    have hs : shf (x % 9223372036854775808 % 4503599627370496 + 4503599627370496) (x % 9223372036854775808 / 4503599627370496) = n.natAbs := by
      rw [g2, g1] at hab
      generalize x % 9223372036854775808 % 4503599627370496 + 4503599627370496 = M at hab
      generalize x % 9223372036854775808 / 4503599627370496 = E at hab hlt he
      unfold shf
      by_cases h75 : 1075 ≤ E
      · rw [show 1075 - E = 0 by omega, Nat.pow_zero, Nat.div_one]
        rw [show E - 1 = (E - 1075) + lowest by rw [lowest_def]; omega, Nat.pow_add, ← big_def, ← Nat.mul_assoc] at hab
        exact Nat.eq_of_mul_eq_mul_right big_pos hab
      · rw [show E - 1075 = 0 by omega, Nat.pow_zero, Nat.mul_one]
        rw [big_def, show lowest = (1075 - E) + (E - 1) by rw [lowest_def]; omega, Nat.pow_add, ← Nat.mul_assoc] at hab
        have := Nat.eq_of_mul_eq_mul_right (Nat.two_pow_pos _) hab
        rw [this, Nat.mul_div_cancel _ (Nat.two_pow_pos _)]
    rw [hs]
    exact by_sign _ n hsn

theorem fl_back {r : Nat} {n : Int} (h : Rep r n) : fl (wrap64 (r : Int)) = r := by
  have hn : ¬ nn r ∧ r < 18446744073709551616 := ⟨by unfold nn; have := h.2.1; omega, h.1⟩
  unfold fl; rw [plain_wrap hn, ub_wrap, ub_nat _ hn.2]
theorem fl_of (n : Int) (h : n.natAbs ≤ 9007199254740992) : fl (ofV n) = FloatKind.f64.nearest n := fl_back (rep_of n h)

end Go.Proofs.Ytdgdkfkdhbnliaa.FloM
