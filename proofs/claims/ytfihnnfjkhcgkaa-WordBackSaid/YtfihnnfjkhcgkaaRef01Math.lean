/-
  Plain facts on the document's own Do: bit by bit over 64 places, quotients by sizes and signs, shifts step by step.
-/
import Derived.Test.YtfihnnfjkhcgkaaNumMath
namespace Go.Proofs.Ytfihnnfjkhcgkaa.NumM
open Go.RowKit

/-- what k places make, each by a table of four. -/
def G (t : Nat → Nat) : Nat → Nat → Nat → Nat
  | 0, _, _ => 0
  | k + 1, X, Y => G t k X Y + 2 ^ k * t (2 * (X / 2 ^ k % 2) + Y / 2 ^ k % 2)

theorem G_lt (t : Nat → Nat) (ht : ∀ i, t i ≤ 1) (X Y : Nat) : ∀ k, G t k X Y < 2 ^ k
  | 0 => by simp [G]
  | k + 1 => by
    have h := G_lt t ht X Y k
    have h1 := ht (2 * (X / 2 ^ k % 2) + Y / 2 ^ k % 2)
    have h2 : 2 ^ k * t (2 * (X / 2 ^ k % 2) + Y / 2 ^ k % 2) ≤ 2 ^ k * 1 := Nat.mul_le_mul_left _ h1
    rw [G, Nat.pow_succ]
    omega

def tAnd (i : Nat) : Nat := if i = 3 then 1 else 0
def tOr (i : Nat) : Nat := if i = 0 then 0 else if i ≤ 3 then 1 else 0
def tXor (i : Nat) : Nat := if i = 1 ∨ i = 2 then 1 else 0

theorem bit_val (Z k : Nat) : Z / 2 ^ k % 2 = (Z.testBit k).toNat := (Nat.toNat_testBit Z k).symm

theorem G_of (t : Nat → Nat) (X Y Z : Nat) (h : ∀ k, Z / 2 ^ k % 2 = t (2 * (X / 2 ^ k % 2) + Y / 2 ^ k % 2)) : ∀ k, G t k X Y = Z % 2 ^ k
  | 0 => by simp [G, Nat.mod_one]
  | k + 1 => by rw [G, G_of t X Y Z h k, Nat.mod_pow_succ, h k]

theorem G_and (X Y k : Nat) : G tAnd k X Y = (X &&& Y) % 2 ^ k := G_of _ _ _ _ (fun k => by
  rw [bit_val, bit_val, bit_val, Nat.testBit_and]
  cases X.testBit k <;> cases Y.testBit k <;> rfl) k
theorem G_or (X Y k : Nat) : G tOr k X Y = (X ||| Y) % 2 ^ k := G_of _ _ _ _ (fun k => by
  rw [bit_val, bit_val, bit_val, Nat.testBit_or]
  cases X.testBit k <;> cases Y.testBit k <;> rfl) k
theorem G_xor (X Y k : Nat) : G tXor k X Y = (X ^^^ Y) % 2 ^ k := G_of _ _ _ _ (fun k => by
  rw [bit_val, bit_val, bit_val, Nat.testBit_xor]
  cases X.testBit k <;> cases Y.testBit k <;> rfl) k

/-- a number of 64 bits, without its sign. -/
def U (a : Int) : Nat := (a % 18446744073709551616).toNat
theorem U_lt (a : Int) : U a < 18446744073709551616 := by unfold U; omega
theorem U_val (a : Int) : (U a : Int) = IntKind.u64.wrap a := by rw [wu64]; unfold U; omega
theorem U_bv (a : Int) : (BitVec.ofInt 64 a).toNat = U a := by rw [BitVec.toNat_ofInt]; rfl

theorem and_G (a b : Int) : wrap64 (G tAnd 64 (U a) (U b) : Int) = bits .and .i64 a b := by
  rw [bits_and_i64, wi64, G_and, BitVec.toNat_and, U_bv, U_bv, Nat.mod_eq_of_lt]
  exact Nat.and_lt_two_pow _ (U_lt b)
theorem or_G (a b : Int) : wrap64 (G tOr 64 (U a) (U b) : Int) = bits .or .i64 a b := by
  rw [bits_or_i64, wi64, G_or, BitVec.toNat_or, U_bv, U_bv, Nat.mod_eq_of_lt]
  exact Nat.or_lt_two_pow (U_lt a) (U_lt b)
theorem xor_G (a b : Int) : wrap64 (G tXor 64 (U a) (U b) : Int) = bits .xor .i64 a b := by
  rw [bits_xor_i64, wi64, G_xor, BitVec.toNat_xor, U_bv, U_bv, Nat.mod_eq_of_lt]
  exact Nat.xor_lt_two_pow (U_lt a) (U_lt b)

/-! ### quotients by sizes and signs -/
theorem quo_sizes (a b : Int) : a.tdiv b = if decide (a < 0) = decide (b < 0) then ((a.natAbs / b.natAbs : Nat) : Int) else -((a.natAbs / b.natAbs : Nat) : Int) := by
  rcases Int.natAbs_eq a with ha | ha <;> rcases Int.natAbs_eq b with hb | hb
  all_goals
    generalize a.natAbs = m at *
    generalize b.natAbs = n at *
    subst ha; subst hb
    simp only [Int.neg_tdiv, Int.tdiv_neg, Int.neg_neg, ← Int.ofNat_tdiv]
    rcases Nat.eq_zero_or_pos m with rfl | hm <;> rcases Nat.eq_zero_or_pos n with rfl | hn
    all_goals simp
    all_goals (try omega)
theorem rem_sizes (a b : Int) : a.tmod b = if a < 0 then -((a.natAbs % b.natAbs : Nat) : Int) else ((a.natAbs % b.natAbs : Nat) : Int) := by
  rcases Int.natAbs_eq a with ha | ha <;> rcases Int.natAbs_eq b with hb | hb
  all_goals
    generalize a.natAbs = m at *
    generalize b.natAbs = n at *
    subst ha; subst hb
    simp only [Int.neg_tmod, Int.tmod_neg, ← Int.ofNat_tmod]
    rcases Nat.eq_zero_or_pos m with rfl | hm
    all_goals simp
    all_goals (try omega)

/-- where the loop over 64 places stands. -/
def St (t : Nat → Nat) (X Y k x y g p : Nat) : Prop := x = X / 2 ^ k ∧ y = Y / 2 ^ k ∧ g = G t k X Y ∧ p = 2 ^ k % 18446744073709551616
theorem St.start (t : Nat → Nat) (X Y : Nat) : St t X Y 0 X Y 0 1 := ⟨by simp, by simp, rfl, rfl⟩
theorem St.bounds {t : Nat → Nat} {X Y k x y g p : Nat} (ht : ∀ i, t i ≤ 1) (hX : X < 18446744073709551616) (hY : Y < 18446744073709551616) (hk : k < 64) (h : St t X Y k x y g p) :
    x < 18446744073709551616 ∧ y < 18446744073709551616 ∧ p ≤ 9223372036854775808 ∧ g < p ∧ 1 ≤ p := by
  obtain ⟨rfl, rfl, rfl, rfl⟩ := h
  have h1 : X / 2 ^ k ≤ X := Nat.div_le_self _ _
  have h2 : Y / 2 ^ k ≤ Y := Nat.div_le_self _ _
  have h3 : 2 ^ k ≤ 2 ^ 63 := Nat.pow_le_pow_right (by decide) (by omega)
  have h4 := G_lt t ht X Y k
  have h5 : 0 < 2 ^ k := Nat.pow_pos (by decide)
  rw [Nat.mod_eq_of_lt (by omega)]
  omega
theorem St.next {t : Nat → Nat} {X Y k x y g p : Nat} (hk : k < 64) (h : St t X Y k x y g p) :
    St t X Y (k + 1) (x / 2) (y / 2) (g + p * t (2 * (x % 2) + y % 2)) ((p * 2) % 18446744073709551616) := by
  obtain ⟨rfl, rfl, rfl, rfl⟩ := h
  have h3 : 2 ^ k ≤ 2 ^ 63 := Nat.pow_le_pow_right (by decide) (by omega)
  refine ⟨by rw [Nat.pow_succ, Nat.div_div_eq_div_mul], by rw [Nat.pow_succ, Nat.div_div_eq_div_mul], ?_, ?_⟩
  · rw [G, Nat.mod_eq_of_lt (a := 2 ^ k) (by omega)]
  · rw [Nat.pow_succ, Nat.mod_mul_mod]
theorem t_le {t : Nat → Nat} (ht : t = tAnd ∨ t = tOr ∨ t = tXor) (i : Nat) : t i ≤ 1 := by
  rcases ht with rfl | rfl | rfl
  · unfold tAnd; split <;> omega
  · unfold tOr; split <;> (try split) <;> omega
  · unfold tXor; split <;> omega

/-! ### shifts, step by step -/
theorem U_twice (z : Int) : IntKind.u64.wrap ((U z : Int) * 2) = (U (z * 2) : Int) := by rw [wu64]; unfold U; omega
theorem wrap_U (z : Int) : wrap64 (U z : Int) = wrap64 z := by rw [w64, w64]; unfold U; omega
theorem wrap_u (z : Int) : wrap64 (IntKind.u64.wrap z) = wrap64 z := by rw [w64, w64, wu64]; omega
theorem U_half_neg (z : Int) (h : z < 0) (hi : In z) : (U z : Int) / 2 + 9223372036854775808 = (U (z / 2) : Int) := by obtain ⟨h1, h2⟩ := hi; unfold U; omega
theorem U_half_pos (z : Int) (h : 0 ≤ z) (hi : In z) : (U z : Int) / 2 = (U (z / 2) : Int) := by obtain ⟨h1, h2⟩ := hi; unfold U; omega
theorem mul_next (a : Int) (k : Nat) : a * 2 ^ k * 2 = a * 2 ^ (k + 1) := by rw [Int.pow_succ, Int.mul_assoc]
theorem div_next (a : Int) (k : Nat) : a / 2 ^ k / 2 = a / 2 ^ (k + 1) := by rw [Int.pow_succ, Int.ediv_ediv_of_nonneg (Int.pow_nonneg (by decide))]
theorem in_div (a : Int) (h : In a) : ∀ k : Nat, In (a / 2 ^ k) ∧ (a < 0 → a / 2 ^ k < 0) ∧ (0 ≤ a → 0 ≤ a / 2 ^ k)
  | 0 => by simpa using h
  | k + 1 => by
    rw [← div_next]
    obtain ⟨⟨h1, h2⟩, h3, h4⟩ := in_div a h k
    refine ⟨⟨by omega, by omega⟩, fun ha => ?_, fun ha => ?_⟩
    · have := h3 ha; omega
    · have := h4 ha; omega
theorem n64 (b : Int) : IntKind.u64.wrap b % 64 = ((b % 64).toNat : Int) := by rw [wu64]; omega

theorem r1 (a b : Int) : wrap64 (IntKind.u64.wrap (IntKind.u64.wrap a + IntKind.u64.wrap b)) = doV 1 a b := by rw [wrap_u, v1, wu64, wu64, w64, w64]; omega
theorem r2 (a b : Int) : wrap64 (IntKind.u64.wrap (IntKind.u64.wrap a - IntKind.u64.wrap b)) = doV 2 a b := by rw [wrap_u, v2, wu64, wu64, w64, w64]; omega
theorem r3 (a b : Int) : wrap64 (IntKind.u64.wrap (IntKind.u64.wrap a * IntKind.u64.wrap b)) = doV 3 a b := by
  rw [wrap_u, v3, ← wrap_mull, wrap_u, wrap_mull, ← wrap_mulr, wrap_u, wrap_mulr]

/-! ### texts as numbers, the document's way -/
def uStep (n : Int) (c : UInt8) : Int := (n * 10 + (c.toNat : Int) - 48) % 18446744073709551616
def ru (l : List UInt8) : Int := l.foldl uStep 0
def readR (l : List UInt8) : Int := if l.head? = some 45 then wrap64 (-ru (l.take 30).tail) else wrap64 (ru (l.take 30))
/-- the document's Get. -/
def getR (l : List UInt8) : Int × Bool := if dec (readR l) = l then (readR l, true) else (0, false)
theorem ru_snoc (l : List UInt8) (c : UInt8) : ru (l ++ [c]) = uStep (ru l) c := by simp [ru]

theorem rd_digs (m : Nat) : rd (digs m) = wrap64 m := by
  rw [digs_last]
  split
  · simp only [rd, List.foldl, rdStep, dig_val]
    rw [w64, w64, w64]; omega
  · rename_i h
    rw [rd_snoc, rd_digs (m / 10), rdStep, dig_val, w64, w64, w64]
    rw [w64]
    omega
termination_by m
decreasing_by omega
theorem ru_digs (m : Nat) : ru (digs m) = (m : Int) % 18446744073709551616 := by
  rw [digs_last]
  split
  · simp only [ru, List.foldl, uStep, dig_val]
    omega
  · rename_i h
    rw [ru_snoc, ru_digs (m / 10), uStep, dig_val]
    omega
termination_by m
decreasing_by omega
theorem head_app {α : Type} (l k : List α) (h : l ≠ []) : (l ++ k).head? = l.head? := by
  cases l with
  | nil => exact absurd rfl h
  | cons a l => rfl
theorem digs_ne (m : Nat) : digs m ≠ [] := by
  rw [digs_last]; split <;> simp
theorem head_digs (m : Nat) : ∃ k, (digs m).head? = some (dig k) := by
  rw [digs_last]
  split
  · exact ⟨m, rfl⟩
  · rename_i h
    obtain ⟨k, hk⟩ := head_digs (m / 10)
    exact ⟨k, by rw [head_app _ _ (digs_ne _), hk]⟩
termination_by m
decreasing_by omega
theorem dig_ne (k : Nat) : ¬ dig k = 45 := by
  intro h
  have h1 := dig_val k
  rw [h] at h1
  have : ((45 : UInt8).toNat : Int) = 45 := rfl
  omega
theorem digs_len : ∀ (c m : Nat), m < 10 ^ (c + 1) → (digs m).length ≤ c + 1
  | 0, m, h => by rw [digs_last, if_pos (by simp at h; omega)]; simp
  | c + 1, m, h => by
    rw [digs_last]
    split
    · simp
    · rw [List.length_append]
      have := digs_len c (m / 10) (by rw [Nat.pow_succ] at h; omega)
      simp; omega
theorem read_dec (n : Int) (h : In n) : readV (dec n) = n ∧ readR (dec n) = n ∧ (dec n).length ≤ 20 := by
  obtain ⟨h1, h2⟩ := h
  have hl := digs_len 18 n.natAbs (by omega)
  obtain ⟨k, hk⟩ := head_digs n.natAbs
  unfold dec
  split
  · rename_i hn
    refine ⟨?_, ?_, by simp; omega⟩
    · unfold readV
      rw [if_pos (by simp)]
      simp only [List.tail_cons]
      rw [rd_digs, w64, w64]; omega
    · unfold readR
      rw [if_pos (by simp), List.take_of_length_le (by simp; omega)]
      simp only [List.tail_cons]
      rw [ru_digs, w64]; omega
  · rename_i hn
    have hne : ¬ (digs n.natAbs).head? = some 45 := by rw [hk]; simp; exact dig_ne k
    refine ⟨?_, ?_, by omega⟩
    · unfold readV
      rw [if_neg hne, rd_digs, w64]; omega
    · unfold readR
      rw [if_neg hne, List.take_of_length_le (by omega), ru_digs, w64]; omega
theorem in_readR (l : List UInt8) : In (readR l) := by
  unfold readR; split <;> exact in_wrap _
theorem get_same (l : List UInt8) : getV l = getR l := by
  unfold getV getR
  by_cases h : dec (readR l) = l
  · have hr := read_dec (readR l) (in_readR l)
    rw [h] at hr
    rw [if_pos h, if_neg (by omega), hr.1, h, if_pos rfl]
  · rw [if_neg h]
    split
    · rfl
    · split
      · rename_i hv
        have hr := read_dec (readV l) (in_readV l)
        rw [hv] at hr
        exact absurd (by rw [hr.2.1]; exact hv) h
      · rfl
theorem get_dec (n : Int) (h : In n) : getV (dec n) = (n, true) := by
  have hr := read_dec n h
  unfold getV
  rw [if_neg (by omega), hr.1, if_pos rfl]
theorem get_back (l : List UInt8) (h : (getV l).2 = true) : In (getV l).1 ∧ dec (getV l).1 = l := by
  unfold getV at h ⊢
  split at h
  · simp at h
  · split at h
    · rename_i h1 h2
      rw [if_neg h1, if_pos h2]; exact ⟨in_readV l, h2⟩
    · simp at h

end Go.Proofs.Ytfihnnfjkhcgkaa.NumM
