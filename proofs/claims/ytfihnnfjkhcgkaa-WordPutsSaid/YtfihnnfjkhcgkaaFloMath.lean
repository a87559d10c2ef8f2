/-
  Plain facts on floats by their bits: what is told as no number, what a sum, a product, a quotient and a comparison come to. No program is named here.
-/
import Derived.WalkKit
import Derived.WalkLawsBesides
import Derived.Test.YtfihnnfjkhcgkaaNumMath
namespace Go.Proofs.Ytfihnnfjkhcgkaa.FloM
open Go.RowKit NumM

/-- flo.Plain. -/
def plainV (n : Int) : Int := if 9218868437227405312 < n % 9223372036854775808 then 9221120237041090560 else n
/-- a number's bits. -/
def ub (n : Int) : Nat := (n % 18446744073709551616).toNat
/-- the float that stands for a number. -/
def fl (n : Int) : Nat := ub (plainV n)
/-- a result's bits, as a number; of what is no number, the one. -/
def fr : Option Nat → Int
  | some r => wrap64 r
  | none => 9221120237041090560
/-- the value part of Do. -/
def fdo (op a b : Int) : Int :=
  if op = 15 then fr (Ieee.double.add (fl a) (fl b)) else if op = 16 then fr (Ieee.double.sub (fl a) (fl b))
  else if op = 17 then fr (Ieee.double.mul (fl a) (fl b)) else if op = 18 then fr (Ieee.double.div (fl a) (fl b))
  else if op = 19 then tr (Ieee.double.order (fl a) (fl b) == some .eq) else if op = 20 then tr (Ieee.double.order (fl a) (fl b) == some .lt)
  else if op = 21 then tr (Ieee.double.order (fl a) (fl b) == some .lt || Ieee.double.order (fl a) (fl b) == some .eq)
  else 0
/-- the truth part of Do. -/
def fok (op : Int) : Bool := decide (15 ≤ op ∧ op ≤ 21)

theorem ub_lt (n : Int) : ub n < 18446744073709551616 := by unfold ub; omega
theorem ub_mod (n : Int) : ((ub n % 9223372036854775808 : Nat) : Int) = n % 9223372036854775808 := by unfold ub; omega
theorem ub_wrap (n : Int) : ub (wrap64 n) = ub n := by unfold ub; rw [w64]; omega
theorem ub_nat (r : Nat) (h : r < 18446744073709551616) : ub (r : Int) = r := by unfold ub; omega

theorem low63 (n : Int) : bits .and .i64 n 9223372036854775807 = n % 9223372036854775808 := by
  rw [bits_and_i64, wi64, BitVec.toNat_and, BitVec.toNat_ofInt, BitVec.toNat_ofInt]
  rw [show (9223372036854775807 % ((2 ^ 64 : Nat) : Int)).toNat = 2 ^ 63 - 1 from by decide, Nat.and_two_pow_sub_one_eq_mod, w64]
  omega

/-! ### the shape of a word -/
theorem bin_d : Ieee.double.binade = 4503599627370496 := by decide +kernel
theorem inf_d : Ieee.double.infRung = 9218868437227405312 := by decide +kernel
theorem sgw_d : Ieee.double.signWeight = 9223372036854775808 := by decide +kernel
theorem lp_d : Ieee.double.leastPlace = -1074 := by decide +kernel
theorem wid_d : Ieee.double.width = 64 := by decide +kernel
theorem two64 : 2 ^ Ieee.double.width = 18446744073709551616 := by decide +kernel
theorem fb_d : Ieee.double.fractionBits = 52 := rfl

/-- a word's sign. -/
def sg (b : Nat) : Bool := b / 9223372036854775808 % 2 == 1
/-- a rung's digits, and how far they stand to the left. -/
def mg (r : Nat) : Nat := if r < 4503599627370496 then r else 4503599627370496 + r % 4503599627370496
def pl (r : Nat) : Nat := if r < 4503599627370496 then 0 else r / 4503599627370496 - 1

theorem read_fin (b : Nat) (h : b % 9223372036854775808 < 9218868437227405312) :
    Ieee.double.read b = .number (sg b) (mg (b % 9223372036854775808)) (-1074 + (pl (b % 9223372036854775808) : Nat)) := by
  unfold Ieee.Format.read sg mg pl
  simp only [bin_d, inf_d, sgw_d, lp_d]
  by_cases h1 : b % 9223372036854775808 < 4503599627370496
  · simp only [if_pos h1]; simp
  · simp only [if_neg h1, if_pos h]
theorem read_inf (b : Nat) (h : b % 9223372036854775808 = 9218868437227405312) : Ieee.double.read b = .infinity (sg b) := by
  unfold Ieee.Format.read sg
  simp only [bin_d, inf_d, sgw_d]
  rw [if_neg (by omega), if_neg (by omega), if_pos h]
theorem read_nan (b : Nat) (h : 9218868437227405312 < b % 9223372036854775808) : ∃ t, Ieee.double.read b = .nan (sg b) t := by
  unfold Ieee.Format.read sg
  simp only [bin_d, inf_d, sgw_d]
  rw [if_neg (by omega), if_neg (by omega), if_neg (by omega)]
  exact ⟨_, rfl⟩

/-- a word that is no number. -/
def nn (b : Nat) : Prop := 9218868437227405312 < b % 9223372036854775808
instance (b : Nat) : Decidable (nn b) := by unfold nn; infer_instance

/-- a word that is one, by cases. -/
theorem read_num {b : Nat} (h : ¬ nn b) : Ieee.double.read b = .infinity (sg b) ∨ ∃ m p, Ieee.double.read b = .number (sg b) m p := by
  unfold nn at h
  by_cases h1 : b % 9223372036854775808 = 9218868437227405312
  · exact .inl (read_inf b h1)
  · exact .inr ⟨_, _, read_fin b (by omega)⟩

/-! ### results are no NaNs -/
theorem word_num (s : Bool) (r : Nat) (h : r ≤ 9218868437227405312) : ¬ nn (Ieee.double.word s r) ∧ Ieee.double.word s r < 18446744073709551616 := by
  unfold nn Ieee.Format.word
  rw [sgw_d]
  cases s <;> simp <;> omega
theorem near_num (s : Bool) (m : Nat) (p : Int) : ¬ nn (Ieee.double.nearest s m p) ∧ Ieee.double.nearest s m p < 18446744073709551616 := by
  unfold Ieee.Format.nearest
  dsimp only
  split
  · exact word_num _ _ (by omega)
  · exact word_num _ _ (by rw [inf_d]; omega)
theorem write_num {d : Ieee.Datum} (h : d.isNaN = false) : ¬ nn (Ieee.double.write d) ∧ Ieee.double.write d < 18446744073709551616 := by
  cases d with
  | number s m p => exact near_num s m p
  | infinity s => exact word_num _ _ (by rw [inf_d]; omega)
  | nan s t => cases h
theorem map_num {o : Option Ieee.Datum} (ho : ∀ d, o = some d → d.isNaN = false) {r : Nat} (h : o.map Ieee.double.write = some r) : ¬ nn r ∧ r < 18446744073709551616 := by
  cases o with
  | none => cases h
  | some d => cases h; exact write_num (ho d rfl)
theorem sum_num (x y : Ieee.Datum) : ∀ d, x.sum y = some d → d.isNaN = false := by
  intro d h
  cases x <;> cases y <;> simp only [Ieee.Datum.sum] at h
  all_goals first | (cases h; rfl) | (split at h <;> cases h; rfl) | cases h
theorem product_num (x y : Ieee.Datum) : ∀ d, x.product y = some d → d.isNaN = false := by
  intro d h
  cases x <;> cases y <;> simp only [Ieee.Datum.product] at h
  all_goals first | (cases h; rfl) | (split at h <;> cases h; rfl) | cases h
theorem quotient_num (k : Nat) (x y : Ieee.Datum) : ∀ d, Ieee.Datum.quotient k x y = some d → d.isNaN = false := by
  intro d h
  cases x <;> cases y <;> simp only [Ieee.Datum.quotient] at h
  all_goals first | (cases h; rfl) | (split at h <;> first | (cases h; rfl) | (split at h <;> first | (cases h; rfl) | cases h)) | cases h
theorem add_num {x y r : Nat} (h : Ieee.double.add x y = some r) : ¬ nn r ∧ r < 18446744073709551616 := map_num (sum_num _ _) h
theorem sub_num {x y r : Nat} (h : Ieee.double.sub x y = some r) : ¬ nn r ∧ r < 18446744073709551616 := map_num (sum_num _ _) h
theorem mul_num {x y r : Nat} (h : Ieee.double.mul x y = some r) : ¬ nn r ∧ r < 18446744073709551616 := map_num (product_num _ _) h
theorem div_num {x y r : Nat} (h : Ieee.double.div x y = some r) : ¬ nn r ∧ r < 18446744073709551616 := map_num (quotient_num _ _ _) h

theorem plain_nan {n : Int} (h : nn (ub n)) : plainV n = 9221120237041090560 := by
  unfold plainV; unfold nn at h
  have := ub_mod n
  rw [if_pos (by omega)]
theorem plain_num {n : Int} (h : ¬ nn (ub n)) : plainV n = n := by
  unfold plainV; unfold nn at h
  have := ub_mod n
  rw [if_neg (by omega)]
theorem plain_wrap {r : Nat} (h : ¬ nn r ∧ r < 18446744073709551616) : plainV (wrap64 (r : Int)) = wrap64 r := by
  apply plain_num
  rw [ub_wrap, ub_nat _ h.2]; exact h.1

/-- what is put in place of any result's bits. -/
theorem plain_fr (o : Option Nat) (ho : ∀ r, o = some r → ¬ nn r ∧ r < 18446744073709551616) : plainV (fr o) = fr o := by
  cases o with
  | none => rfl
  | some r => exact plain_wrap (ho r rfl)

/-- the bits that stand for no number, whichever they are. -/
theorem cut_nan (x y t : Nat) : nn (Question.cut (.nanBits .f64 x y) t) ∧ Question.cut (.nanBits .f64 x y) t < 18446744073709551616 := by
  show nn ((t % 2) * 2 ^ 63 + 0x7ff0000000000000 + 1 + (t / 2) % (2 ^ 52 - 1)) ∧ (t % 2) * 2 ^ 63 + 0x7ff0000000000000 + 1 + (t / 2) % (2 ^ 52 - 1) < _
  unfold nn
  have h1 : (t / 2) % (2 ^ 52 - 1) < 4503599627370495 := Nat.mod_lt _ (by decide)
  generalize (t / 2) % (2 ^ 52 - 1) = u at h1 ⊢
  have h2 : t % 2 = 0 ∨ t % 2 = 1 := by omega
  rcases h2 with h2 | h2 <;> rw [h2] <;> omega

/-! ### order -/
theorem order_nanl {x y : Nat} (h : nn x) : Ieee.double.order x y = none := by
  obtain ⟨t, ht⟩ := read_nan x h
  unfold Ieee.Format.order; rw [ht]; rfl
theorem order_nanr {x y : Nat} (h : nn y) : Ieee.double.order x y = none := by
  obtain ⟨t, ht⟩ := read_nan y h
  unfold Ieee.Format.order; rw [ht]
  cases Ieee.double.read x <;> rfl
theorem order_self {x : Nat} (h : ¬ nn x) : Ieee.double.order x x = some .eq := by
  unfold Ieee.Format.order
  rcases read_num h with e | ⟨m, p, e⟩ <;> rw [e] <;> simp [Ieee.Datum.order]
theorem order_swap (x y : Nat) : Ieee.double.order y x = (Ieee.double.order x y).map Ordering.swap := by
  unfold Ieee.Format.order
  cases Ieee.double.read x <;> cases Ieee.double.read y <;> simp only [Ieee.Datum.order, Option.map]
  · rw [Int.min_comm, Option.some_inj, Int.compare_swap]
  · split <;> rfl
  · split <;> rfl
  · rw [Option.some_inj, Nat.compare_swap]
theorem order_some {x y : Nat} (h : ¬ nn x) (h' : ¬ nn y) : ∃ c, Ieee.double.order x y = some c := by
  unfold Ieee.Format.order
  rcases read_num h with e | ⟨m, p, e⟩ <;> rcases read_num h' with e' | ⟨m', p', e'⟩ <;> rw [e, e'] <;> exact ⟨_, rfl⟩
theorem add_nanl {x y : Nat} (h : nn x) : Ieee.double.add x y = none := by
  obtain ⟨t, ht⟩ := read_nan x h
  unfold Ieee.Format.add; rw [ht]; rfl
theorem add_nanr {x y : Nat} (h : nn y) : Ieee.double.add x y = none := by
  obtain ⟨t, ht⟩ := read_nan y h
  unfold Ieee.Format.add; rw [ht]
  cases Ieee.double.read x <;> rfl
theorem sub_nanl {x y : Nat} (h : nn x) : Ieee.double.sub x y = none := by
  obtain ⟨t, ht⟩ := read_nan x h
  unfold Ieee.Format.sub; rw [ht]; rfl
theorem sub_nanr {x y : Nat} (h : nn y) : Ieee.double.sub x y = none := by
  obtain ⟨t, ht⟩ := read_nan y h
  unfold Ieee.Format.sub; rw [ht]
  cases Ieee.double.read x <;> rfl
theorem mul_nanl {x y : Nat} (h : nn x) : Ieee.double.mul x y = none := by
  obtain ⟨t, ht⟩ := read_nan x h
  unfold Ieee.Format.mul; rw [ht]; rfl
theorem mul_nanr {x y : Nat} (h : nn y) : Ieee.double.mul x y = none := by
  obtain ⟨t, ht⟩ := read_nan y h
  unfold Ieee.Format.mul; rw [ht]
  cases Ieee.double.read x <;> rfl
theorem div_nanl {x y : Nat} (h : nn x) : Ieee.double.div x y = none := by
  obtain ⟨t, ht⟩ := read_nan x h
  unfold Ieee.Format.div; rw [ht]; rfl
theorem div_nanr {x y : Nat} (h : nn y) : Ieee.double.div x y = none := by
  obtain ⟨t, ht⟩ := read_nan y h
  unfold Ieee.Format.div; rw [ht]
  cases Ieee.double.read x <;> rfl

end Go.Proofs.Ytfihnnfjkhcgkaa.FloM
