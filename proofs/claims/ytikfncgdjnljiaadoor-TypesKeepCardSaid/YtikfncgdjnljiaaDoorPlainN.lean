/-
  Plain facts on whole numbers of 64 bits: what num.Do and the document's Do come to, digits there and back. No program is named here.
  Plain facts on floats by their bits: what is told as no number, what a sum, a product, a quotient and a comparison come to. No program is named here.
  Plain facts on the text of a float: sixteen digits, there and back. No program is named here.
  Plain facts on the document's own Do: bit by bit over 64 places, quotients by sizes and signs, shifts step by step.
  Plain facts on names and arguments as words: what a name is, which argument is right, its word, and back. No program is named here.
  Layer 4's plain facts: what a text's lines are, byte by byte, and line by line. No program is named here.
  The text of lines: plain facts. No program is named here.
  What the laws of layer 4 say, plainly: numbers rise; words are clean; lines written are read again; blanks and remarks mean nothing; a text behind another one. No program is named here.
  Lines are small: how many words a line has, how many bytes a word; no program is named here.
-/
import Derived.WalkKit
import Derived.WalkLawsBesides
namespace Go.Proofs.YtikfncgdjnljiaaDoor.NumM
open Go.RowKit

def lo : Int := -9223372036854775808
def hi : Int := 9223372036854775807
def In (a : Int) : Prop := -9223372036854775808 ≤ a ∧ a ≤ 9223372036854775807
def In64 (a : Int) : Prop := 0 ≤ a ∧ a < 18446744073709551616

theorem w64 (n : Int) : wrap64 n = (n + 9223372036854775808) % 18446744073709551616 - 9223372036854775808 := by unfold wrap64; rfl
theorem wu64 (n : Int) : IntKind.u64.wrap n = n % 18446744073709551616 := by simp [IntKind.wrap, IntKind.bits, IntKind.signed]
theorem wi64 (n : Int) : IntKind.i64.wrap n = wrap64 n := by
  rw [w64]; simp [IntKind.wrap, IntKind.bits, IntKind.signed]; split <;> omega
theorem wrap_in {n : Int} (h : In n) : wrap64 n = n := by rw [w64]; unfold In at h; omega
theorem in_wrap (n : Int) : In (wrap64 n) := by rw [w64]; unfold In; omega
theorem in_of_wf {n : Int} (h : (Lit.int .i64 n).wf = true) : In n := by
  have h' : IntKind.i64.min ≤ n ∧ n ≤ IntKind.i64.max := by simpa [Lit.wf] using h
  have e1 : IntKind.i64.min = -9223372036854775808 := by decide
  have e2 : IntKind.i64.max = 9223372036854775807 := by decide
  rw [e1, e2] at h'; exact h'

/-- a truth. -/
def tr (b : Bool) : Int := if b then 1 else 0

/-- the value part of Do. -/
def doV (op a b : Int) : Int :=
  if op = 1 then wrap64 (a + b) else if op = 2 then wrap64 (a - b) else if op = 3 then wrap64 (a * b)
  else if op = 4 then (if b = 0 then 0 else wrap64 (a.tdiv b)) else if op = 5 then (if b = 0 then 0 else a.tmod b)
  else if op = 6 then bits .and .i64 a b else if op = 7 then bits .or .i64 a b else if op = 8 then bits .xor .i64 a b
  else if op = 9 then wrap64 (a * 2 ^ (b % 64).toNat) else if op = 10 then a / 2 ^ (b % 64).toNat
  else if op = 11 then tr (a == b) else if op = 12 then tr (a != b) else if op = 13 then tr (decide (a < b)) else if op = 14 then tr (decide (a ≤ b))
  else 0
/-- the truth part of Do. -/
def doK (op b : Int) : Bool := if op = 4 ∨ op = 5 then decide (b ≠ 0) else decide (1 ≤ op ∧ op ≤ 14)

theorem bits_and_u64 (a b : Int) : bits .and .u64 a b = IntKind.u64.wrap ((BitVec.ofInt 64 a &&& BitVec.ofInt 64 b).toNat : Int) := rfl
theorem bits_and_i64 (a b : Int) : bits .and .i64 a b = IntKind.i64.wrap ((BitVec.ofInt 64 a &&& BitVec.ofInt 64 b).toNat : Int) := rfl
theorem bits_or_i64 (a b : Int) : bits .or .i64 a b = IntKind.i64.wrap ((BitVec.ofInt 64 a ||| BitVec.ofInt 64 b).toNat : Int) := rfl
theorem bits_xor_i64 (a b : Int) : bits .xor .i64 a b = IntKind.i64.wrap ((BitVec.ofInt 64 a ^^^ BitVec.ofInt 64 b).toNat : Int) := rfl

theorem low_six (b : Int) : bits .and .u64 (IntKind.u64.wrap b) 63 = b % 64 := by
  rw [bits_and_u64, wu64, wu64, BitVec.toNat_and, BitVec.toNat_ofInt, BitVec.toNat_ofInt]
  rw [show (63 % ((2 ^ 64 : Nat) : Int)).toNat = 2 ^ 6 - 1 from by decide, Nat.and_two_pow_sub_one_eq_mod]
  omega


/-- the byte of a digit. -/
def dig (r : Nat) : UInt8 := UInt8.ofNat (48 + r % 10)
/-- a number's digits, the first one ahead of what stands behind them. -/
def digsF : Nat → Nat → List UInt8 → List UInt8
  | 0, _, l => l
  | f + 1, r, l => if r / 10 = 0 then dig r :: l else digsF f (r / 10) (dig r :: l)
def digs (r : Nat) : List UInt8 := digsF (r + 1) r []
/-- r's digits ahead of l are m's. -/
def Digs (m r : Nat) (l : List UInt8) : Prop := digs m = digs r ++ l

theorem digsF_app : ∀ (f r : Nat) (l : List UInt8), digsF f r l = digsF f r [] ++ l
  | 0, _, _ => by simp [digsF]
  | f + 1, r, l => by
    simp only [digsF]
    split
    · simp
    · rw [digsF_app f (r / 10) (dig r :: l), digsF_app f (r / 10) [dig r]]; simp
theorem digsF_fuel : ∀ (f g r : Nat), r < f → r < g → digsF f r [] = digsF g r []
  | 0, _, _, h, _ => by omega
  | _ + 1, 0, _, _, h => by omega
  | f + 1, g + 1, r, h, h' => by
    simp only [digsF]
    split
    · rfl
    · rw [digsF_app f, digsF_app g, digsF_fuel f g (r / 10) (by omega) (by omega)]
theorem digs_last (r : Nat) : digs r = if r / 10 = 0 then [dig r] else digs (r / 10) ++ [dig r] := by
  unfold digs
  rw [show r + 1 = r + 1 from rfl, digsF]
  split
  · rfl
  · rw [digsF_app r, digsF_fuel r (r / 10 + 1) (r / 10) (by omega) (by omega)]

theorem dig_val (r : Nat) : ((dig r).toNat : Int) = 48 + (r : Int) % 10 := by
  have : (dig r).toNat = 48 + r % 10 := by
    unfold dig
    rw [UInt8.toNat_ofNat']
    omega
  omega
/-- the text of a number. -/
def dec (n : Int) : List UInt8 := if n < 0 then 45 :: digs n.natAbs else digs n.natAbs
theorem Digs.start (m : Nat) : Digs m m [] := by unfold Digs; simp
theorem Digs.more {m r : Nat} {l : List UInt8} (h : Digs m r l) (hr : ¬ r / 10 = 0) : Digs m (r / 10) (dig r :: l) := by
  unfold Digs at h ⊢; rw [h, digs_last r, if_neg hr]; simp
theorem Digs.last {m r : Nat} {l : List UInt8} (h : Digs m r l) (hr : r / 10 = 0) : digs m = dig r :: l := by
  unfold Digs at h; rw [h, digs_last r, if_pos hr]; simp

/-- one step of num.read, and of all steps. -/
def rdStep (n : Int) (c : UInt8) : Int := wrap64 (wrap64 (n * 10) + ((c.toNat : Int) - 48) % 256)
def rd (l : List UInt8) : Int := l.foldl rdStep 0
def readV (l : List UInt8) : Int := if l.head? = some 45 then wrap64 (-rd l.tail) else rd l
/-- num.Get. -/
def getV (l : List UInt8) : Int × Bool := if 20 < l.length then (0, false) else if dec (readV l) = l then (readV l, true) else (0, false)

theorem rd_snoc (l : List UInt8) (c : UInt8) : rd (l ++ [c]) = rdStep (rd l) c := by simp [rd]
theorem in_rd (l : List UInt8) : In (rd l) := by
  unfold rd
  suffices h : ∀ (l : List UInt8) (a : Int), In a → In (l.foldl rdStep a) from h l 0 (by unfold In; omega)
  intro l
  induction l with
  | nil => intro a h; exact h
  | cons c l ih => intro a _; exact ih _ (in_wrap _)
theorem in_readV (l : List UInt8) : In (readV l) := by
  unfold readV; split
  · exact in_wrap _
  · exact in_rd l
/-! ### going round -/
theorem wrap_off (x : Int) : ∃ k, wrap64 x = x + 18446744073709551616 * k := ⟨-((x + 9223372036854775808) / 18446744073709551616), by rw [w64]; omega⟩
theorem wrap_add (x k : Int) : wrap64 (x + 18446744073709551616 * k) = wrap64 x := by rw [w64, w64]; omega
theorem wrap_addl (x y : Int) : wrap64 (wrap64 x + y) = wrap64 (x + y) := by rw [w64, w64, w64]; omega
theorem wrap_addr (x y : Int) : wrap64 (x + wrap64 y) = wrap64 (x + y) := by rw [w64, w64, w64]; omega
theorem wrap_subl (x y : Int) : wrap64 (wrap64 x - y) = wrap64 (x - y) := by rw [w64, w64, w64]; omega
theorem wrap_subr (x y : Int) : wrap64 (x - wrap64 y) = wrap64 (x - y) := by rw [w64, w64, w64]; omega
theorem wrap_mull (x y : Int) : wrap64 (wrap64 x * y) = wrap64 (x * y) := by
  obtain ⟨k, hk⟩ := wrap_off x
  rw [hk, Int.add_mul, Int.mul_assoc, wrap_add]
theorem wrap_mulr (x y : Int) : wrap64 (x * wrap64 y) = wrap64 (x * y) := by rw [Int.mul_comm, wrap_mull, Int.mul_comm]

theorem v1 (a b : Int) : doV 1 a b = wrap64 (a + b) := rfl
theorem v2 (a b : Int) : doV 2 a b = wrap64 (a - b) := rfl
theorem v3 (a b : Int) : doV 3 a b = wrap64 (a * b) := rfl
theorem v6 (a b : Int) : doV 6 a b = bits .and .i64 a b := rfl
theorem v7 (a b : Int) : doV 7 a b = bits .or .i64 a b := rfl
theorem v8 (a b : Int) : doV 8 a b = bits .xor .i64 a b := rfl
theorem v9 (a b : Int) : doV 9 a b = wrap64 (a * 2 ^ (b % 64).toNat) := rfl
theorem v10 (a b : Int) : doV 10 a b = a / 2 ^ (b % 64).toNat := rfl

end Go.Proofs.YtikfncgdjnljiaaDoor.NumM

namespace Go.Proofs.YtikfncgdjnljiaaDoor.FloM
open Go.RowKit NumM

/-- flo.Plain. -/
def plainV (n : Int) : Int := if 9218868437227405312 < n % 9223372036854775808 then 9221120237041090560 else n
/-- a number's bits. -/
def ub (n : Int) : Nat := (n % 18446744073709551616).toNat
/-- the float that stands for a number. -/
def fl (n : Int) : Nat := ub (plainV n)
/-- a result's bits, as a number; of what is no number, the one. -/
def fr : Option Nat → Int
  | some r => wrap64 r
  | none => 9221120237041090560
/-- the value part of Do. -/
def fdo (op a b : Int) : Int :=
  if op = 15 then fr (Ieee.double.add (fl a) (fl b)) else if op = 16 then fr (Ieee.double.sub (fl a) (fl b))
  else if op = 17 then fr (Ieee.double.mul (fl a) (fl b)) else if op = 18 then fr (Ieee.double.div (fl a) (fl b))
  else if op = 19 then tr (Ieee.double.order (fl a) (fl b) == some .eq) else if op = 20 then tr (Ieee.double.order (fl a) (fl b) == some .lt)
  else if op = 21 then tr (Ieee.double.order (fl a) (fl b) == some .lt || Ieee.double.order (fl a) (fl b) == some .eq)
  else 0
/-- the truth part of Do. -/
def fok (op : Int) : Bool := decide (15 ≤ op ∧ op ≤ 21)

theorem ub_lt (n : Int) : ub n < 18446744073709551616 := by unfold ub; omega
theorem ub_mod (n : Int) : ((ub n % 9223372036854775808 : Nat) : Int) = n % 9223372036854775808 := by unfold ub; omega
theorem ub_wrap (n : Int) : ub (wrap64 n) = ub n := by unfold ub; rw [w64]; omega
theorem ub_nat (r : Nat) (h : r < 18446744073709551616) : ub (r : Int) = r := by unfold ub; omega

theorem low63 (n : Int) : bits .and .i64 n 9223372036854775807 = n % 9223372036854775808 := by
  rw [bits_and_i64, wi64, BitVec.toNat_and, BitVec.toNat_ofInt, BitVec.toNat_ofInt]
  rw [show (9223372036854775807 % ((2 ^ 64 : Nat) : Int)).toNat = 2 ^ 63 - 1 from by decide, Nat.and_two_pow_sub_one_eq_mod, w64]
  omega

/-! ### the shape of a word -/
theorem bin_d : Ieee.double.binade = 4503599627370496 := by decide +kernel
theorem inf_d : Ieee.double.infRung = 9218868437227405312 := by decide +kernel
theorem sgw_d : Ieee.double.signWeight = 9223372036854775808 := by decide +kernel
theorem lp_d : Ieee.double.leastPlace = -1074 := by decide +kernel
theorem wid_d : Ieee.double.width = 64 := by decide +kernel
theorem two64 : 2 ^ Ieee.double.width = 18446744073709551616 := by decide +kernel
theorem fb_d : Ieee.double.fractionBits = 52 := rfl

/-- a word's sign. -/
def sg (b : Nat) : Bool := b / 9223372036854775808 % 2 == 1
/-- a rung's digits, and how far they stand to the left. -/
def mg (r : Nat) : Nat := if r < 4503599627370496 then r else 4503599627370496 + r % 4503599627370496
def pl (r : Nat) : Nat := if r < 4503599627370496 then 0 else r / 4503599627370496 - 1

theorem read_fin (b : Nat) (h : b % 9223372036854775808 < 9218868437227405312) :
    Ieee.double.read b = .number (sg b) (mg (b % 9223372036854775808)) (-1074 + (pl (b % 9223372036854775808) : Nat)) := by
  unfold Ieee.Format.read sg mg pl
  simp only [bin_d, inf_d, sgw_d, lp_d]
  by_cases h1 : b % 9223372036854775808 < 4503599627370496
  · simp only [if_pos h1]; simp
  · simp only [if_neg h1, if_pos h]
theorem read_inf (b : Nat) (h : b % 9223372036854775808 = 9218868437227405312) : Ieee.double.read b = .infinity (sg b) := by
  unfold Ieee.Format.read sg
  simp only [bin_d, inf_d, sgw_d]
  rw [if_neg (by omega), if_neg (by omega), if_pos h]
theorem read_nan (b : Nat) (h : 9218868437227405312 < b % 9223372036854775808) : ∃ t, Ieee.double.read b = .nan (sg b) t := by
  unfold Ieee.Format.read sg
  simp only [bin_d, inf_d, sgw_d]
  rw [if_neg (by omega), if_neg (by omega), if_neg (by omega)]
  exact ⟨_, rfl⟩

/-- a word that is no number. -/
def nn (b : Nat) : Prop := 9218868437227405312 < b % 9223372036854775808
instance (b : Nat) : Decidable (nn b) := by unfold nn; infer_instance

/-- a word that is one, by cases. -/
theorem read_num {b : Nat} (h : ¬ nn b) : Ieee.double.read b = .infinity (sg b) ∨ ∃ m p, Ieee.double.read b = .number (sg b) m p := by
  unfold nn at h
  by_cases h1 : b % 9223372036854775808 = 9218868437227405312
  · exact .inl (read_inf b h1)
  · exact .inr ⟨_, _, read_fin b (by omega)⟩

/-! ### results are no NaNs -/
theorem word_num (s : Bool) (r : Nat) (h : r ≤ 9218868437227405312) : ¬ nn (Ieee.double.word s r) ∧ Ieee.double.word s r < 18446744073709551616 := by
  unfold nn Ieee.Format.word
  rw [sgw_d]
  cases s <;> simp <;> omega
theorem near_num (s : Bool) (m : Nat) (p : Int) : ¬ nn (Ieee.double.nearest s m p) ∧ Ieee.double.nearest s m p < 18446744073709551616 := by
  unfold Ieee.Format.nearest
  dsimp only
  split
  · exact word_num _ _ (by omega)
  · exact word_num _ _ (by rw [inf_d]; omega)
theorem write_num {d : Ieee.Datum} (h : d.isNaN = false) : ¬ nn (Ieee.double.write d) ∧ Ieee.double.write d < 18446744073709551616 := by
  cases d with
  | number s m p => exact near_num s m p
  | infinity s => exact word_num _ _ (by rw [inf_d]; omega)
  | nan s t => cases h
theorem map_num {o : Option Ieee.Datum} (ho : ∀ d, o = some d → d.isNaN = false) {r : Nat} (h : o.map Ieee.double.write = some r) : ¬ nn r ∧ r < 18446744073709551616 := by
  cases o with
  | none => cases h
  | some d => cases h; exact write_num (ho d rfl)
theorem sum_num (x y : Ieee.Datum) : ∀ d, x.sum y = some d → d.isNaN = false := by
  intro d h
  cases x <;> cases y <;> simp only [Ieee.Datum.sum] at h
  all_goals first | (cases h; rfl) | (split at h <;> cases h; rfl) | cases h
theorem product_num (x y : Ieee.Datum) : ∀ d, x.product y = some d → d.isNaN = false := by
  intro d h
  cases x <;> cases y <;> simp only [Ieee.Datum.product] at h
  all_goals first | (cases h; rfl) | (split at h <;> cases h; rfl) | cases h
theorem quotient_num (k : Nat) (x y : Ieee.Datum) : ∀ d, Ieee.Datum.quotient k x y = some d → d.isNaN = false := by
  intro d h
  cases x <;> cases y <;> simp only [Ieee.Datum.quotient] at h
  all_goals first | (cases h; rfl) | (split at h <;> first | (cases h; rfl) | (split at h <;> first | (cases h; rfl) | cases h)) | cases h
theorem add_num {x y r : Nat} (h : Ieee.double.add x y = some r) : ¬ nn r ∧ r < 18446744073709551616 := map_num (sum_num _ _) h
theorem sub_num {x y r : Nat} (h : Ieee.double.sub x y = some r) : ¬ nn r ∧ r < 18446744073709551616 := map_num (sum_num _ _) h
theorem mul_num {x y r : Nat} (h : Ieee.double.mul x y = some r) : ¬ nn r ∧ r < 18446744073709551616 := map_num (product_num _ _) h
theorem div_num {x y r : Nat} (h : Ieee.double.div x y = some r) : ¬ nn r ∧ r < 18446744073709551616 := map_num (quotient_num _ _ _) h

theorem plain_nan {n : Int} (h : nn (ub n)) : plainV n = 9221120237041090560 := by
  unfold plainV; unfold nn at h
  have := ub_mod n
  rw [if_pos (by omega)]
theorem plain_num {n : Int} (h : ¬ nn (ub n)) : plainV n = n := by
  unfold plainV; unfold nn at h
  have := ub_mod n
  rw [if_neg (by omega)]
theorem plain_wrap {r : Nat} (h : ¬ nn r ∧ r < 18446744073709551616) : plainV (wrap64 (r : Int)) = wrap64 r := by
  apply plain_num
  rw [ub_wrap, ub_nat _ h.2]; exact h.1

/-- what is put in place of any result's bits. -/
theorem plain_fr (o : Option Nat) (ho : ∀ r, o = some r → ¬ nn r ∧ r < 18446744073709551616) : plainV (fr o) = fr o := by
  cases o with
  | none => rfl
  | some r => exact plain_wrap (ho r rfl)

/-- the bits that stand for no number, whichever they are. -/
theorem cut_nan (x y t : Nat) : nn (Question.cut (.nanBits .f64 x y) t) ∧ Question.cut (.nanBits .f64 x y) t < 18446744073709551616 := by
  show nn ((t % 2) * 2 ^ 63 + 0x7ff0000000000000 + 1 + (t / 2) % (2 ^ 52 - 1)) ∧ (t % 2) * 2 ^ 63 + 0x7ff0000000000000 + 1 + (t / 2) % (2 ^ 52 - 1) < _
  unfold nn
  have h1 : (t / 2) % (2 ^ 52 - 1) < 4503599627370495 := Nat.mod_lt _ (by decide)
  generalize (t / 2) % (2 ^ 52 - 1) = u at h1 ⊢
  have h2 : t % 2 = 0 ∨ t % 2 = 1 := by omega
  rcases h2 with h2 | h2 <;> rw [h2] <;> omega

/-! ### order -/
theorem order_nanl {x y : Nat} (h : nn x) : Ieee.double.order x y = none := by
  obtain ⟨t, ht⟩ := read_nan x h
  unfold Ieee.Format.order; rw [ht]; rfl
theorem order_nanr {x y : Nat} (h : nn y) : Ieee.double.order x y = none := by
  obtain ⟨t, ht⟩ := read_nan y h
  unfold Ieee.Format.order; rw [ht]
  cases Ieee.double.read x <;> rfl
theorem order_self {x : Nat} (h : ¬ nn x) : Ieee.double.order x x = some .eq := by
  unfold Ieee.Format.order
  rcases read_num h with e | ⟨m, p, e⟩ <;> rw [e] <;> simp [Ieee.Datum.order]
theorem order_swap (x y : Nat) : Ieee.double.order y x = (Ieee.double.order x y).map Ordering.swap := by
  unfold Ieee.Format.order
  cases Ieee.double.read x <;> cases Ieee.double.read y <;> simp only [Ieee.Datum.order, Option.map]
  · rw [Int.min_comm, Option.some_inj, Int.compare_swap]
  · split <;> rfl
  · split <;> rfl
  · rw [Option.some_inj, Nat.compare_swap]
theorem order_some {x y : Nat} (h : ¬ nn x) (h' : ¬ nn y) : ∃ c, Ieee.double.order x y = some c := by
  unfold Ieee.Format.order
  rcases read_num h with e | ⟨m, p, e⟩ <;> rcases read_num h' with e' | ⟨m', p', e'⟩ <;> rw [e, e'] <;> exact ⟨_, rfl⟩
theorem add_nanl {x y : Nat} (h : nn x) : Ieee.double.add x y = none := by
  obtain ⟨t, ht⟩ := read_nan x h
  unfold Ieee.Format.add; rw [ht]; rfl
theorem add_nanr {x y : Nat} (h : nn y) : Ieee.double.add x y = none := by
  obtain ⟨t, ht⟩ := read_nan y h
  unfold Ieee.Format.add; rw [ht]
  cases Ieee.double.read x <;> rfl
theorem sub_nanl {x y : Nat} (h : nn x) : Ieee.double.sub x y = none := by
  obtain ⟨t, ht⟩ := read_nan x h
  unfold Ieee.Format.sub; rw [ht]; rfl
theorem sub_nanr {x y : Nat} (h : nn y) : Ieee.double.sub x y = none := by
  obtain ⟨t, ht⟩ := read_nan y h
  unfold Ieee.Format.sub; rw [ht]
  cases Ieee.double.read x <;> rfl
theorem mul_nanl {x y : Nat} (h : nn x) : Ieee.double.mul x y = none := by
  obtain ⟨t, ht⟩ := read_nan x h
  unfold Ieee.Format.mul; rw [ht]; rfl
theorem mul_nanr {x y : Nat} (h : nn y) : Ieee.double.mul x y = none := by
  obtain ⟨t, ht⟩ := read_nan y h
  unfold Ieee.Format.mul; rw [ht]
  cases Ieee.double.read x <;> rfl
theorem div_nanl {x y : Nat} (h : nn x) : Ieee.double.div x y = none := by
  obtain ⟨t, ht⟩ := read_nan x h
  unfold Ieee.Format.div; rw [ht]; rfl
theorem div_nanr {x y : Nat} (h : nn y) : Ieee.double.div x y = none := by
  obtain ⟨t, ht⟩ := read_nan y h
  unfold Ieee.Format.div; rw [ht]
  cases Ieee.double.read x <;> rfl

end Go.Proofs.YtikfncgdjnljiaaDoor.FloM

namespace Go.Proofs.YtikfncgdjnljiaaDoor.FloM
open Go.RowKit NumM

/-- the byte of a digit. -/
def hx (r : Nat) : UInt8 := if r % 16 < 10 then UInt8.ofNat (48 + r % 16) else UInt8.ofNat (87 + r % 16)
theorem hx_val (r : Nat) : ((hx r).toNat : Int) = if r % 16 < 10 then 48 + (r : Int) % 16 else 87 + (r : Int) % 16 := by
  unfold hx
  split <;> rw [UInt8.toNat_ofNat'] <;> omega
/-- the last k digits of a number. -/
def hexs : Nat → Nat → List UInt8
  | 0, _ => []
  | k + 1, u => hexs k (u / 16) ++ [hx u]
theorem hexs_len : ∀ (k u : Nat), (hexs k u).length = k
  | 0, _ => rfl
  | k + 1, u => by simp [hexs, hexs_len k]
/-- r's last k digits ahead of l are m's. -/
def Hexs (m k r : Nat) (l : List UInt8) : Prop := hexs 16 m = hexs k r ++ l
theorem Hexs.start (m : Nat) : Hexs m 16 m [] := by unfold Hexs; simp
theorem Hexs.more {m k r : Nat} {l : List UInt8} (h : Hexs m (k + 1) r l) : Hexs m k (r / 16) (hx r :: l) := by
  unfold Hexs at h ⊢; rw [h]; simp [hexs]
theorem Hexs.last {m r : Nat} {l : List UInt8} (h : Hexs m 0 r l) : hexs 16 m = l := by
  unfold Hexs at h; rw [h]; simp [hexs]

/-- a float's text. -/
def putV (n : Int) : List UInt8 := [48, 102] ++ hexs 16 (fl n)

/-- flo.digit; one step of flo.read, and of all steps. -/
def dgV (c : UInt8) : Int := if 97 ≤ (c.toNat : Int) then (c.toNat : Int) - 87 else ((c.toNat : Int) - 48) % 256
def fstep (n : Int) (c : UInt8) : Int := bits .or .i64 (wrap64 (n * 16)) (dgV c)
def frd (l : List UInt8) : Int := l.foldl fstep 0
/-- flo.Get. -/
def fgetV (l : List UInt8) : Int × Bool := if l.length = 18 then (if putV (frd (l.drop 2)) = l then (frd (l.drop 2), true) else (0, false)) else (0, false)
theorem frd_snoc (l : List UInt8) (c : UInt8) : frd (l ++ [c]) = fstep (frd l) c := by simp [frd]
theorem in_frd (l : List UInt8) : In (frd l) := by
  unfold frd
  suffices h : ∀ (l : List UInt8) (a : Int), In a → In (l.foldl fstep a) from h l 0 (by unfold In; omega)
  intro l
  induction l with
  | nil => intro a h; exact h
  | cons c l ih => intro a _; exact ih _ (by unfold fstep; rw [bits_or_i64, wi64]; exact in_wrap _)

/-- one step of the document's reading. -/
def rstep (u : Int) (c : UInt8) : Int := (u * 16 + (if 97 ≤ (c.toNat : Int) then (c.toNat : Int) - 87 else ((c.toNat : Int) - 48) % 18446744073709551616) % 16) % 18446744073709551616
def rrd (l : List UInt8) : Int := l.foldl rstep 0
def rgetV (l : List UInt8) : Int × Bool := if l.length = 18 then (if putV (wrap64 (rrd (l.drop 2))) = l then (wrap64 (rrd (l.drop 2)), true) else (0, false)) else (0, false)
theorem rrd_snoc (l : List UInt8) (c : UInt8) : rrd (l ++ [c]) = rstep (rrd l) c := by simp [rrd]

theorem or_low (n d : Int) (h0 : 0 ≤ d) (h1 : d < 16) : bits .or .i64 (wrap64 (n * 16)) d = wrap64 (n * 16 + d) := by
  rw [bits_or_i64, wi64]
  have e : BitVec.ofInt 64 (wrap64 (n * 16)) &&& BitVec.ofInt 64 d = 0#64 := by
    apply BitVec.eq_of_toNat_eq
    rw [BitVec.toNat_and, BitVec.toNat_ofInt, BitVec.toNat_ofInt]
    obtain ⟨k, rfl⟩ := Int.eq_ofNat_of_zero_le h0
    have hk : k < 2 ^ 4 := by omega
    rw [show (((k : Int) % ((2 ^ 64 : Nat) : Int))).toNat = k from by omega]
    obtain ⟨q, hq⟩ : ∃ q : Nat, (wrap64 (n * 16) % ((2 ^ 64 : Nat) : Int)).toNat = 2 ^ 4 * q := ⟨(wrap64 (n * 16) % ((2 ^ 64 : Nat) : Int)).toNat / 16, by rw [w64]; omega⟩
    rw [hq]
    show _ = 0
    apply Nat.eq_of_testBit_eq
    intro i
    rw [Nat.testBit_and, Nat.zero_testBit]
    by_cases hi : i < 4
    · rw [Nat.testBit_two_pow_mul]; simp; omega
    · have : k.testBit i = false := Nat.testBit_lt_two_pow (Nat.lt_of_lt_of_le hk (Nat.pow_le_pow_right (by decide) (by omega)))
      rw [this]; simp
  rw [← BitVec.add_eq_or_of_and_eq_zero _ _ e, BitVec.toNat_add, BitVec.toNat_ofInt, BitVec.toNat_ofInt, w64, w64, w64]
  omega

theorem dg_hx (r : Nat) : dgV (hx r) = (r : Int) % 16 := by
  unfold dgV; rw [hx_val]
  split <;> split <;> omega
theorem frd_hexs : ∀ (k u : Nat), frd (hexs k u) = wrap64 ((u % 16 ^ k : Nat) : Int)
  | 0, u => by simp [hexs, frd, Nat.mod_one]; rw [w64]; rfl
  | k + 1, u => by
    rw [hexs, frd_snoc, frd_hexs k, fstep, dg_hx, or_low _ _ (by omega) (by omega)]
    have e : u % 16 ^ (k + 1) = u / 16 % 16 ^ k * 16 + u % 16 := by
      rw [Nat.pow_succ, Nat.mul_comm (16 ^ k) 16, Nat.mod_mul]; omega
    rw [e]
    obtain ⟨q, hq⟩ := wrap_off ((u / 16 % 16 ^ k : Nat) : Int)
    rw [hq, w64, w64]
    omega
theorem rrd_hexs : ∀ (k u : Nat), u % 16 ^ k < 18446744073709551616 → rrd (hexs k u) = ((u % 16 ^ k : Nat) : Int)
  | 0, u, _ => by simp [hexs, rrd, Nat.mod_one]
  | k + 1, u, h => by
    have e : u % 16 ^ (k + 1) = u / 16 % 16 ^ k * 16 + u % 16 := by
      rw [Nat.pow_succ, Nat.mul_comm (16 ^ k) 16, Nat.mod_mul]; omega
    rw [e] at h ⊢
    rw [hexs, rrd_snoc, rrd_hexs k _ (by omega), rstep, hx_val]
    split <;> split <;> omega

theorem fl_wrap (n : Int) (h : In n) : wrap64 (fl n : Int) = plainV n := by
  have hp : In (plainV n) := by
    unfold plainV; split
    · unfold In; omega
    · exact h
  unfold fl ub
  obtain ⟨h1, h2⟩ := hp
  rw [w64]; omega
theorem fl_lt (n : Int) : fl n < 18446744073709551616 := ub_lt _
theorem plain_plain (n : Int) : plainV (plainV n) = plainV n := by
  by_cases h : 9218868437227405312 < n % 9223372036854775808
  · have : plainV n = 9221120237041090560 := by unfold plainV; rw [if_pos h]
    rw [this]; rfl
  · have : plainV n = n := by unfold plainV; rw [if_neg h]
    rw [this, this]
theorem fl_plain (n : Int) : fl (plainV n) = fl n := by unfold fl; rw [plain_plain]
theorem put_plain (n : Int) : putV (plainV n) = putV n := by unfold putV; rw [fl_plain]
theorem put_len (n : Int) : (putV n).length = 18 := by unfold putV; simp [hexs_len]
theorem put_drop (n : Int) : (putV n).drop 2 = hexs 16 (fl n) := by unfold putV; rfl
theorem frd_put (n : Int) (h : In n) : frd ((putV n).drop 2) = plainV n := by
  rw [put_drop, frd_hexs, ← fl_wrap n h, Nat.mod_eq_of_lt (fl_lt n)]
theorem rrd_put (n : Int) (h : In n) : wrap64 (rrd ((putV n).drop 2)) = plainV n := by
  have := fl_lt n
  rw [put_drop, rrd_hexs _ _ (by omega), ← fl_wrap n h, Nat.mod_eq_of_lt (fl_lt n)]
/-- there and back. -/
theorem get_put (n : Int) (h : In n) : fgetV (putV n) = (plainV n, true) := by
  unfold fgetV
  rw [if_pos (put_len n), frd_put n h, put_plain, if_pos rfl]
/-- what is read is the document's. -/
theorem get_same (l : List UInt8) : fgetV l = rgetV l := by
  unfold fgetV rgetV
  by_cases h : l.length = 18
  · rw [if_pos h, if_pos h]
    by_cases h1 : putV (frd (l.drop 2)) = l
    · rw [if_pos h1]
      have e : frd (l.drop 2) = plainV (frd (l.drop 2)) := by
        have := frd_put (frd (l.drop 2)) (in_frd _)
        rw [h1] at this; exact this
      have e2 : wrap64 (rrd (l.drop 2)) = frd (l.drop 2) := by
        have := rrd_put (frd (l.drop 2)) (in_frd _)
        rw [h1, ← e] at this; exact this
      rw [e2, if_pos h1]
    · rw [if_neg h1]
      by_cases h2 : putV (wrap64 (rrd (l.drop 2))) = l
      · exfalso
        have e := frd_put (wrap64 (rrd (l.drop 2))) (in_wrap _)
        rw [h2] at e
        exact h1 (by rw [e, put_plain]; exact h2)
      · rw [if_neg h2]
  · rw [if_neg h, if_neg h]
theorem get_back {l : List UInt8} (h : (fgetV l).2 = true) : putV (fgetV l).1 = l := by
  unfold fgetV at h ⊢
  by_cases h0 : l.length = 18
  · rw [if_pos h0] at h ⊢
    by_cases h1 : putV (frd (l.drop 2)) = l
    · rw [if_pos h1]; exact h1
    · rw [if_neg h1] at h; cases h
  · rw [if_neg h0] at h; cases h

end Go.Proofs.YtikfncgdjnljiaaDoor.FloM

namespace Go.Proofs.YtikfncgdjnljiaaDoor.NumM
open Go.RowKit

/-- what k places make, each by a table of four. -/
def G (t : Nat → Nat) : Nat → Nat → Nat → Nat
  | 0, _, _ => 0
  | k + 1, X, Y => G t k X Y + 2 ^ k * t (2 * (X / 2 ^ k % 2) + Y / 2 ^ k % 2)

theorem G_lt (t : Nat → Nat) (ht : ∀ i, t i ≤ 1) (X Y : Nat) : ∀ k, G t k X Y < 2 ^ k
  | 0 => by simp [G]
  | k + 1 => by
    have h := G_lt t ht X Y k
    have h1 := ht (2 * (X / 2 ^ k % 2) + Y / 2 ^ k % 2)
    have h2 : 2 ^ k * t (2 * (X / 2 ^ k % 2) + Y / 2 ^ k % 2) ≤ 2 ^ k * 1 := Nat.mul_le_mul_left _ h1
    rw [G, Nat.pow_succ]
    omega

def tAnd (i : Nat) : Nat := if i = 3 then 1 else 0
def tOr (i : Nat) : Nat := if i = 0 then 0 else if i ≤ 3 then 1 else 0
def tXor (i : Nat) : Nat := if i = 1 ∨ i = 2 then 1 else 0

theorem bit_val (Z k : Nat) : Z / 2 ^ k % 2 = (Z.testBit k).toNat := (Nat.toNat_testBit Z k).symm

theorem G_of (t : Nat → Nat) (X Y Z : Nat) (h : ∀ k, Z / 2 ^ k % 2 = t (2 * (X / 2 ^ k % 2) + Y / 2 ^ k % 2)) : ∀ k, G t k X Y = Z % 2 ^ k
  | 0 => by simp [G, Nat.mod_one]
  | k + 1 => by rw [G, G_of t X Y Z h k, Nat.mod_pow_succ, h k]

theorem G_and (X Y k : Nat) : G tAnd k X Y = (X &&& Y) % 2 ^ k := G_of _ _ _ _ (fun k => by
  rw [bit_val, bit_val, bit_val, Nat.testBit_and]
  cases X.testBit k <;> cases Y.testBit k <;> rfl) k
theorem G_or (X Y k : Nat) : G tOr k X Y = (X ||| Y) % 2 ^ k := G_of _ _ _ _ (fun k => by
  rw [bit_val, bit_val, bit_val, Nat.testBit_or]
  cases X.testBit k <;> cases Y.testBit k <;> rfl) k
theorem G_xor (X Y k : Nat) : G tXor k X Y = (X ^^^ Y) % 2 ^ k := G_of _ _ _ _ (fun k => by
  rw [bit_val, bit_val, bit_val, Nat.testBit_xor]
  cases X.testBit k <;> cases Y.testBit k <;> rfl) k

/-- a number of 64 bits, without its sign. -/
def U (a : Int) : Nat := (a % 18446744073709551616).toNat
theorem U_lt (a : Int) : U a < 18446744073709551616 := by unfold U; omega
theorem U_val (a : Int) : (U a : Int) = IntKind.u64.wrap a := by rw [wu64]; unfold U; omega
theorem U_bv (a : Int) : (BitVec.ofInt 64 a).toNat = U a := by rw [BitVec.toNat_ofInt]; rfl

theorem and_G (a b : Int) : wrap64 (G tAnd 64 (U a) (U b) : Int) = bits .and .i64 a b := by
  rw [bits_and_i64, wi64, G_and, BitVec.toNat_and, U_bv, U_bv, Nat.mod_eq_of_lt]
  exact Nat.and_lt_two_pow _ (U_lt b)
theorem or_G (a b : Int) : wrap64 (G tOr 64 (U a) (U b) : Int) = bits .or .i64 a b := by
  rw [bits_or_i64, wi64, G_or, BitVec.toNat_or, U_bv, U_bv, Nat.mod_eq_of_lt]
  exact Nat.or_lt_two_pow (U_lt a) (U_lt b)
theorem xor_G (a b : Int) : wrap64 (G tXor 64 (U a) (U b) : Int) = bits .xor .i64 a b := by
  rw [bits_xor_i64, wi64, G_xor, BitVec.toNat_xor, U_bv, U_bv, Nat.mod_eq_of_lt]
  exact Nat.xor_lt_two_pow (U_lt a) (U_lt b)

/-! ### quotients by sizes and signs -/
theorem quo_sizes (a b : Int) : a.tdiv b = if decide (a < 0) = decide (b < 0) then ((a.natAbs / b.natAbs : Nat) : Int) else -((a.natAbs / b.natAbs : Nat) : Int) := by
  rcases Int.natAbs_eq a with ha | ha <;> rcases Int.natAbs_eq b with hb | hb
  all_goals
    generalize a.natAbs = m at *
    generalize b.natAbs = n at *
    subst ha; subst hb
    simp only [Int.neg_tdiv, Int.tdiv_neg, Int.neg_neg, ← Int.ofNat_tdiv]
    rcases Nat.eq_zero_or_pos m with rfl | hm <;> rcases Nat.eq_zero_or_pos n with rfl | hn
    all_goals simp
    all_goals (try omega)
theorem rem_sizes (a b : Int) : a.tmod b = if a < 0 then -((a.natAbs % b.natAbs : Nat) : Int) else ((a.natAbs % b.natAbs : Nat) : Int) := by
  rcases Int.natAbs_eq a with ha | ha <;> rcases Int.natAbs_eq b with hb | hb
  all_goals
    generalize a.natAbs = m at *
    generalize b.natAbs = n at *
    subst ha; subst hb
    simp only [Int.neg_tmod, Int.tmod_neg, ← Int.ofNat_tmod]
    rcases Nat.eq_zero_or_pos m with rfl | hm
    all_goals simp
    all_goals (try omega)

/-- where the loop over 64 places stands. -/
def St (t : Nat → Nat) (X Y k x y g p : Nat) : Prop := x = X / 2 ^ k ∧ y = Y / 2 ^ k ∧ g = G t k X Y ∧ p = 2 ^ k % 18446744073709551616
theorem St.start (t : Nat → Nat) (X Y : Nat) : St t X Y 0 X Y 0 1 := ⟨by simp, by simp, rfl, rfl⟩
theorem St.bounds {t : Nat → Nat} {X Y k x y g p : Nat} (ht : ∀ i, t i ≤ 1) (hX : X < 18446744073709551616) (hY : Y < 18446744073709551616) (hk : k < 64) (h : St t X Y k x y g p) :
    x < 18446744073709551616 ∧ y < 18446744073709551616 ∧ p ≤ 9223372036854775808 ∧ g < p ∧ 1 ≤ p := by
  obtain ⟨rfl, rfl, rfl, rfl⟩ := h
  have h1 : X / 2 ^ k ≤ X := Nat.div_le_self _ _
  have h2 : Y / 2 ^ k ≤ Y := Nat.div_le_self _ _
  have h3 : 2 ^ k ≤ 2 ^ 63 := Nat.pow_le_pow_right (by decide) (by omega)
  have h4 := G_lt t ht X Y k
  have h5 : 0 < 2 ^ k := Nat.pow_pos (by decide)
  rw [Nat.mod_eq_of_lt (by omega)]
  omega
theorem St.next {t : Nat → Nat} {X Y k x y g p : Nat} (hk : k < 64) (h : St t X Y k x y g p) :
    St t X Y (k + 1) (x / 2) (y / 2) (g + p * t (2 * (x % 2) + y % 2)) ((p * 2) % 18446744073709551616) := by
  obtain ⟨rfl, rfl, rfl, rfl⟩ := h
  have h3 : 2 ^ k ≤ 2 ^ 63 := Nat.pow_le_pow_right (by decide) (by omega)
  refine ⟨by rw [Nat.pow_succ, Nat.div_div_eq_div_mul], by rw [Nat.pow_succ, Nat.div_div_eq_div_mul], ?_, ?_⟩
  · rw [G, Nat.mod_eq_of_lt (a := 2 ^ k) (by omega)]
  · rw [Nat.pow_succ, Nat.mod_mul_mod]
theorem t_le {t : Nat → Nat} (ht : t = tAnd ∨ t = tOr ∨ t = tXor) (i : Nat) : t i ≤ 1 := by
  rcases ht with rfl | rfl | rfl
  · unfold tAnd; split <;> omega
  · unfold tOr; split <;> (try split) <;> omega
  · unfold tXor; split <;> omega

/-! ### shifts, step by step -/
theorem U_twice (z : Int) : IntKind.u64.wrap ((U z : Int) * 2) = (U (z * 2) : Int) := by rw [wu64]; unfold U; omega
theorem wrap_U (z : Int) : wrap64 (U z : Int) = wrap64 z := by rw [w64, w64]; unfold U; omega
theorem wrap_u (z : Int) : wrap64 (IntKind.u64.wrap z) = wrap64 z := by rw [w64, w64, wu64]; omega
theorem U_half_neg (z : Int) (h : z < 0) (hi : In z) : (U z : Int) / 2 + 9223372036854775808 = (U (z / 2) : Int) := by obtain ⟨h1, h2⟩ := hi; unfold U; omega
theorem U_half_pos (z : Int) (h : 0 ≤ z) (hi : In z) : (U z : Int) / 2 = (U (z / 2) : Int) := by obtain ⟨h1, h2⟩ := hi; unfold U; omega
theorem mul_next (a : Int) (k : Nat) : a * 2 ^ k * 2 = a * 2 ^ (k + 1) := by rw [Int.pow_succ, Int.mul_assoc]
theorem div_next (a : Int) (k : Nat) : a / 2 ^ k / 2 = a / 2 ^ (k + 1) := by rw [Int.pow_succ, Int.ediv_ediv_of_nonneg (Int.pow_nonneg (by decide))]
theorem in_div (a : Int) (h : In a) : ∀ k : Nat, In (a / 2 ^ k) ∧ (a < 0 → a / 2 ^ k < 0) ∧ (0 ≤ a → 0 ≤ a / 2 ^ k)
  | 0 => by simpa using h
  | k + 1 => by
    rw [← div_next]
    obtain ⟨⟨h1, h2⟩, h3, h4⟩ := in_div a h k
    refine ⟨⟨by omega, by omega⟩, fun ha => ?_, fun ha => ?_⟩
    · have := h3 ha; omega
    · have := h4 ha; omega
theorem n64 (b : Int) : IntKind.u64.wrap b % 64 = ((b % 64).toNat : Int) := by rw [wu64]; omega

theorem r1 (a b : Int) : wrap64 (IntKind.u64.wrap (IntKind.u64.wrap a + IntKind.u64.wrap b)) = doV 1 a b := by rw [wrap_u, v1, wu64, wu64, w64, w64]; omega
theorem r2 (a b : Int) : wrap64 (IntKind.u64.wrap (IntKind.u64.wrap a - IntKind.u64.wrap b)) = doV 2 a b := by rw [wrap_u, v2, wu64, wu64, w64, w64]; omega
theorem r3 (a b : Int) : wrap64 (IntKind.u64.wrap (IntKind.u64.wrap a * IntKind.u64.wrap b)) = doV 3 a b := by
  rw [wrap_u, v3, ← wrap_mull, wrap_u, wrap_mull, ← wrap_mulr, wrap_u, wrap_mulr]

/-! ### texts as numbers, the document's way -/
def uStep (n : Int) (c : UInt8) : Int := (n * 10 + (c.toNat : Int) - 48) % 18446744073709551616
def ru (l : List UInt8) : Int := l.foldl uStep 0
def readR (l : List UInt8) : Int := if l.head? = some 45 then wrap64 (-ru (l.take 30).tail) else wrap64 (ru (l.take 30))
/-- the document's Get. -/
def getR (l : List UInt8) : Int × Bool := if dec (readR l) = l then (readR l, true) else (0, false)
theorem ru_snoc (l : List UInt8) (c : UInt8) : ru (l ++ [c]) = uStep (ru l) c := by simp [ru]

theorem rd_digs (m : Nat) : rd (digs m) = wrap64 m := by
  rw [digs_last]
  split
  · simp only [rd, List.foldl, rdStep, dig_val]
    rw [w64, w64, w64]; omega
  · rename_i h
    rw [rd_snoc, rd_digs (m / 10), rdStep, dig_val, w64, w64, w64]
    rw [w64]
    omega
termination_by m
decreasing_by omega
theorem ru_digs (m : Nat) : ru (digs m) = (m : Int) % 18446744073709551616 := by
  rw [digs_last]
  split
  · simp only [ru, List.foldl, uStep, dig_val]
    omega
  · rename_i h
    rw [ru_snoc, ru_digs (m / 10), uStep, dig_val]
    omega
termination_by m
decreasing_by omega
theorem head_app {α : Type} (l k : List α) (h : l ≠ []) : (l ++ k).head? = l.head? := by
  cases l with
  | nil => exact absurd rfl h
  | cons a l => rfl
theorem digs_ne (m : Nat) : digs m ≠ [] := by
  rw [digs_last]; split <;> simp
theorem head_digs (m : Nat) : ∃ k, (digs m).head? = some (dig k) := by
  rw [digs_last]
  split
  · exact ⟨m, rfl⟩
  · rename_i h
    obtain ⟨k, hk⟩ := head_digs (m / 10)
    exact ⟨k, by rw [head_app _ _ (digs_ne _), hk]⟩
termination_by m
decreasing_by omega
theorem dig_ne (k : Nat) : ¬ dig k = 45 := by
  intro h
  have h1 := dig_val k
  rw [h] at h1
  have : ((45 : UInt8).toNat : Int) = 45 := rfl
  omega
theorem digs_len : ∀ (c m : Nat), m < 10 ^ (c + 1) → (digs m).length ≤ c + 1
  | 0, m, h => by rw [digs_last, if_pos (by simp at h; omega)]; simp
  | c + 1, m, h => by
    rw [digs_last]
    split
    · simp
    · rw [List.length_append]
      have := digs_len c (m / 10) (by rw [Nat.pow_succ] at h; omega)
      simp; omega
theorem read_dec (n : Int) (h : In n) : readV (dec n) = n ∧ readR (dec n) = n ∧ (dec n).length ≤ 20 := by
  obtain ⟨h1, h2⟩ := h
  have hl := digs_len 18 n.natAbs (by omega)
  obtain ⟨k, hk⟩ := head_digs n.natAbs
  unfold dec
  split
  · rename_i hn
    refine ⟨?_, ?_, by simp; omega⟩
    · unfold readV
      rw [if_pos (by simp)]
      simp only [List.tail_cons]
      rw [rd_digs, w64, w64]; omega
    · unfold readR
      rw [if_pos (by simp), List.take_of_length_le (by simp; omega)]
      simp only [List.tail_cons]
      rw [ru_digs, w64]; omega
  · rename_i hn
    have hne : ¬ (digs n.natAbs).head? = some 45 := by rw [hk]; simp; exact dig_ne k
    refine ⟨?_, ?_, by omega⟩
    · unfold readV
      rw [if_neg hne, rd_digs, w64]; omega
    · unfold readR
      rw [if_neg hne, List.take_of_length_le (by omega), ru_digs, w64]; omega
theorem in_readR (l : List UInt8) : In (readR l) := by
  unfold readR; split <;> exact in_wrap _
theorem get_same (l : List UInt8) : getV l = getR l := by
  unfold getV getR
  by_cases h : dec (readR l) = l
  · have hr := read_dec (readR l) (in_readR l)
    rw [h] at hr
    rw [if_pos h, if_neg (by omega), hr.1, h, if_pos rfl]
  · rw [if_neg h]
    split
    · rfl
    · split
      · rename_i hv
        have hr := read_dec (readV l) (in_readV l)
        rw [hv] at hr
        exact absurd (by rw [hr.2.1]; exact hv) h
      · rfl
theorem get_dec (n : Int) (h : In n) : getV (dec n) = (n, true) := by
  have hr := read_dec n h
  unfold getV
  rw [if_neg (by omega), hr.1, if_pos rfl]
theorem get_back (l : List UInt8) (h : (getV l).2 = true) : In (getV l).1 ∧ dec (getV l).1 = l := by
  unfold getV at h ⊢
  split at h
  · simp at h
  · split at h
    · rename_i h1 h2
      rw [if_neg h1, if_pos h2]; exact ⟨in_readV l, h2⟩
    · simp at h

end Go.Proofs.YtikfncgdjnljiaaDoor.NumM

namespace Go.Proofs.YtikfncgdjnljiaaDoor.WordM
open Go.RowKit NumM FloM

/-- a digit. -/
def digB (c : UInt8) : Bool := decide (48 ≤ (c.toNat : Int)) && decide ((c.toNat : Int) ≤ 57)
/-- a letter. -/
def letB (c : UInt8) : Bool := decide (97 ≤ (c.toNat : Int)) && decide ((c.toNat : Int) ≤ 122) || decide (65 ≤ (c.toNat : Int)) && decide ((c.toNat : Int) ≤ 90) || ((c.toNat : Int) == 95)
def nullL : List UInt8 := [110, 117, 108, 108]
def intL : List UInt8 := [105, 110, 116]
def floatL : List UInt8 := [102, 108, 111, 97, 116]
/-- word.Name. -/
def nameV (l : List UInt8) : Bool :=
  decide (1 ≤ l.length) && decide (l.length ≤ 16) && !(digB (l.headD 0)) && l.all (fun c => letB c || digB c) && (l != nullL) && (l != intL) && (l != floatL)

/-- an argument: its kind, its name, its number. -/
abbrev A := Int × ByteArray × Int
def val (a : A) : Value := .agg #[.int .i64 a.1, .string a.2.1, .int .i64 a.2.2]
def e0 : ByteArray := ⟨#[]⟩
def zero : A := (0, e0, 0)
/-- word.Right. -/
def rightV (a : A) : Bool :=
  if a.1 = 1 then (a.2.2 == 0) && nameV a.2.1.data.toList
  else if a.1 = 2 then a.2.1.data.toList == []
  else if a.1 = 3 then (a.2.1.data.toList == []) && (plainV a.2.2 == a.2.2)
  else if a.1 = 4 then (a.2.1.data.toList == []) && (a.2.2 == 0)
  else if a.1 = 5 then (a.2.1.data.toList == []) && decide (0 ≤ a.2.2) && decide (a.2.2 ≤ 999)
  else false
/-- word.Put. -/
def wput (a : A) : List UInt8 :=
  if rightV a = true then
    (if a.1 = 2 then dec a.2.2 else if a.1 = 3 then putV a.2.2 else if a.1 = 4 then nullL else if a.1 = 5 then 35 :: dec a.2.2 else a.2.1.data.toList)
  else []
/-- word.read. -/
def wread (s : ByteArray) : A × Bool :=
  match s.data.toList with
  | [] => (zero, false)
  | c :: t =>
    if c = 35 then ((5, e0, (getV t).1), (getV t).2)
    else if c = 45 ∨ (49 ≤ c.toNat ∧ c.toNat ≤ 57) then ((2, e0, (getV (c :: t)).1), (getV (c :: t)).2)
    else if c = 48 then (if c :: t = [48] then ((2, e0, 0), true) else ((3, e0, (fgetV (c :: t)).1), (fgetV (c :: t)).2))
    else if c :: t = nullL then ((4, e0, 0), true)
    else ((1, s, 0), true)
/-- word.Get. -/
def wget (s : ByteArray) : A × Bool := if (wread s).2 = true ∧ rightV (wread s).1 = true then ((wread s).1, true) else (zero, false)

theorem bytes_of (s : ByteArray) : (⟨s.data.toList.toArray⟩ : ByteArray) = s := by cases s; simp
theorem bytes_ext {s t : ByteArray} (h : s.data.toList = t.data.toList) : s = t := by rw [← bytes_of s, h, bytes_of]
theorem bytes_nil {s : ByteArray} (h : s.data.toList = []) : s = e0 := bytes_ext h

theorem digs_first (m : Nat) (h : 0 < m) : ∃ c t, digs m = c :: t ∧ 49 ≤ c.toNat ∧ c.toNat ≤ 57 := by
  rw [digs_last]
  split
  · refine ⟨dig m, [], rfl, ?_⟩
    have := dig_val m
    omega
  · rename_i hr
    obtain ⟨c, t, he, hc⟩ := digs_first (m / 10) (by omega)
    exact ⟨c, t ++ [dig m], by rw [he]; rfl, hc⟩
termination_by m
decreasing_by omega

theorem dec_zero : dec 0 = [48] := by decide +kernel
theorem dec_first (n : Int) : (n = 0 ∧ dec n = [48]) ∨ ∃ c t, dec n = c :: t ∧ (c = 45 ∨ (49 ≤ c.toNat ∧ c.toNat ≤ 57)) := by
  by_cases h0 : n = 0
  · subst h0; exact .inl ⟨rfl, dec_zero⟩
  · right
    by_cases h : n < 0
    · exact ⟨45, digs n.natAbs, by rw [dec, if_pos h], .inl rfl⟩
    · obtain ⟨c, t, he, hc⟩ := digs_first n.natAbs (by omega)
      exact ⟨c, t, by rw [dec, if_neg h, he], .inr hc⟩
theorem putV_first (n : Int) : ∃ t, putV n = 48 :: 102 :: t := ⟨hexs 16 (fl n), by unfold putV; rw [List.cons_append, List.cons_append, List.nil_append]⟩

theorem let_val {c : UInt8} (h : letB c = true) : (97 ≤ c.toNat ∧ c.toNat ≤ 122) ∨ (65 ≤ c.toNat ∧ c.toNat ≤ 90) ∨ c.toNat = 95 := by
  simp [letB] at h
  omega
theorem name_parts {l : List UInt8} (h : nameV l = true) : ∃ c t, l = c :: t ∧ letB c = true ∧ l ≠ nullL ∧ l.length ≤ 16 := by
  unfold nameV at h
  simp only [Bool.and_eq_true, decide_eq_true_eq] at h
  obtain ⟨⟨⟨⟨⟨⟨h1, h2⟩, h3⟩, h4⟩, h5⟩, _⟩, _⟩ := h
  cases l with
  | nil => simp at h1
  | cons c t =>
    refine ⟨c, t, rfl, ?_, by simpa using h5, h2⟩
    rw [List.all_cons] at h4
    have h6 : digB c = false := by simpa using h3
    simp only [Bool.and_eq_true, Bool.or_eq_true, h6] at h4
    simpa using h4.1

theorem ne_of_toNat {c d : UInt8} (h : c.toNat ≠ d.toNat) : c ≠ d := fun e => h (by rw [e])

/-- what is right is one of five. -/
theorem right_cases {a : A} (h : rightV a = true) :
    (∃ s, a = (1, s, 0) ∧ nameV s.data.toList = true) ∨ (∃ n, a = (2, e0, n)) ∨ (∃ n, a = (3, e0, n) ∧ plainV n = n) ∨ a = (4, e0, 0) ∨ (∃ n, a = (5, e0, n) ∧ 0 ≤ n ∧ n ≤ 999) := by
  obtain ⟨k, s, n⟩ := a
  unfold rightV at h
  simp only at h
  split at h
  · rename_i hk; subst hk
    simp only [Bool.and_eq_true, beq_iff_eq] at h
    obtain ⟨rfl, h2⟩ := h
    exact .inl ⟨s, rfl, h2⟩
  · split at h
    · rename_i hk; subst hk
      obtain rfl := bytes_nil (by simpa using h)
      exact .inr (.inl ⟨n, rfl⟩)
    · split at h
      · rename_i hk; subst hk
        simp only [Bool.and_eq_true, beq_iff_eq] at h
        obtain ⟨h1, h2⟩ := h
        obtain rfl := bytes_nil h1
        exact .inr (.inr (.inl ⟨n, rfl, h2⟩))
      · split at h
        · rename_i hk; subst hk
          simp only [Bool.and_eq_true, beq_iff_eq] at h
          obtain ⟨h1, rfl⟩ := h
          obtain rfl := bytes_nil h1
          exact .inr (.inr (.inr (.inl rfl)))
        · split at h
          · rename_i hk; subst hk
            simp only [Bool.and_eq_true, beq_iff_eq, decide_eq_true_eq] at h
            obtain ⟨⟨h1, h2⟩, h3⟩ := h
            obtain rfl := bytes_nil h1
            exact .inr (.inr (.inr (.inr ⟨n, rfl, h2, h3⟩)))
          · simp at h

theorem right1 {s : ByteArray} (h : nameV s.data.toList = true) : rightV (1, s, 0) = true := by simp [rightV, h]
theorem right2 (n : Int) : rightV (2, e0, n) = true := by simp [rightV, e0]
theorem right3 {n : Int} (h : plainV n = n) : rightV (3, e0, n) = true := by simp [rightV, e0, h]
theorem right4 : rightV (4, e0, 0) = true := by simp [rightV, e0]
theorem right5 {n : Int} (h : 0 ≤ n ∧ n ≤ 999) : rightV (5, e0, n) = true := by simp [rightV, e0, h]
theorem wput1 {s : ByteArray} (h : nameV s.data.toList = true) : wput (1, s, 0) = s.data.toList := by unfold wput; rw [if_pos (right1 h)]; rfl
theorem wput2 (n : Int) : wput (2, e0, n) = dec n := by unfold wput; rw [if_pos (right2 n)]; rfl
theorem wput3 {n : Int} (h : plainV n = n) : wput (3, e0, n) = putV n := by unfold wput; rw [if_pos (right3 h)]; rfl
theorem wput4 : wput (4, e0, 0) = nullL := by unfold wput; rw [if_pos right4]; rfl
theorem wput5 {n : Int} (h : 0 ≤ n ∧ n ≤ 999) : wput (5, e0, n) = 35 :: dec n := by unfold wput; rw [if_pos (right5 h)]; rfl

theorem wread_name {s : ByteArray} (h : nameV s.data.toList = true) : wread s = ((1, s, 0), true) := by
  obtain ⟨c, t, he, hc, hn, _⟩ := name_parts h
  unfold wread
  rw [he] at hn ⊢
  have hv := let_val hc
  have n1 : c ≠ 35 := ne_of_toNat (by show c.toNat ≠ 35; omega)
  have n2 : c ≠ 45 := ne_of_toNat (by show c.toNat ≠ 45; omega)
  have n3 : c ≠ 48 := ne_of_toNat (by show c.toNat ≠ 48; omega)
  simp only
  rw [if_neg n1, if_neg (by intro h; rcases h with h | h; exact n2 h; omega), if_neg n3, if_neg hn]
theorem wread_int {s : ByteArray} {n : Int} (hi : In n) (h : s.data.toList = dec n) : wread s = ((2, e0, n), true) := by
  unfold wread
  rw [h]
  rcases dec_first n with ⟨rfl, h0⟩ | ⟨c, t, h0, hc⟩
  · rw [h0]; rfl
  · have hg := get_dec n hi
    rw [h0] at hg ⊢
    simp only
    have n1 : c ≠ 35 := by
      rcases hc with rfl | hc
      · decide
      · exact ne_of_toNat (by show c.toNat ≠ 35; omega)
    rw [if_neg n1, if_pos hc, hg]
theorem wread_float {s : ByteArray} {n : Int} (hi : In n) (hp : plainV n = n) (h : s.data.toList = putV n) : wread s = ((3, e0, n), true) := by
  unfold wread
  rw [h]
  have hg := get_put n hi
  rw [hp] at hg
  obtain ⟨t, ht⟩ := putV_first n
  rw [ht] at hg ⊢
  simp only
  rw [if_neg (by decide), if_neg (by decide), if_pos trivial, if_neg (by simp), hg]
theorem wread_null {s : ByteArray} (h : s.data.toList = nullL) : wread s = ((4, e0, 0), true) := by
  unfold wread
  rw [h]; rfl
theorem wread_obj {s : ByteArray} {n : Int} (hi : In n) (h : s.data.toList = 35 :: dec n) : wread s = ((5, e0, n), true) := by
  unfold wread
  rw [h]
  simp only
  rw [if_pos trivial, get_dec n hi]

/-- the word of a right argument is read as it. -/
theorem wget_of {a : A} {s : ByteArray} (hi : In a.2.2) (hr : rightV a = true) (h : s.data.toList = wput a) : wget s = (a, true) := by
  have key : wread s = (a, true) := by
    rcases right_cases hr with ⟨u, rfl, hn⟩ | ⟨n, rfl⟩ | ⟨n, rfl, hp⟩ | rfl | ⟨n, rfl, hn⟩
    · rw [wput1 hn] at h
      obtain rfl := bytes_ext h
      exact wread_name hn
    · exact wread_int hi (by rw [h, wput2])
    · exact wread_float hi hp (by rw [h, wput3 hp])
    · exact wread_null (by rw [h, wput4])
    · exact wread_obj hi (by rw [h, wput5 hn])
  unfold wget
  rw [key, if_pos ⟨rfl, hr⟩]

/-- what is read, if it is right, has this word. -/
theorem wread_back {s : ByteArray} (h : (wread s).2 = true) (hr : rightV (wread s).1 = true) : wput (wread s).1 = s.data.toList ∧ In (wread s).1.2.2 := by
  unfold wread at h hr ⊢
  generalize hl : s.data.toList = l at h hr ⊢
  match l with
  | [] => simp at h
  | c :: t =>
    simp only at h hr ⊢
    by_cases h1 : c = 35
    · rw [if_pos h1] at h hr ⊢
      obtain ⟨b1, b2⟩ := get_back t h
      have hn : 0 ≤ (getV t).1 ∧ (getV t).1 ≤ 999 := by
        simp [rightV, e0] at hr
        exact hr
      exact ⟨by rw [wput5 hn, b2, h1], b1⟩
    · rw [if_neg h1] at h hr ⊢
      by_cases h2 : c = 45 ∨ (49 ≤ c.toNat ∧ c.toNat ≤ 57)
      · rw [if_pos h2] at h hr ⊢
        obtain ⟨b1, b2⟩ := get_back (c :: t) h
        exact ⟨by rw [wput2, b2], b1⟩
      · rw [if_neg h2] at h hr ⊢
        by_cases h3 : c = 48
        · rw [if_pos h3] at h hr ⊢
          by_cases h4 : c :: t = [48]
          · rw [if_pos h4]
            exact ⟨by rw [wput2, dec_zero, h4], by show In 0; unfold In; omega⟩
          · rw [if_neg h4] at h hr ⊢
            have hp : plainV (fgetV (c :: t)).1 = (fgetV (c :: t)).1 := by
              simp [rightV, e0] at hr
              exact hr
            have hin : In (fgetV (c :: t)).1 := by
              unfold fgetV
              split
              · split
                · exact in_frd _
                · show In 0; unfold In; omega
              · show In 0; unfold In; omega
            exact ⟨by rw [wput3 hp, FloM.get_back h], hin⟩
        · rw [if_neg h3] at h hr ⊢
          by_cases h4 : c :: t = nullL
          · rw [if_pos h4]
            exact ⟨by rw [wput4, h4], by show In 0; unfold In; omega⟩
          · rw [if_neg h4] at hr ⊢
            have hn : nameV s.data.toList = true := by
              simp [rightV] at hr
              exact hr
            exact ⟨by rw [wput1 hn, hl], by show In 0; unfold In; omega⟩

theorem wget_back {s : ByteArray} (h : (wget s).2 = true) : rightV (wget s).1 = true ∧ wput (wget s).1 = s.data.toList ∧ In (wget s).1.2.2 := by
  unfold wget at h ⊢
  split at h
  · rename_i hc
    rw [if_pos hc]
    exact ⟨hc.2, wread_back hc.1 hc.2⟩
  · simp at h
theorem wget_none {s : ByteArray} (h : (wget s).2 = false) : (wget s).1 = zero := by
  unfold wget at h ⊢
  split at h
  · simp at h
  · rename_i hc
    rw [if_neg hc]

/-- the argument of each kind that a text could be. -/
def cand (s : ByteArray) : Nat → A
  | 0 => (1, s, 0)
  | 1 => (2, e0, (getV s.data.toList).1)
  | 2 => (3, e0, (fgetV s.data.toList).1)
  | 3 => (4, e0, 0)
  | _ => (5, e0, (getV s.data.toList.tail).1)
def candOk (s : ByteArray) (i : Nat) : Bool := rightV (cand s i) && (wput (cand s i) == s.data.toList)
theorem in_getV (l : List UInt8) : In (getV l).1 := by
  unfold getV
  split
  · show In 0; unfold In; omega
  · split
    · exact in_readV _
    · show In 0; unfold In; omega
theorem in_fgetV (l : List UInt8) : In (fgetV l).1 := by
  unfold fgetV
  split
  · split
    · exact in_frd _
    · show In 0; unfold In; omega
  · show In 0; unfold In; omega
theorem in_cand (s : ByteArray) (i : Nat) : In (cand s i).2.2 := by
  unfold cand
  split
  · show In 0; unfold In; omega
  · exact in_getV _
  · exact in_fgetV _
  · show In 0; unfold In; omega
  · exact in_getV _
theorem wget_cand {s : ByteArray} {i : Nat} (h : candOk s i = true) : wget s = (cand s i, true) := by
  unfold candOk at h
  simp only [Bool.and_eq_true, beq_iff_eq] at h
  exact wget_of (in_cand s i) h.1 h.2.symm
theorem wget_no_cand {s : ByteArray} (h : ∀ i, i < 5 → candOk s i = false) : wget s = (zero, false) := by
  by_cases hg : (wget s).2 = true
  · exfalso
    obtain ⟨hr, hp, hi⟩ := wget_back hg
    have key : ∃ i, i < 5 ∧ cand s i = (wget s).1 := by
      rcases right_cases hr with ⟨u, ha, hn⟩ | ⟨n, ha⟩ | ⟨n, ha, hpl⟩ | ha | ⟨n, ha, hn⟩
      · rw [ha, wput1 hn] at hp
        exact ⟨0, by omega, by rw [ha, bytes_ext hp]; rfl⟩
      · rw [ha] at hi hp ⊢
        rw [wput2] at hp
        refine ⟨1, by omega, ?_⟩
        unfold cand
        rw [← hp, get_dec n hi]
        rfl
      · rw [ha] at hi hp ⊢
        rw [wput3 hpl] at hp
        refine ⟨2, by omega, ?_⟩
        unfold cand
        rw [← hp, get_put n hi, hpl]
        rfl
      · exact ⟨3, by omega, by rw [ha]; rfl⟩
      · rw [ha] at hi hp ⊢
        rw [wput5 hn] at hp
        refine ⟨4, by omega, ?_⟩
        unfold cand
        rw [← hp]
        show (5, e0, (getV (dec n)).1) = _
        rw [get_dec n hi]
    obtain ⟨i, hi5, hc⟩ := key
    have := h i hi5
    unfold candOk at this
    rw [hc, hr, hp] at this
    simp at this
  · have h2 : (wget s).2 = false := by simpa using hg
    have h3 := wget_none h2
    exact Prod.ext h3 h2

/-- unlike right arguments have unlike words. -/
theorem wput_inj {a b : A} (ha : In a.2.2) (hb : In b.2.2) (ra : rightV a = true) (rb : rightV b = true) (h : wput a = wput b) : a = b := by
  have h1 : wget ⟨(wput a).toArray⟩ = (a, true) := wget_of ha ra rfl
  have h2 : wget ⟨(wput a).toArray⟩ = (b, true) := wget_of hb rb h
  rw [h1] at h2
  exact congrArg Prod.fst h2

theorem wput_len {a : A} (ra : rightV a = true) (ha : In a.2.2) : (wput a).length ≤ 22 := by
  rcases right_cases ra with ⟨u, rfl, hn⟩ | ⟨n, rfl⟩ | ⟨n, rfl, hpl⟩ | rfl | ⟨n, rfl, hn⟩
  · rw [wput1 hn]
    obtain ⟨c, t, _, _, _, hl⟩ := name_parts hn
    omega
  · rw [wput2]; have := (read_dec n ha).2.2; omega
  · rw [wput3 hpl, put_len]; omega
  · rw [wput4]; decide
  · rw [wput5 hn]; have := (read_dec n ha).2.2; simp; omega
end Go.Proofs.YtikfncgdjnljiaaDoor.WordM

namespace Go.Proofs.YtikfncgdjnljiaaDoor.LinesM

abbrev Wd := List UInt8
/-- A line: its number and its words. -/
abbrev Ln := Nat × List Wd

/-- What a byte is to its line. -/
def kindB (c : UInt8) : Int := if c = 32 ∨ c = 9 then 1 else if c = 59 then 2 else if 33 ≤ c.toNat ∧ c.toNat ≤ 126 then 0 else 3
/-- How many bytes ahead are of kind k. -/
def run (k : Int) (l : List UInt8) : Nat := (l.takeWhile fun c => kindB c == k).length

/-- Within a line: the words, the word that is begun, whether a remark is on, whether something stood that may not. -/
structure LS where
  l : List Wd
  w : Wd
  rem : Bool
  bad : Bool
def LS.init : LS := ⟨[], [], false, false⟩
def push (l : List Wd) (w : Wd) : List Wd := if w = [] then l else l ++ [w]
def strayB (c : UInt8) : Bool := decide ((c.toNat : Int) < 33) || decide (126 < (c.toNat : Int))
def lstep (t : LS) (c : UInt8) : LS :=
  if t.rem = true ∨ c = 59 then ⟨push t.l t.w, [], true, t.bad⟩
  else if c = 32 ∨ c = 9 then ⟨push t.l t.w, [], false, t.bad⟩
  else ⟨t.l, t.w ++ [c], false, t.bad || strayB c⟩
def emit (n : Nat) (out : List Ln) (l : List Wd) : List Ln := if l = [] then out else out ++ [(n, l)]
/-- The lines, the number that is told, and why not. -/
abbrev Res := List Ln × Nat × Nat
def go (n : Nat) (out : List Ln) (t : LS) : List UInt8 → Res
  | [] => if t.bad then ([], n, 3) else (emit n out (push t.l t.w), 0, 0)
  | c :: cs => if c = 10 then (if t.bad then ([], n, 3) else go (n + 1) (emit n out (push t.l t.w)) LS.init cs) else go n out (lstep t c) cs
def splitV (l : List UInt8) : Res := if 4194304 < l.length then ([], 0, 2) else go 1 [] LS.init l

/-! ### runs -/
theorem run_nil (k : Int) : run k [] = 0 := rfl
theorem run_le (k : Int) (l : List UInt8) : run k l ≤ l.length := List.IsPrefix.length_le (List.takeWhile_prefix _)
theorem run_cons_yes {k : Int} {c : UInt8} {l : List UInt8} (h : kindB c = k) : run k (c :: l) = run k l + 1 := by
  unfold run; rw [List.takeWhile_cons_of_pos (by simp [h])]; simp
theorem run_cons_no {k : Int} {c : UInt8} {l : List UInt8} (h : kindB c ≠ k) : run k (c :: l) = 0 := by
  unfold run; rw [List.takeWhile_cons_of_neg (by simp [h])]; rfl

/-! ### the program's way: line by line, and by places in a line -/
/-- What stands ahead of a line feed. -/
def seg (l : List UInt8) : List UInt8 := l.takeWhile fun c => c != 10
theorem seg_le (l : List UInt8) : (seg l).length ≤ l.length := List.IsPrefix.length_le (List.takeWhile_prefix _)

/-- A line's end, or a remark? -/
def endB : List UInt8 → Bool
  | [] => true
  | c :: _ => kindB c == 2
def words (l : List UInt8) : List Wd × Bool :=
  if _h : run 0 l = 0 then ([], endB l)
  else
    let r := l.drop (run 0 l)
    let q := words (r.drop (run 1 r))
    (l.take (run 0 l) :: q.1, q.2)
termination_by l.length
decreasing_by simp; have := run_le 0 l; omega
def cutV (l : List UInt8) : List Wd × Bool := words (l.drop (run 1 l))

def splitP (n : Nat) (out : List Ln) (l : List UInt8) : Res :=
  if h : l = [] then (out, 0, 0)
  else
    let q := cutV (seg l)
    if q.2 = true then splitP (n + 1) (emit n out q.1) (l.drop ((seg l).length + 1)) else ([], n, 3)
termination_by l.length
decreasing_by
  have : 0 < l.length := List.length_pos_iff.2 h
  simp; omega

/-! ### both ways tell the same -/
theorem lstep_rem {t : LS} (h : t.rem = true) (hw : t.w = []) (c : UInt8) : lstep t c = t := by
  obtain ⟨l, w, r, b⟩ := t
  simp only at h hw
  subst h hw
  simp [lstep, push]

/-- a remark: nothing turns till the line's end. -/
theorem fold_rem (l : List Wd) (b : Bool) (s : List UInt8) : s.foldl lstep ⟨l, [], true, b⟩ = ⟨l, [], true, b⟩ := by
  induction s with
  | nil => rfl
  | cons c s ih => rw [List.foldl_cons, lstep_rem rfl rfl]; exact ih

theorem lstep_bad (t : LS) (c : UInt8) (h : t.bad = true) : (lstep t c).bad = true := by
  unfold lstep; split
  · exact h
  · split
    · exact h
    · simp [h]
theorem fold_bad (s : List UInt8) : ∀ (t : LS), t.bad = true → (s.foldl lstep t).bad = true := by
  induction s with
  | nil => exact fun t h => h
  | cons c s ih => exact fun t h => ih _ (lstep_bad t c h)

/-- what a line's bytes make of the walk by lines. -/
theorem go_seg (s : List UInt8) : ∀ (n : Nat) (out : List Ln) (t : LS) (rest : List UInt8), (∀ c ∈ s, c ≠ 10) → go n out t (s ++ rest) = go n out (s.foldl lstep t) rest := by
  induction s with
  | nil => intro n out t rest _; rfl
  | cons c s ih =>
    intro n out t rest h
    have hc : c ≠ 10 := h c (by simp)
    rw [List.cons_append, go, if_neg hc, List.foldl_cons]
    exact ih n out _ rest fun d hd => h d (by simp [hd])

theorem kind_gap {c : UInt8} (h : kindB c = 1) : c = 32 ∨ c = 9 := by
  unfold kindB at h; split at h
  · assumption
  · split at h
    · cases h
    · split at h <;> cases h
theorem kind_rem {c : UInt8} (h : kindB c = 2) : c = 59 := by
  unfold kindB at h; split at h
  · cases h
  · split at h
    · assumption
    · split at h <;> cases h
theorem kind_part {c : UInt8} (h : kindB c = 0) : c ≠ 59 ∧ c ≠ 32 ∧ c ≠ 9 ∧ strayB c = false := by
  unfold kindB at h; split at h
  · cases h
  · rename_i h1; split at h
    · cases h
    · rename_i h2; split at h
      · rename_i h3
        refine ⟨h2, fun e => h1 (.inl e), fun e => h1 (.inr e), ?_⟩
        simp [strayB]; omega
      · cases h
theorem kind_stray {c : UInt8} (h0 : kindB c ≠ 0) (h1 : kindB c ≠ 1) (h2 : kindB c ≠ 2) : c ≠ 59 ∧ c ≠ 32 ∧ c ≠ 9 ∧ strayB c = true := by
  unfold kindB at h0 h1 h2
  by_cases g1 : c = 32 ∨ c = 9
  · simp [g1] at h1
  · rw [if_neg g1] at h0 h1 h2
    by_cases g2 : c = 59
    · simp [g2] at h2
    · rw [if_neg g2] at h0 h1 h2
      by_cases g3 : 33 ≤ c.toNat ∧ c.toNat ≤ 126
      · simp [g3] at h0
      · refine ⟨g2, fun e => g1 (.inl e), fun e => g1 (.inr e), ?_⟩
        simp [strayB]; omega

theorem lstep_gap {l : List Wd} {b : Bool} {w : Wd} {c : UInt8} (h : kindB c = 1) : lstep ⟨l, w, false, b⟩ c = ⟨push l w, [], false, b⟩ := by
  have := kind_gap h
  have h59 : c ≠ 59 := by intro e; subst e; rcases this with e | e <;> cases e
  unfold lstep
  rw [if_neg (by simp [h59]), if_pos this]
theorem lstep_part {l : List Wd} {b : Bool} {w : Wd} {c : UInt8} (h : kindB c = 0) : lstep ⟨l, w, false, b⟩ c = ⟨l, w ++ [c], false, b⟩ := by
  obtain ⟨h1, h2, h3, h4⟩ := kind_part h
  unfold lstep
  rw [if_neg (by simp [h1]), if_neg (by simp [h2, h3]), h4]
  simp

/-- gaps mean nothing where no word is begun. -/
theorem fold_gaps (s : List UInt8) (l : List Wd) (b : Bool) : s.foldl lstep ⟨l, [], false, b⟩ = (s.drop (run 1 s)).foldl lstep ⟨l, [], false, b⟩ := by
  induction s with
  | nil => rfl
  | cons c s ih =>
    by_cases h : kindB c = 1
    · rw [run_cons_yes h, List.foldl_cons, lstep_gap h, List.drop_succ_cons]
      simpa [push] using ih
    · rw [run_cons_no h, List.drop_zero]
/-- a word's bytes. -/
theorem fold_part (s : List UInt8) (l : List Wd) (b : Bool) : ∀ (w : Wd), s.foldl lstep ⟨l, w, false, b⟩ = (s.drop (run 0 s)).foldl lstep ⟨l, w ++ s.take (run 0 s), false, b⟩ := by
  induction s with
  | nil => intro w; simp [run_nil]
  | cons c s ih =>
    intro w
    by_cases h : kindB c = 0
    · rw [run_cons_yes h, List.foldl_cons, lstep_part h, List.drop_succ_cons, List.take_succ_cons, ih]
      simp
    · rw [run_cons_no h, List.drop_zero, List.take_zero, List.append_nil]

theorem run_drop (k : Int) (s : List UInt8) : run k (s.drop (run k s)) = 0 := by
  induction s with
  | nil => rfl
  | cons c s ih =>
    by_cases h : kindB c = k
    · rw [run_cons_yes h, List.drop_succ_cons]; exact ih
    · rw [run_cons_no h, List.drop_zero, run_cons_no h]

/-- A gap behind a word, or a line's end, ends the word. -/
theorem fold_end (s : List UInt8) (l : List Wd) (b : Bool) (w : Wd) (h0 : run 0 s = 0) :
    ((s.foldl lstep ⟨l, w, false, b⟩).bad = ((s.drop (run 1 s)).foldl lstep ⟨push l w, [], false, b⟩).bad) ∧
      ((s.foldl lstep ⟨l, w, false, b⟩).bad = false → push (s.foldl lstep ⟨l, w, false, b⟩).l (s.foldl lstep ⟨l, w, false, b⟩).w = push ((s.drop (run 1 s)).foldl lstep ⟨push l w, [], false, b⟩).l ((s.drop (run 1 s)).foldl lstep ⟨push l w, [], false, b⟩).w) := by
  cases s with
  | nil => by_cases hw : w = [] <;> simp [run_nil, push, hw]
  | cons c s =>
    by_cases h1 : kindB c = 1
    · rw [run_cons_yes h1, List.foldl_cons, lstep_gap h1, List.drop_succ_cons, ← fold_gaps]
      exact ⟨rfl, fun _ => rfl⟩
    · rw [run_cons_no h1, List.drop_zero]
      by_cases h2 : kindB c = 2
      · have := kind_rem h2
        subst this
        have e : ∀ l w, lstep ⟨l, w, false, b⟩ 59 = ⟨push l w, [], true, b⟩ := fun l w => by simp [lstep]
        rw [List.foldl_cons, List.foldl_cons, e, e, fold_rem, fold_rem]
        simp [push]
      · have hk0 : kindB c ≠ 0 := by
          intro e; rw [run_cons_yes e] at h0; omega
        obtain ⟨g1, g2, g3, g4⟩ := kind_stray hk0 h1 h2
        have e : ∀ l w, (lstep ⟨l, w, false, b⟩ c).bad = true := fun l w => by
          unfold lstep; rw [if_neg (by simp [g1]), if_neg (by simp [g2, g3]), g4]; simp
        rw [List.foldl_cons, List.foldl_cons]
        have b1 := fold_bad s _ (e l w)
        have b2 := fold_bad s _ (e (push l w) [])
        exact ⟨b1.trans b2.symm, fun h => by rw [b1] at h; cases h⟩

/-- A line's bytes, gaps ahead gone, as words. -/
theorem fold_words (k : Nat) : ∀ (s : List UInt8) (l : List Wd), s.length ≤ k → run 1 s = 0 →
    (s.foldl lstep ⟨l, [], false, false⟩).bad = !(words s).2 ∧
      ((words s).2 = true → push (s.foldl lstep ⟨l, [], false, false⟩).l (s.foldl lstep ⟨l, [], false, false⟩).w = l ++ (words s).1) := by
  induction k with
  | zero =>
    intro s l hk _
    have : s = [] := List.eq_nil_of_length_eq_zero (by omega)
    subst this
    rw [words]; simp [run_nil, push, endB]
  | succ k ih =>
    intro s l hk h1
    by_cases h0 : run 0 s = 0
    · rw [words, dif_pos h0]
      cases s with
      | nil => simp [push, endB]
      | cons c s =>
        have hk0 : kindB c ≠ 0 := by intro e; rw [run_cons_yes e] at h0; omega
        have hk1 : kindB c ≠ 1 := by intro e; rw [run_cons_yes e] at h1; omega
        by_cases h2 : kindB c = 2
        · have := kind_rem h2
          subst this
          have e : lstep ⟨l, [], false, false⟩ 59 = ⟨l, [], true, false⟩ := by simp [lstep, push]
          rw [List.foldl_cons, e, fold_rem]
          simp [push, h2, endB]
        · obtain ⟨g1, g2, g3, g4⟩ := kind_stray hk0 hk1 h2
          have e : (lstep ⟨l, [], false, false⟩ c).bad = true := by
            unfold lstep; rw [if_neg (by simp [g1]), if_neg (by simp [g2, g3]), g4]; simp
          rw [List.foldl_cons, fold_bad s _ e]
          simp [h2, endB]
    · have hw : (s.take (run 0 s)) ≠ [] := by
        intro e
        have h2 := congrArg List.length e
        rw [List.length_take, List.length_nil] at h2
        have := run_le 0 s
        omega
      rw [words, dif_neg h0]
      simp only
      have hf := fold_part s l false []
      rw [List.nil_append] at hf
      rw [hf]
      have he := fold_end (s.drop (run 0 s)) l false (s.take (run 0 s)) (run_drop 0 s)
      have hp : push l (s.take (run 0 s)) = l ++ [s.take (run 0 s)] := by unfold push; rw [if_neg hw]
      rw [hp] at he
      obtain ⟨i1, i2⟩ := ih ((s.drop (run 0 s)).drop (run 1 (s.drop (run 0 s)))) (l ++ [s.take (run 0 s)]) (by rw [List.length_drop, List.length_drop]; omega) (run_drop 1 _)
      refine ⟨he.1.trans i1, fun h => ?_⟩
      rw [he.2 (by rw [he.1, i1, h]; rfl), i2 h]
      simp

theorem fold_cut (s : List UInt8) : (s.foldl lstep LS.init).bad = !(cutV s).2 ∧ ((cutV s).2 = true → push (s.foldl lstep LS.init).l (s.foldl lstep LS.init).w = (cutV s).1) := by
  unfold LS.init
  rw [fold_gaps]
  have h := fold_words _ (s.drop (run 1 s)) [] (Nat.le_refl _) (run_drop 1 s)
  unfold cutV
  exact ⟨h.1, fun e => by rw [h.2 e]; simp⟩

theorem seg_split (l : List UInt8) (h : l ≠ []) : l = seg l ∧ l.drop ((seg l).length + 1) = [] ∨ l = seg l ++ 10 :: l.drop ((seg l).length + 1) := by
  induction l with
  | nil => exact absurd rfl h
  | cons c l ih =>
    by_cases hc : c = 10
    · subst hc
      right
      simp [seg]
    · have e : seg (c :: l) = c :: seg l := by unfold seg; rw [List.takeWhile_cons_of_pos (by simp [hc])]
      rw [e]
      by_cases hl : l = []
      · subst hl; left; simp [seg]
      · rcases ih hl with ⟨i1, i2⟩ | i
        · left
          exact ⟨by rw [← i1], by simpa using i2⟩
        · right
          rw [List.cons_append, List.length_cons, List.drop_succ_cons, ← i]

theorem seg_no (l : List UInt8) : ∀ c ∈ seg l, c ≠ 10 := by
  intro c hc
  have : (seg l).all (fun c => c != 10) = true := by unfold seg; exact List.all_takeWhile
  simpa using List.all_eq_true.1 this c hc

theorem split_same (k : Nat) : ∀ (l : List UInt8) (n : Nat) (out : List Ln), l.length ≤ k → splitP n out l = go n out LS.init l := by
  induction k with
  | zero =>
    intro l n out hk
    have : l = [] := List.eq_nil_of_length_eq_zero (by omega)
    subst this
    rw [splitP]; simp [go, LS.init, push, emit]
  | succ k ih =>
    intro l n out hk
    by_cases h : l = []
    · subst h; rw [splitP]; simp [go, LS.init, push, emit]
    · rw [splitP, dif_neg h]
      simp only
      obtain ⟨f1, f2⟩ := fold_cut (seg l)
      have hpos := List.length_pos_iff.2 h
      rcases seg_split l h with ⟨e, hd⟩ | e
      · have hg := go_seg (seg l) n out LS.init [] (seg_no l)
        rw [List.append_nil] at hg
        rw [← e] at hg
        rw [hg, go]
        rw [← e] at f1 f2 ⊢
        by_cases hq : (cutV l).2 = true
        · rw [if_pos hq, f1, hq, f2 hq]
          have hd' : l.drop (l.length + 1) = [] := by simp
          rw [hd', splitP]
          simp
        · rw [if_neg hq, f1]
          have : (cutV l).2 = false := by simpa using hq
          rw [this]; simp
      · have hg := go_seg (seg l) n out LS.init (10 :: l.drop ((seg l).length + 1)) (seg_no l)
        rw [← e] at hg
        rw [hg, go, if_pos rfl]
        by_cases hq : (cutV (seg l)).2 = true
        · rw [if_pos hq, f1, hq, f2 hq, ih _ _ _ (by simp; omega)]
          simp
        · have : (cutV (seg l)).2 = false := by simpa using hq
          rw [if_neg hq, f1, this]; simp

theorem split_eq (l : List UInt8) : splitP 1 [] l = go 1 [] LS.init l := split_same _ l 1 [] (Nat.le_refl _)

end Go.Proofs.YtikfncgdjnljiaaDoor.LinesM

namespace Go.Proofs.YtikfncgdjnljiaaDoor.LinesM

/-- The words of a line, one blank between them. -/
def lineJ : List Wd → List UInt8
  | [] => []
  | w :: ws => w ++ ws.flatMap fun x => 32 :: x
/-- The text of lines. -/
def joinV (L : List (List Wd)) : List UInt8 := L.flatMap fun ws => lineJ ws ++ [10]

theorem lineJ_first (x : Wd) : lineJ [x] = x := by simp [lineJ]
theorem lineJ_next {ws : List Wd} (h : ws ≠ []) (x : Wd) : lineJ (ws ++ [x]) = lineJ ws ++ [32] ++ x := by
  cases ws with
  | nil => exact absurd rfl h
  | cons w ws => simp [lineJ]
theorem lineJ_le (a b : List Wd) : (lineJ a).length ≤ (lineJ (a ++ b)).length := by
  cases a with
  | nil => simp [lineJ]
  | cons w a => simp [lineJ]
theorem joinV_next {L : List (List Wd)} {k : Nat} {ws : List Wd} (h : L[k]? = some ws) : joinV (L.take (k + 1)) = joinV (L.take k) ++ lineJ ws ++ [10] := by
  obtain ⟨hk, rfl⟩ := List.getElem?_eq_some_iff.1 h
  rw [List.take_succ_eq_append_getElem hk]
  unfold joinV
  rw [List.flatMap_append, List.flatMap_cons, List.flatMap_nil, List.append_nil, List.append_assoc]
theorem joinV_le (L : List (List Wd)) (k : Nat) : (joinV (L.take k)).length ≤ (joinV L).length := by
  conv => rhs; rw [← List.take_append_drop k L]
  unfold joinV
  rw [List.flatMap_append, List.length_append]
  omega
theorem part_le {L : List (List Wd)} {k q : Nat} {ws : List Wd} (h : L[k]? = some ws) : (joinV (L.take k)).length + (lineJ (ws.take q)).length + 1 ≤ (joinV L).length := by
  have h1 := joinV_le L (k + 1)
  rw [joinV_next h] at h1
  have h2 := lineJ_le (ws.take q) (ws.drop q)
  rw [List.take_append_drop] at h2
  simp at h1
  omega
theorem take_next {α : Type} {l : List α} {k : Nat} {x : α} (h : l[k]? = some x) : l.take (k + 1) = l.take k ++ [x] := by
  obtain ⟨hk, rfl⟩ := List.getElem?_eq_some_iff.1 h
  exact List.take_succ_eq_append_getElem hk
theorem lineJ_step {ws : List Wd} {q : Nat} {x : Wd} (h : ws[q]? = some x) (h0 : 0 < q) : lineJ (ws.take (q + 1)) = lineJ (ws.take q) ++ [32] ++ x := by
  rw [take_next h, lineJ_next]
  have hq := (List.getElem?_eq_some_iff.1 h).1
  intro e
  have := congrArg List.length e
  rw [List.length_take, List.length_nil] at this
  omega
theorem lineJ_step0 {ws : List Wd} {x : Wd} (h : ws[0]? = some x) : lineJ (ws.take (0 + 1)) = lineJ (ws.take 0) ++ x := by
  rw [take_next h, List.take_zero, List.nil_append, lineJ_first]; rfl
end Go.Proofs.YtikfncgdjnljiaaDoor.LinesM

namespace Go.Proofs.YtikfncgdjnljiaaDoor.LinesM

/-- How many line feeds. -/
def feeds (l : List UInt8) : Nat := (l.filter fun c => c == 10).length
theorem feeds_cons (c : UInt8) (l : List UInt8) : feeds (c :: l) = (if c = 10 then 1 else 0) + feeds l := by
  unfold feeds
  by_cases h : c = 10
  · rw [List.filter_cons_of_pos (by simp [h]), if_pos h]; simp; omega
  · rw [List.filter_cons_of_neg (by simp [h]), if_neg h]; omega
theorem feeds_le (l : List UInt8) : feeds l ≤ l.length := List.length_filter_le _ _

def clean (w : Wd) : Prop := w ≠ [] ∧ ∀ c ∈ w, kindB c = 0
/-- Numbers rise from lo on, up to hi; each line has words, which are clean. -/
def Rise (lo hi : Nat) : List Ln → Prop
  | [] => True
  | x :: L => lo ≤ x.1 ∧ x.1 ≤ hi ∧ x.2 ≠ [] ∧ (∀ w ∈ x.2, clean w) ∧ Rise (x.1 + 1) hi L
theorem Rise.wide {L : List Ln} : ∀ {lo hi lo' hi' : Nat}, Rise lo hi L → lo' ≤ lo → hi ≤ hi' → Rise lo' hi' L := by
  induction L with
  | nil => intros; trivial
  | cons x L ih => intro lo hi lo' hi' ⟨h1, h2, h3, h4, h5⟩ hl hh; exact ⟨by omega, by omega, h3, h4, ih h5 (Nat.le_refl _) hh⟩

/-- This line's words are clean, as long as nothing stray stood. -/
def Tidy (t : LS) : Prop := t.bad = false → (∀ w ∈ t.l, clean w) ∧ ∀ c ∈ t.w, kindB c = 0
theorem Tidy.init : Tidy LS.init := fun _ => ⟨(fun _ h => by cases h), (fun _ h => by cases h)⟩
theorem push_clean {l : List Wd} {w : Wd} (h1 : ∀ x ∈ l, clean x) (h2 : ∀ c ∈ w, kindB c = 0) : ∀ x ∈ push l w, clean x := by
  intro x hx
  unfold push at hx
  split at hx
  · exact h1 x hx
  · rename_i hne
    rcases List.mem_append.1 hx with hx | hx
    · exact h1 x hx
    · rw [List.mem_singleton] at hx; subst hx; exact ⟨hne, h2⟩
theorem kind_of_other {c : UInt8} (h1 : c ≠ 59) (h2 : c ≠ 32) (h3 : c ≠ 9) (h4 : strayB c = false) : kindB c = 0 := by
  unfold strayB at h4
  simp only [Bool.or_eq_false_iff, decide_eq_false_iff_not] at h4
  unfold kindB
  rw [if_neg (by simp [h2, h3]), if_neg h1, if_pos (by omega)]
theorem Tidy.step {t : LS} (h : Tidy t) (c : UInt8) : Tidy (lstep t c) := by
  intro hb
  unfold lstep at hb ⊢
  split
  · rename_i h0
    rw [if_pos h0] at hb
    obtain ⟨h1, h2⟩ := h hb
    exact ⟨push_clean h1 h2, fun _ h => by cases h⟩
  · rename_i h0
    rw [if_neg h0] at hb
    split
    · rename_i h3
      rw [if_pos h3] at hb
      obtain ⟨h1, h2⟩ := h hb
      exact ⟨push_clean h1 h2, fun _ h => by cases h⟩
    · rename_i h3
      rw [if_neg h3] at hb
      simp only [Bool.or_eq_false_iff] at hb
      obtain ⟨h1, h2⟩ := h hb.1
      refine ⟨h1, fun d hd => ?_⟩
      rcases List.mem_append.1 hd with hd | hd
      · exact h2 d hd
      · rw [List.mem_singleton] at hd
        subst hd
        have h59 : d ≠ 59 := fun e => h0 (.inr e)
        exact kind_of_other h59 (fun e => h3 (.inl e)) (fun e => h3 (.inr e)) hb.2

theorem emit_parts (n : Nat) (out : List Ln) (l : List Wd) : emit n out l = out ++ emit n [] l := by
  unfold emit; split <;> simp
theorem rise_emit {n hi : Nat} {l : List Wd} {L : List Ln} (h : ∀ w ∈ l, clean w) (hn : n ≤ hi) (hL : Rise (n + 1) hi L) : Rise n hi (emit n [] l ++ L) := by
  unfold emit
  split
  · exact hL.wide (by omega) (Nat.le_refl _)
  · rename_i hne
    exact ⟨Nat.le_refl _, hn, hne, h, hL⟩

theorem go_props (l : List UInt8) : ∀ (n : Nat) (out : List Ln) (t : LS) (o : List Ln) (m y : Nat), Tidy t → go n out t l = (o, m, y) →
    (y = 0 → m = 0 ∧ ∃ p, o = out ++ p ∧ Rise n (n + feeds l) p) ∧ (y ≠ 0 → o = [] ∧ m ≤ n + feeds l) := by
  induction l with
  | nil =>
    intro n out t o m y ht h
    rw [go] at h
    cases hb : t.bad with
    | true =>
      rw [hb, if_pos rfl] at h
      simp only [Prod.mk.injEq] at h
      obtain ⟨rfl, rfl, rfl⟩ := h
      exact ⟨(fun h => by cases h), fun _ => ⟨rfl, by omega⟩⟩
    | false =>
      rw [hb, if_neg (by simp)] at h
      simp only [Prod.mk.injEq] at h
      obtain ⟨rfl, rfl, rfl⟩ := h
      obtain ⟨h1, h2⟩ := ht hb
      refine ⟨fun _ => ⟨rfl, emit n [] (push t.l t.w), emit_parts _ _ _, ?_⟩, fun h => absurd rfl h⟩
      have := rise_emit (n := n) (hi := n + feeds []) (L := []) (push_clean h1 h2) (by omega) trivial
      rwa [List.append_nil] at this
  | cons c l ih =>
    intro n out t o m y ht h
    rw [go] at h
    rw [feeds_cons]
    by_cases hc : c = 10
    · rw [if_pos hc] at h
      rw [if_pos hc]
      cases hb : t.bad with
      | true =>
        rw [hb, if_pos rfl] at h
        simp only [Prod.mk.injEq] at h
        obtain ⟨rfl, rfl, rfl⟩ := h
        exact ⟨(fun h => by cases h), fun _ => ⟨rfl, by omega⟩⟩
      | false =>
        rw [hb, if_neg (by simp)] at h
        obtain ⟨i1, i2⟩ := ih _ _ _ _ _ _ Tidy.init h
        obtain ⟨h1, h2⟩ := ht hb
        refine ⟨fun hy => ?_, fun hy => ⟨(i2 hy).1, by have := (i2 hy).2; omega⟩⟩
        obtain ⟨j1, p, j2, j3⟩ := i1 hy
        refine ⟨j1, emit n [] (push t.l t.w) ++ p, by rw [j2, emit_parts, List.append_assoc], ?_⟩
        exact rise_emit (push_clean h1 h2) (by omega) (j3.wide (Nat.le_refl _) (by omega))
    · rw [if_neg hc] at h
      rw [if_neg hc]
      obtain ⟨i1, i2⟩ := ih _ _ _ _ _ _ (ht.step c) h
      exact ⟨fun hy => by obtain ⟨j1, p, j2, j3⟩ := i1 hy; exact ⟨j1, p, j2, j3.wide (Nat.le_refl _) (by omega)⟩, fun hy => ⟨(i2 hy).1, by have := (i2 hy).2; omega⟩⟩

theorem split_props {l : List UInt8} {o : List Ln} {m y : Nat} (h : splitV l = (o, m, y)) :
    (y = 0 → m = 0 ∧ Rise 1 (1 + feeds l) o) ∧ (y ≠ 0 → o = [] ∧ m ≤ 1 + feeds l) := by
  unfold splitV at h
  split at h
  · simp only [Prod.mk.injEq] at h
    obtain ⟨rfl, rfl, rfl⟩ := h
    exact ⟨(fun h => by cases h), fun _ => ⟨rfl, by omega⟩⟩
  · obtain ⟨h1, h2⟩ := go_props l 1 [] LS.init o m y Tidy.init h
    exact ⟨fun hy => by obtain ⟨j1, p, j2, j3⟩ := h1 hy; rw [List.nil_append] at j2; subst j2; exact ⟨j1, j3⟩, h2⟩

/-! ### further on -/
/-- The same lines, k further on. -/
def sh (k : Nat) (L : List Ln) : List Ln := L.map fun x => (x.1 + k, x.2)
theorem sh_words (k : Nat) (L : List Ln) : (sh k L).map (fun x => x.2) = L.map fun x => x.2 := by unfold sh; rw [List.map_map]; rfl
theorem emit_sh (n k : Nat) (l : List Wd) : emit (n + k) [] l = sh k (emit n [] l) := by unfold emit; split <;> rfl

theorem go_moves (s : List UInt8) : ∀ (n : Nat) (out : List Ln) (t : LS) (o : List Ln), go n out t s = (o, 0, 0) → ∃ p, o = out ++ p ∧ ∀ (k : Nat) (out1 : List Ln), go (n + k) out1 t s = (out1 ++ sh k p, 0, 0) := by
  induction s with
  | nil =>
    intro n out t o h
    rw [go] at h
    cases hb : t.bad with
    | true => rw [hb, if_pos rfl] at h; simp at h
    | false =>
      rw [hb, if_neg (by simp)] at h
      simp only [Prod.mk.injEq, and_true] at h
      refine ⟨emit n [] (push t.l t.w), by rw [← h]; exact emit_parts _ _ _, fun k out1 => ?_⟩
      rw [go, hb, if_neg (by simp), emit_parts, emit_sh]
  | cons c s ih =>
    intro n out t o h
    rw [go] at h
    by_cases hc : c = 10
    · rw [if_pos hc] at h
      cases hb : t.bad with
      | true => rw [hb, if_pos rfl] at h; simp at h
      | false =>
        rw [hb, if_neg (by simp)] at h
        obtain ⟨p, h1, h2⟩ := ih _ _ _ _ h
        refine ⟨emit n [] (push t.l t.w) ++ p, by rw [h1, emit_parts, List.append_assoc], fun k out1 => ?_⟩
        rw [go, if_pos hc, hb, if_neg (by simp), show n + k + 1 = n + 1 + k by omega, h2, emit_parts, emit_sh]
        unfold sh; simp
    · rw [if_neg hc] at h
      obtain ⟨p, h1, h2⟩ := ih _ _ _ _ h
      exact ⟨p, h1, fun k out1 => by rw [go, if_neg hc, h2]⟩

/-- A text behind a line feed behind another one. -/
theorem go_behind (s : List UInt8) : ∀ (n : Nat) (out : List Ln) (t : LS) (o : List Ln) (r : List UInt8), go n out t s = (o, 0, 0) → go n out t (s ++ 10 :: r) = go (n + feeds s + 1) o LS.init r := by
  induction s with
  | nil =>
    intro n out t o r h
    rw [go] at h
    cases hb : t.bad with
    | true => rw [hb, if_pos rfl] at h; simp at h
    | false =>
      rw [hb, if_neg (by simp)] at h
      simp only [Prod.mk.injEq, and_true] at h
      rw [List.nil_append, go, if_pos rfl, hb, if_neg (by simp), h]
      rfl
  | cons c s ih =>
    intro n out t o r h
    rw [go] at h
    rw [List.cons_append, go, feeds_cons]
    by_cases hc : c = 10
    · rw [if_pos hc] at h
      rw [if_pos hc, if_pos hc]
      cases hb : t.bad with
      | true => rw [hb, if_pos rfl] at h; simp at h
      | false =>
        rw [hb, if_neg (by simp)] at h
        rw [if_neg (by simp), ih _ _ _ _ _ h, show n + 1 + feeds s + 1 = n + (1 + feeds s) + 1 by omega]
    · rw [if_neg hc] at h
      rw [if_neg hc, if_neg hc, ih _ _ _ _ _ h, show n + (0 + feeds s) + 1 = n + feeds s + 1 by omega]

theorem go_of_split {l : List UInt8} {o : List Ln} {m : Nat} (h : splitV l = (o, m, 0)) : go 1 [] LS.init l = (o, 0, 0) := by
  have hm := ((split_props h).1 rfl).1
  subst hm
  unfold splitV at h
  split at h
  · simp at h
  · exact h
theorem split_of_go {l : List UInt8} {r : Res} (h : go 1 [] LS.init l = r) (hl : l.length ≤ 4194304) : splitV l = r := by
  unfold splitV; rw [if_neg (by omega)]; exact h

/-- P4.1: the lines of a text behind a line feed are those of what is ahead, and those of what is behind, further on. -/
theorem parts {s t : List UInt8} {a b : List Ln} {m1 m2 : Nat} (h1 : splitV s = (a, m1, 0)) (h2 : splitV t = (b, m2, 0)) (hl : s.length + t.length + 1 ≤ 4194304) : splitV (s ++ 10 :: t) = (a ++ sh (1 + feeds s) b, 0, 0) := by
  have g1 := go_of_split h1
  have g2 := go_of_split h2
  refine split_of_go ?_ (by simp; omega)
  rw [go_behind s 1 [] LS.init a t g1]
  obtain ⟨p, e, hp⟩ := go_moves t 1 [] LS.init b g2
  rw [List.nil_append] at e
  subst e
  rw [show 1 + feeds s + 1 = 1 + (1 + feeds s) by omega, hp]

/-! ### written and read again -/
theorem go_word (x : Wd) (hx : ∀ c ∈ x, kindB c = 0) : ∀ (n : Nat) (out : List Ln) (l : List Wd) (w : Wd) (r : List UInt8), go n out ⟨l, w, false, false⟩ (x ++ r) = go n out ⟨l, w ++ x, false, false⟩ r := by
  induction x with
  | nil => intro n out l w r; simp
  | cons c x ih =>
    intro n out l w r
    have hc := hx c (by simp)
    have h10 : c ≠ 10 := by intro e; subst e; revert hc; decide
    rw [List.cons_append, go, if_neg h10, lstep_part hc, ih fun d hd => hx d (by simp [hd])]
    simp
theorem go_tail (ws : List Wd) (hw : ∀ x ∈ ws, clean x) : ∀ (n : Nat) (out : List Ln) (l : List Wd) (w : Wd) (r : List UInt8), w ≠ [] →
    go n out ⟨l, w, false, false⟩ ((ws.flatMap fun x => 32 :: x) ++ 10 :: r) = go (n + 1) (out ++ [(n, l ++ w :: ws)]) LS.init r := by
  induction ws with
  | nil =>
    intro n out l w r hne
    rw [List.flatMap_nil, List.nil_append, go, if_pos rfl, if_neg (by simp)]
    unfold push emit
    rw [if_neg hne, if_neg (by simp)]
  | cons x ws ih =>
    intro n out l w r hne
    have hx := hw x (by simp)
    rw [List.flatMap_cons, List.cons_append, List.cons_append, List.append_assoc, go, if_neg (by decide), lstep_gap (by decide), go_word x hx.2, List.nil_append, ih (fun y hy => hw y (by simp [hy])) n out _ x r hx.1]
    unfold push
    rw [if_neg hne]
    simp
theorem go_line (ws : List Wd) (hne : ws ≠ []) (hw : ∀ x ∈ ws, clean x) (n : Nat) (out : List Ln) (r : List UInt8) : go n out LS.init (lineJ ws ++ 10 :: r) = go (n + 1) (out ++ [(n, ws)]) LS.init r := by
  cases ws with
  | nil => exact absurd rfl hne
  | cons w ws =>
    have h := hw w (by simp)
    unfold lineJ LS.init
    rw [List.append_assoc, go_word w h.2, List.nil_append, go_tail ws (fun y hy => hw y (by simp [hy])) n out [] w r h.1]
    rfl
/-- Lines, numbered from n on. -/
def number (n : Nat) : List (List Wd) → List Ln
  | [] => []
  | ws :: L => (n, ws) :: number (n + 1) L
theorem number_words (L : List (List Wd)) : ∀ n, (number n L).map (fun x => x.2) = L := by
  induction L with
  | nil => intro n; rfl
  | cons ws L ih => intro n; simp [number, ih]
theorem go_join (L : List (List Wd)) (h : ∀ ws ∈ L, ws ≠ [] ∧ ∀ x ∈ ws, clean x) : ∀ (n : Nat) (out : List Ln), go n out LS.init (joinV L) = (out ++ number n L, 0, 0) := by
  induction L with
  | nil => intro n out; simp [joinV, go, LS.init, push, emit, number]
  | cons ws L ih =>
    intro n out
    have hw := h ws (by simp)
    have e : joinV (ws :: L) = lineJ ws ++ 10 :: joinV L := by unfold joinV; simp
    rw [e, go_line ws hw.1 hw.2, ih fun y hy => h y (by simp [hy])]
    simp [number]
theorem rise_clean {L : List Ln} : ∀ {lo hi : Nat}, Rise lo hi L → ∀ ws ∈ L.map (fun x => x.2), ws ≠ [] ∧ ∀ x ∈ ws, clean x := by
  induction L with
  | nil => intro lo hi _ ws h; simp at h
  | cons x L ih =>
    intro lo hi ⟨_, _, h3, h4, h5⟩ ws h
    rw [List.map_cons, List.mem_cons] at h
    rcases h with rfl | h
    · exact ⟨h3, h4⟩
    · exact ih h5 ws h

/-! ### how long a text of lines is -/
def wlen (l : List Wd) : Nat := (l.map fun x => x.length + 1).sum
theorem wlen_push (l : List Wd) (w : Wd) : wlen (push l w) ≤ wlen l + w.length + 1 := by
  unfold push; split
  · omega
  · unfold wlen; rw [List.map_append, List.sum_append]; simp; omega
theorem lineJ_wlen (ws : List Wd) (h : ws ≠ []) : (lineJ ws).length + 1 = wlen ws := by
  cases ws with
  | nil => exact absurd rfl h
  | cons w ws =>
    have : (ws.flatMap fun x => (32 : UInt8) :: x).length = wlen ws := by
      induction ws with
      | nil => rfl
      | cons a ws ih => simp only [List.flatMap_cons, List.length_append, List.length_cons, ih (by simp)]; unfold wlen; simp
    simp only [lineJ, List.length_append, this]
    unfold wlen; simp; omega
theorem joinV_append (A B : List (List Wd)) : joinV (A ++ B) = joinV A ++ joinV B := List.flatMap_append
theorem join_emit (n : Nat) (out : List Ln) (l : List Wd) : (joinV ((emit n out l).map fun x => x.2)).length ≤ (joinV (out.map fun x => x.2)).length + wlen l := by
  unfold emit; split
  · omega
  · rename_i h
    rw [List.map_append, joinV_append, List.length_append]
    have : joinV ([(n, l)].map fun x : Ln => x.2) = lineJ l ++ [10] := by simp [joinV]
    rw [this, List.length_append, List.length_singleton, lineJ_wlen l h]
    omega
theorem go_len (s : List UInt8) : ∀ (n : Nat) (out : List Ln) (t : LS) (o : List Ln), go n out t s = (o, 0, 0) →
    (joinV (o.map fun x => x.2)).length ≤ (joinV (out.map fun x => x.2)).length + wlen t.l + t.w.length + 1 + 2 * s.length := by
  induction s with
  | nil =>
    intro n out t o h
    rw [go] at h
    cases hb : t.bad with
    | true => rw [hb, if_pos rfl] at h; simp at h
    | false =>
      rw [hb, if_neg (by simp)] at h
      simp only [Prod.mk.injEq, and_true] at h
      subst h
      have h1 := join_emit n out (push t.l t.w)
      have h2 := wlen_push t.l t.w
      omega
  | cons c s ih =>
    intro n out t o h
    rw [go] at h
    rw [List.length_cons]
    by_cases hc : c = 10
    · rw [if_pos hc] at h
      cases hb : t.bad with
      | true => rw [hb, if_pos rfl] at h; simp at h
      | false =>
        rw [hb, if_neg (by simp)] at h
        have h0 := ih _ _ _ _ h
        have h1 := join_emit n out (push t.l t.w)
        have h2 := wlen_push t.l t.w
        have h3 : wlen LS.init.l = 0 := rfl
        have h4 : LS.init.w.length = 0 := rfl
        omega
    · rw [if_neg hc] at h
      have h0 := ih _ _ _ _ h
      have h2 := wlen_push t.l t.w
      have h3 : wlen (lstep t c).l + (lstep t c).w.length ≤ wlen t.l + t.w.length + 1 := by
        unfold lstep; split
        · simp only [List.length_nil]; omega
        · split
          · simp only [List.length_nil]; omega
          · simp only [List.length_append, List.length_singleton]; omega
      omega

/-- P4.3: what was told, written, and read again. -/
theorem again {s : List UInt8} {o : List Ln} {m : Nat} (h : splitV s = (o, m, 0)) (hs : s.length ≤ 30000) :
    (joinV (o.map fun x => x.2)).length ≤ 60001 ∧ splitV (joinV (o.map fun x => x.2)) = (number 1 (o.map fun x => x.2), 0, 0) := by
  have g := go_of_split h
  have hl := go_len s 1 [] LS.init o g
  have h3 : wlen LS.init.l = 0 := rfl
  have h4 : LS.init.w.length = 0 := rfl
  have h5 : (joinV (([] : List Ln).map fun x => x.2)).length = 0 := rfl
  refine ⟨by omega, split_of_go ?_ (by omega)⟩
  have hr := ((split_props h).1 rfl).2
  rw [go_join _ (rise_clean hr)]
  rfl

/-! ### blanks and remarks -/
/-- Each blank as blank, tab, blank. -/
def widen (s : List UInt8) : List UInt8 := s.flatMap fun c => if c = 32 then [32, 9, 32] else [c]
theorem lstep_blanks (t : LS) : lstep (lstep (lstep t 32) 9) 32 = lstep t 32 := by
  obtain ⟨l, w, r, b⟩ := t
  cases r <;> simp [lstep, push]
theorem go_widen (s : List UInt8) : ∀ (n : Nat) (out : List Ln) (t : LS) (r : List UInt8), go n out t (widen s ++ r) = go n out t (s ++ r) := by
  induction s with
  | nil => intro n out t r; rfl
  | cons c s ih =>
    intro n out t r
    have e : widen (c :: s) = (if c = 32 then [32, 9, 32] else [c]) ++ widen s := rfl
    rw [e]
    by_cases h : c = 32
    · subst h
      rw [if_pos rfl]
      show go n out t (32 :: 9 :: 32 :: (widen s ++ r)) = go n out t (32 :: (s ++ r))
      rw [go, if_neg (by decide), go, if_neg (by decide), go, if_neg (by decide), lstep_blanks, ih, go, if_neg (by decide)]
    · rw [if_neg h]
      show go n out t (c :: (widen s ++ r)) = go n out t (c :: (s ++ r))
      rw [go, go]
      by_cases hc : c = 10
      · rw [if_pos hc, if_pos hc]; split
        · rfl
        · exact ih _ _ _ _
      · rw [if_neg hc, if_neg hc]; exact ih _ _ _ _
theorem go_rem (r : List UInt8) (h : ∀ c ∈ r, c ≠ 10) : ∀ (n : Nat) (out : List Ln) (l : List Wd), go n out ⟨l, [], true, false⟩ r = (emit n out l, 0, 0) := by
  induction r with
  | nil => intro n out l; rw [go, if_neg (by simp)]; simp [push]
  | cons c r ih =>
    intro n out l
    rw [go, if_neg (h c (by simp)), lstep_rem rfl rfl]
    exact ih (fun d hd => h d (by simp [hd])) n out l
theorem go_remark (s : List UInt8) (r : List UInt8) (hr : ∀ c ∈ r, c ≠ 10) : ∀ (n : Nat) (out : List Ln) (t : LS) (o : List Ln), go n out t s = (o, 0, 0) → go n out t (s ++ 59 :: r) = (o, 0, 0) := by
  induction s with
  | nil =>
    intro n out t o h
    rw [go] at h
    cases hb : t.bad with
    | true => rw [hb, if_pos rfl] at h; simp at h
    | false =>
      rw [hb, if_neg (by simp)] at h
      have e : lstep t 59 = ⟨push t.l t.w, [], true, false⟩ := by unfold lstep; rw [if_pos (.inr rfl), hb]
      rw [List.nil_append, go, if_neg (by decide), e, go_rem r hr, h]
  | cons c s ih =>
    intro n out t o h
    rw [go] at h
    rw [List.cons_append, go]
    by_cases hc : c = 10
    · rw [if_pos hc] at h ⊢
      cases hb : t.bad with
      | true => rw [hb, if_pos rfl] at h; simp at h
      | false =>
        rw [hb, if_neg (by simp)] at h
        rw [if_neg (by simp)]
        exact ih _ _ _ _ h
    · rw [if_neg hc] at h ⊢
      exact ih _ _ _ _ h
/-- a line, a line of blanks, ahead. -/
theorem go_ahead (r : List UInt8) : go 1 [] LS.init ([10, 32, 9, 10] ++ r) = go 3 [] LS.init r := by
  show go 1 [] LS.init (10 :: 32 :: 9 :: 10 :: r) = _
  rw [go, if_pos rfl, if_neg (by simp [LS.init]), go, if_neg (by decide), go, if_neg (by decide), go, if_pos rfl, if_neg (by simp [lstep, LS.init])]
  rfl
theorem widen_len (s : List UInt8) : (widen s).length ≤ 3 * s.length := by
  induction s with
  | nil => exact Nat.le_refl _
  | cons c s ih =>
    have e : widen (c :: s) = (if c = 32 then [32, 9, 32] else [c]) ++ widen s := rfl
    rw [e, List.length_append, List.length_cons]
    split
    · simp; omega
    · simp; omega
theorem widen_next (l : List UInt8) (c : UInt8) : widen (l ++ [c]) = widen l ++ if c = 32 then [32, 9, 32] else [c] := by unfold widen; simp

/-- P4.3: remarks, blanks and empty lines more. -/
theorem blanks {s r : List UInt8} {o : List Ln} {m : Nat} (h : splitV s = (o, m, 0)) (hs : s.length ≤ 30000) : splitV ([10, 32, 9, 10] ++ widen s) = (sh 2 o, 0, 0) ∧
    ((∀ c ∈ r, c ≠ 10) → r.length ≤ 1000 → splitV ([10, 32, 9, 10] ++ widen s ++ 59 :: r) = (sh 2 o, 0, 0)) := by
  have g := go_of_split h
  obtain ⟨p, e, hp⟩ := go_moves s 1 [] LS.init o g
  rw [List.nil_append] at e
  subst e
  have g3 := hp 2 []
  rw [List.nil_append] at g3
  have hw := widen_len s
  refine ⟨split_of_go ?_ (by simp; omega), fun hr hrl => split_of_go ?_ (by simp; omega)⟩
  · rw [go_ahead]
    have := go_widen s 3 [] LS.init []
    rw [List.append_nil, List.append_nil] at this
    rw [this]; exact g3
  · rw [List.append_assoc, go_ahead, go_widen]
    exact go_remark s r hr 3 [] LS.init _ g3
end Go.Proofs.YtikfncgdjnljiaaDoor.LinesM

namespace Go.Proofs.YtikfncgdjnljiaaDoor.LinesM

theorem push_small {M : Nat} {l : List Wd} {w : Wd} (h1 : ∀ y ∈ l, y.length ≤ M) (h2 : w.length ≤ M) : ∀ y ∈ push l w, y.length ≤ M := by
  unfold push
  split
  · exact h1
  · intro y hy
    rcases List.mem_append.1 hy with hy | hy
    · exact h1 y hy
    · rw [List.mem_singleton] at hy; subst hy; exact h2
theorem emit_small {M n : Nat} {out : List Ln} {l : List Wd} (h1 : ∀ x ∈ out, ∀ y ∈ x.2, y.length ≤ M) (h2 : ∀ y ∈ l, y.length ≤ M) : ∀ x ∈ emit n out l, ∀ y ∈ x.2, y.length ≤ M := by
  unfold emit
  split
  · exact h1
  · intro x hx
    rcases List.mem_append.1 hx with hx | hx
    · exact h1 x hx
    · rw [List.mem_singleton] at hx; subst hx; exact h2
theorem go_small {M : Nat} (s : List UInt8) : ∀ (n : Nat) (out : List Ln) (t : LS) (o : List Ln), go n out t s = (o, 0, 0) → (∀ x ∈ out, ∀ y ∈ x.2, y.length ≤ M) → (∀ y ∈ t.l, y.length ≤ M) → t.w.length + s.length ≤ M → ∀ x ∈ o, ∀ y ∈ x.2, y.length ≤ M := by
  induction s with
  | nil =>
    intro n out t o h h1 h2 h3
    rw [go] at h
    cases hb : t.bad with
    | true => rw [hb, if_pos rfl] at h; simp at h
    | false =>
      rw [hb, if_neg (by simp)] at h
      simp only [Prod.mk.injEq, and_true] at h
      subst h
      exact emit_small h1 (push_small h2 (by omega))
  | cons c s ih =>
    intro n out t o h h1 h2 h3
    rw [go] at h
    rw [List.length_cons] at h3
    by_cases hc : c = 10
    · rw [if_pos hc] at h
      cases hb : t.bad with
      | true => rw [hb, if_pos rfl] at h; simp at h
      | false =>
        rw [hb, if_neg (by simp)] at h
        exact ih _ _ _ _ h (emit_small h1 (push_small h2 (by omega))) (fun _ hy => absurd hy List.not_mem_nil) (by show 0 + s.length ≤ M; omega)
    · rw [if_neg hc] at h
      refine ih _ _ _ _ h h1 ?_ ?_
      · unfold lstep; split
        · exact push_small h2 (by omega)
        · split
          · exact push_small h2 (by omega)
          · exact h2
      · unfold lstep; split
        · simp only [List.length_nil]; omega
        · split
          · simp only [List.length_nil]; omega
          · simp only [List.length_append, List.length_singleton]; omega
theorem wlen_many (ws : List Wd) (h : ∀ y ∈ ws, y ≠ []) : 2 * ws.length ≤ wlen ws := by
  induction ws with
  | nil => exact Nat.le_refl 0
  | cons w ws ih =>
    have h1 := ih fun y hy => h y (List.mem_cons_of_mem _ hy)
    have h2 : w ≠ [] := h w List.mem_cons_self
    have h3 : 0 < w.length := List.length_pos_iff.2 h2
    have e : wlen (w :: ws) = (w.length + 1) + wlen ws := by unfold wlen; simp
    rw [e, List.length_cons]
    omega
theorem join_one {L : List (List Wd)} {ws : List Wd} (h : ws ∈ L) : (lineJ ws).length + 1 ≤ (joinV L).length := by
  induction L with
  | nil => cases h
  | cons a L ih =>
    have e : (joinV (a :: L)).length = (lineJ a).length + 1 + (joinV L).length := by unfold joinV; simp; omega
    rw [e]
    rcases List.mem_cons.1 h with rfl | h
    · omega
    · have := ih h; omega
theorem split_small {s : List UInt8} {o : List Ln} {m : Nat} (h : splitV s = (o, m, 0)) (hs : s.length ≤ 4194304) : ∀ x ∈ o, x.2 ≠ [] ∧ x.2.length ≤ 4194304 ∧ ∀ y ∈ x.2, y.length ≤ 4194304 := by
  have g := go_of_split h
  have hl := go_len s 1 [] LS.init o g
  have h3 : wlen LS.init.l = 0 := rfl
  have h4 : LS.init.w.length = 0 := rfl
  have h5 : (joinV (([] : List Ln).map fun x => x.2)).length = 0 := rfl
  have hr := ((split_props h).1 rfl).2
  have hw := go_small (M := 4194304) s 1 [] LS.init o g (fun _ hx => absurd hx List.not_mem_nil) (fun _ hy => absurd hy List.not_mem_nil) (by omega)
  intro x hx
  obtain ⟨c1, c2⟩ := rise_clean hr x.2 (List.mem_map.2 ⟨x, hx, rfl⟩)
  refine ⟨c1, ?_, hw x hx⟩
  have j1 := join_one (L := o.map fun x => x.2) (List.mem_map.2 ⟨x, hx, rfl⟩)
  have j2 := lineJ_wlen x.2 c1
  have j3 := wlen_many x.2 fun y hy => (c2 y hy).1
  omega
end Go.Proofs.YtikfncgdjnljiaaDoor.LinesM
