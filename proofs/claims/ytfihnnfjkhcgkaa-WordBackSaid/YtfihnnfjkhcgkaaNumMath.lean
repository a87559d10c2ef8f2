/-
  Plain facts on whole numbers of 64 bits: what num.Do and the document's Do come to, digits there and back. No program is named here.
-/
import Derived.WalkKit
import Derived.WalkLawsBesides
namespace Go.Proofs.Ytfihnnfjkhcgkaa.NumM
open Go.RowKit

def lo : Int := -9223372036854775808
def hi : Int := 9223372036854775807
def In (a : Int) : Prop := -9223372036854775808 ≤ a ∧ a ≤ 9223372036854775807
def In64 (a : Int) : Prop := 0 ≤ a ∧ a < 18446744073709551616

theorem w64 (n : Int) : wrap64 n = (n + 9223372036854775808) % 18446744073709551616 - 9223372036854775808 := by unfold wrap64; rfl
theorem wu64 (n : Int) : IntKind.u64.wrap n = n % 18446744073709551616 := by simp [IntKind.wrap, IntKind.bits, IntKind.signed]
theorem wi64 (n : Int) : IntKind.i64.wrap n = wrap64 n := by
  rw [w64]; simp [IntKind.wrap, IntKind.bits, IntKind.signed]; split <;> omega
theorem wrap_in {n : Int} (h : In n) : wrap64 n = n := by rw [w64]; unfold In at h; omega
theorem in_wrap (n : Int) : In (wrap64 n) := by rw [w64]; unfold In; omega
theorem in_of_wf {n : Int} (h : (Lit.int .i64 n).wf = true) : In n := by
  have h' : IntKind.i64.min ≤ n ∧ n ≤ IntKind.i64.max := by simpa [Lit.wf] using h
  have e1 : IntKind.i64.min = -9223372036854775808 := by decide
  have e2 : IntKind.i64.max = 9223372036854775807 := by decide
  rw [e1, e2] at h'; exact h'

/-- a truth. -/
def tr (b : Bool) : Int := if b then 1 else 0

/-- the value part of Do. -/
def doV (op a b : Int) : Int :=
  if op = 1 then wrap64 (a + b) else if op = 2 then wrap64 (a - b) else if op = 3 then wrap64 (a * b)
  else if op = 4 then (if b = 0 then 0 else wrap64 (a.tdiv b)) else if op = 5 then (if b = 0 then 0 else a.tmod b)
  else if op = 6 then bits .and .i64 a b else if op = 7 then bits .or .i64 a b else if op = 8 then bits .xor .i64 a b
  else if op = 9 then wrap64 (a * 2 ^ (b % 64).toNat) else if op = 10 then a / 2 ^ (b % 64).toNat
  else if op = 11 then tr (a == b) else if op = 12 then tr (a != b) else if op = 13 then tr (decide (a < b)) else if op = 14 then tr (decide (a ≤ b))
  else 0
/-- the truth part of Do. -/
def doK (op b : Int) : Bool := if op = 4 ∨ op = 5 then decide (b ≠ 0) else decide (1 ≤ op ∧ op ≤ 14)

theorem bits_and_u64 (a b : Int) : bits .and .u64 a b = IntKind.u64.wrap ((BitVec.ofInt 64 a &&& BitVec.ofInt 64 b).toNat : Int) := rfl
theorem bits_and_i64 (a b : Int) : bits .and .i64 a b = IntKind.i64.wrap ((BitVec.ofInt 64 a &&& BitVec.ofInt 64 b).toNat : Int) := rfl
theorem bits_or_i64 (a b : Int) : bits .or .i64 a b = IntKind.i64.wrap ((BitVec.ofInt 64 a ||| BitVec.ofInt 64 b).toNat : Int) := rfl
theorem bits_xor_i64 (a b : Int) : bits .xor .i64 a b = IntKind.i64.wrap ((BitVec.ofInt 64 a ^^^ BitVec.ofInt 64 b).toNat : Int) := rfl

theorem low_six (b : Int) : bits .and .u64 (IntKind.u64.wrap b) 63 = b % 64 := by
  rw [bits_and_u64, wu64, wu64, BitVec.toNat_and, BitVec.toNat_ofInt, BitVec.toNat_ofInt]
  rw [show (63 % ((2 ^ 64 : Nat) : Int)).toNat = 2 ^ 6 - 1 from by decide, Nat.and_two_pow_sub_one_eq_mod]
  omega


/-- the byte of a digit. -/
def dig (r : Nat) : UInt8 := UInt8.ofNat (48 + r % 10)
/-- a number's digits, the first one ahead of what stands behind them. -/
def digsF : Nat → Nat → List UInt8 → List UInt8
  | 0, _, l => l
  | f + 1, r, l => if r / 10 = 0 then dig r :: l else digsF f (r / 10) (dig r :: l)
def digs (r : Nat) : List UInt8 := digsF (r + 1) r []
/-- r's digits ahead of l are m's. -/
def Digs (m r : Nat) (l : List UInt8) : Prop := digs m = digs r ++ l

theorem digsF_app : ∀ (f r : Nat) (l : List UInt8), digsF f r l = digsF f r [] ++ l
  | 0, _, _ => by simp [digsF]
  | f + 1, r, l => by
    simp only [digsF]
    split
    · simp
    · rw [digsF_app f (r / 10) (dig r :: l), digsF_app f (r / 10) [dig r]]; simp
theorem digsF_fuel : ∀ (f g r : Nat), r < f → r < g → digsF f r [] = digsF g r []
  | 0, _, _, h, _ => by omega
  | _ + 1, 0, _, _, h => by omega
  | f + 1, g + 1, r, h, h' => by
    simp only [digsF]
    split
    · rfl
    · rw [digsF_app f, digsF_app g, digsF_fuel f g (r / 10) (by omega) (by omega)]
theorem digs_last (r : Nat) : digs r = if r / 10 = 0 then [dig r] else digs (r / 10) ++ [dig r] := by
  unfold digs
  rw [show r + 1 = r + 1 from rfl, digsF]
  split
  · rfl
  · rw [digsF_app r, digsF_fuel r (r / 10 + 1) (r / 10) (by omega) (by omega)]

theorem dig_val (r : Nat) : ((dig r).toNat : Int) = 48 + (r : Int) % 10 := by
  have : (dig r).toNat = 48 + r % 10 := by
    unfold dig
    rw [UInt8.toNat_ofNat']
    omega
  omega
/-- the text of a number. -/
def dec (n : Int) : List UInt8 := if n < 0 then 45 :: digs n.natAbs else digs n.natAbs
theorem Digs.start (m : Nat) : Digs m m [] := by unfold Digs; simp
theorem Digs.more {m r : Nat} {l : List UInt8} (h : Digs m r l) (hr : ¬ r / 10 = 0) : Digs m (r / 10) (dig r :: l) := by
  unfold Digs at h ⊢; rw [h, digs_last r, if_neg hr]; simp
theorem Digs.last {m r : Nat} {l : List UInt8} (h : Digs m r l) (hr : r / 10 = 0) : digs m = dig r :: l := by
  unfold Digs at h; rw [h, digs_last r, if_pos hr]; simp

/-- one step of num.read, and of all steps. -/
def rdStep (n : Int) (c : UInt8) : Int := wrap64 (wrap64 (n * 10) + ((c.toNat : Int) - 48) % 256)
def rd (l : List UInt8) : Int := l.foldl rdStep 0
def readV (l : List UInt8) : Int := if l.head? = some 45 then wrap64 (-rd l.tail) else rd l
/-- num.Get. -/
def getV (l : List UInt8) : Int × Bool := if 20 < l.length then (0, false) else if dec (readV l) = l then (readV l, true) else (0, false)

theorem rd_snoc (l : List UInt8) (c : UInt8) : rd (l ++ [c]) = rdStep (rd l) c := by simp [rd]
theorem in_rd (l : List UInt8) : In (rd l) := by
  unfold rd
  suffices h : ∀ (l : List UInt8) (a : Int), In a → In (l.foldl rdStep a) from h l 0 (by unfold In; omega)
  intro l
  induction l with
  | nil => intro a h; exact h
  | cons c l ih => intro a _; exact ih _ (in_wrap _)
theorem in_readV (l : List UInt8) : In (readV l) := by
  unfold readV; split
  · exact in_wrap _
  · exact in_rd l
/-! ### going round -/
theorem wrap_off (x : Int) : ∃ k, wrap64 x = x + 18446744073709551616 * k := ⟨-((x + 9223372036854775808) / 18446744073709551616), by rw [w64]; omega⟩
theorem wrap_add (x k : Int) : wrap64 (x + 18446744073709551616 * k) = wrap64 x := by rw [w64, w64]; omega
theorem wrap_addl (x y : Int) : wrap64 (wrap64 x + y) = wrap64 (x + y) := by rw [w64, w64, w64]; omega
theorem wrap_addr (x y : Int) : wrap64 (x + wrap64 y) = wrap64 (x + y) := by rw [w64, w64, w64]; omega
theorem wrap_subl (x y : Int) : wrap64 (wrap64 x - y) = wrap64 (x - y) := by rw [w64, w64, w64]; omega
theorem wrap_subr (x y : Int) : wrap64 (x - wrap64 y) = wrap64 (x - y) := by rw [w64, w64, w64]; omega
theorem wrap_mull (x y : Int) : wrap64 (wrap64 x * y) = wrap64 (x * y) := by
  obtain ⟨k, hk⟩ := wrap_off x
  rw [hk, Int.add_mul, Int.mul_assoc, wrap_add]
theorem wrap_mulr (x y : Int) : wrap64 (x * wrap64 y) = wrap64 (x * y) := by rw [Int.mul_comm, wrap_mull, Int.mul_comm]

theorem v1 (a b : Int) : doV 1 a b = wrap64 (a + b) := rfl
theorem v2 (a b : Int) : doV 2 a b = wrap64 (a - b) := rfl
theorem v3 (a b : Int) : doV 3 a b = wrap64 (a * b) := rfl
theorem v6 (a b : Int) : doV 6 a b = bits .and .i64 a b := rfl
theorem v7 (a b : Int) : doV 7 a b = bits .or .i64 a b := rfl
theorem v8 (a b : Int) : doV 8 a b = bits .xor .i64 a b := rfl
theorem v9 (a b : Int) : doV 9 a b = wrap64 (a * 2 ^ (b % 64).toNat) := rfl
theorem v10 (a b : Int) : doV 10 a b = a / 2 ^ (b % 64).toNat := rfl

end Go.Proofs.Ytfihnnfjkhcgkaa.NumM
