/-
  Plain facts on the text of a float: sixteen digits, there and back. No program is named here.
-/
import Derived.Test.YtfihnnfjkhcgkaaFloMath
namespace Go.Proofs.Ytfihnnfjkhcgkaa.FloM
open Go.RowKit NumM

/-- the byte of a digit. -/
def hx (r : Nat) : UInt8 := if r % 16 < 10 then UInt8.ofNat (48 + r % 16) else UInt8.ofNat (87 + r % 16)
theorem hx_val (r : Nat) : ((hx r).toNat : Int) = if r % 16 < 10 then 48 + (r : Int) % 16 else 87 + (r : Int) % 16 := by
  unfold hx
  split <;> rw [UInt8.toNat_ofNat'] <;> omega
/-- the last k digits of a number. -/
def hexs : Nat → Nat → List UInt8
  | 0, _ => []
  | k + 1, u => hexs k (u / 16) ++ [hx u]
theorem hexs_len : ∀ (k u : Nat), (hexs k u).length = k
  | 0, _ => rfl
  | k + 1, u => by simp [hexs, hexs_len k]
/-- r's last k digits ahead of l are m's. -/
def Hexs (m k r : Nat) (l : List UInt8) : Prop := hexs 16 m = hexs k r ++ l
theorem Hexs.start (m : Nat) : Hexs m 16 m [] := by unfold Hexs; simp
theorem Hexs.more {m k r : Nat} {l : List UInt8} (h : Hexs m (k + 1) r l) : Hexs m k (r / 16) (hx r :: l) := by
  unfold Hexs at h ⊢; rw [h]; simp [hexs]
theorem Hexs.last {m r : Nat} {l : List UInt8} (h : Hexs m 0 r l) : hexs 16 m = l := by
  unfold Hexs at h; rw [h]; simp [hexs]

/-- a float's text. -/
def putV (n : Int) : List UInt8 := [48, 102] ++ hexs 16 (fl n)

/-- flo.digit; one step of flo.read, and of all steps. -/
def dgV (c : UInt8) : Int := if 97 ≤ (c.toNat : Int) then (c.toNat : Int) - 87 else ((c.toNat : Int) - 48) % 256
def fstep (n : Int) (c : UInt8) : Int := bits .or .i64 (wrap64 (n * 16)) (dgV c)
def frd (l : List UInt8) : Int := l.foldl fstep 0
/-- flo.Get. -/
def fgetV (l : List UInt8) : Int × Bool := if l.length = 18 then (if putV (frd (l.drop 2)) = l then (frd (l.drop 2), true) else (0, false)) else (0, false)
theorem frd_snoc (l : List UInt8) (c : UInt8) : frd (l ++ [c]) = fstep (frd l) c := by simp [frd]
theorem in_frd (l : List UInt8) : In (frd l) := by
  unfold frd
  suffices h : ∀ (l : List UInt8) (a : Int), In a → In (l.foldl fstep a) from h l 0 (by unfold In; omega)
  intro l
  induction l with
  | nil => intro a h; exact h
  | cons c l ih => intro a _; exact ih _ (by unfold fstep; rw [bits_or_i64, wi64]; exact in_wrap _)

/-- one step of the document's reading. -/
def rstep (u : Int) (c : UInt8) : Int := (u * 16 + (if 97 ≤ (c.toNat : Int) then (c.toNat : Int) - 87 else ((c.toNat : Int) - 48) % 18446744073709551616) % 16) % 18446744073709551616
def rrd (l : List UInt8) : Int := l.foldl rstep 0
def rgetV (l : List UInt8) : Int × Bool := if l.length = 18 then (if putV (wrap64 (rrd (l.drop 2))) = l then (wrap64 (rrd (l.drop 2)), true) else (0, false)) else (0, false)
theorem rrd_snoc (l : List UInt8) (c : UInt8) : rrd (l ++ [c]) = rstep (rrd l) c := by simp [rrd]

theorem or_low (n d : Int) (h0 : 0 ≤ d) (h1 : d < 16) : bits .or .i64 (wrap64 (n * 16)) d = wrap64 (n * 16 + d) := by
  rw [bits_or_i64, wi64]
  have e : BitVec.ofInt 64 (wrap64 (n * 16)) &&& BitVec.ofInt 64 d = 0#64 := by
    apply BitVec.eq_of_toNat_eq
    rw [BitVec.toNat_and, BitVec.toNat_ofInt, BitVec.toNat_ofInt]
    obtain ⟨k, rfl⟩ := Int.eq_ofNat_of_zero_le h0
    have hk : k < 2 ^ 4 := by omega
    rw [show (((k : Int) % ((2 ^ 64 : Nat) : Int))).toNat = k from by omega]
    obtain ⟨q, hq⟩ : ∃ q : Nat, (wrap64 (n * 16) % ((2 ^ 64 : Nat) : Int)).toNat = 2 ^ 4 * q := ⟨(wrap64 (n * 16) % ((2 ^ 64 : Nat) : Int)).toNat / 16, by rw [w64]; omega⟩
    rw [hq]
    show _ = 0
    apply Nat.eq_of_testBit_eq
    intro i
    rw [Nat.testBit_and, Nat.zero_testBit]
    by_cases hi : i < 4
    · rw [Nat.testBit_two_pow_mul]; simp; omega
    · have : k.testBit i = false := Nat.testBit_lt_two_pow (Nat.lt_of_lt_of_le hk (Nat.pow_le_pow_right (by decide) (by omega)))
      rw [this]; simp
  rw [← BitVec.add_eq_or_of_and_eq_zero _ _ e, BitVec.toNat_add, BitVec.toNat_ofInt, BitVec.toNat_ofInt, w64, w64, w64]
  omega

theorem dg_hx (r : Nat) : dgV (hx r) = (r : Int) % 16 := by
  unfold dgV; rw [hx_val]
  split <;> split <;> omega
theorem frd_hexs : ∀ (k u : Nat), frd (hexs k u) = wrap64 ((u % 16 ^ k : Nat) : Int)
  | 0, u => by simp [hexs, frd, Nat.mod_one]; rw [w64]; rfl
  | k + 1, u => by
    rw [hexs, frd_snoc, frd_hexs k, fstep, dg_hx, or_low _ _ (by omega) (by omega)]
    have e : u % 16 ^ (k + 1) = u / 16 % 16 ^ k * 16 + u % 16 := by
      rw [Nat.pow_succ, Nat.mul_comm (16 ^ k) 16, Nat.mod_mul]; omega
    rw [e]
    obtain ⟨q, hq⟩ := wrap_off ((u / 16 % 16 ^ k : Nat) : Int)
    rw [hq, w64, w64]
    omega
theorem rrd_hexs : ∀ (k u : Nat), u % 16 ^ k < 18446744073709551616 → rrd (hexs k u) = ((u % 16 ^ k : Nat) : Int)
  | 0, u, _ => by simp [hexs, rrd, Nat.mod_one]
  | k + 1, u, h => by
    have e : u % 16 ^ (k + 1) = u / 16 % 16 ^ k * 16 + u % 16 := by
      rw [Nat.pow_succ, Nat.mul_comm (16 ^ k) 16, Nat.mod_mul]; omega
    rw [e] at h ⊢
    rw [hexs, rrd_snoc, rrd_hexs k _ (by omega), rstep, hx_val]
    split <;> split <;> omega

theorem fl_wrap (n : Int) (h : In n) : wrap64 (fl n : Int) = plainV n := by
  have hp : In (plainV n) := by
    unfold plainV; split
    · unfold In; omega
    · exact h
  unfold fl ub
  obtain ⟨h1, h2⟩ := hp
  rw [w64]; omega
theorem fl_lt (n : Int) : fl n < 18446744073709551616 := ub_lt _
theorem plain_plain (n : Int) : plainV (plainV n) = plainV n := by
  by_cases h : 9218868437227405312 < n % 9223372036854775808
  · have : plainV n = 9221120237041090560 := by unfold plainV; rw [if_pos h]
    rw [this]; rfl
  · have : plainV n = n := by unfold plainV; rw [if_neg h]
    rw [this, this]
theorem fl_plain (n : Int) : fl (plainV n) = fl n := by unfold fl; rw [plain_plain]
theorem put_plain (n : Int) : putV (plainV n) = putV n := by unfold putV; rw [fl_plain]
theorem put_len (n : Int) : (putV n).length = 18 := by unfold putV; simp [hexs_len]
theorem put_drop (n : Int) : (putV n).drop 2 = hexs 16 (fl n) := by unfold putV; rfl
theorem frd_put (n : Int) (h : In n) : frd ((putV n).drop 2) = plainV n := by
  rw [put_drop, frd_hexs, ← fl_wrap n h, Nat.mod_eq_of_lt (fl_lt n)]
theorem rrd_put (n : Int) (h : In n) : wrap64 (rrd ((putV n).drop 2)) = plainV n := by
  have := fl_lt n
  rw [put_drop, rrd_hexs _ _ (by omega), ← fl_wrap n h, Nat.mod_eq_of_lt (fl_lt n)]
/-- there and back. -/
theorem get_put (n : Int) (h : In n) : fgetV (putV n) = (plainV n, true) := by
  unfold fgetV
  rw [if_pos (put_len n), frd_put n h, put_plain, if_pos rfl]
/-- what is read is the document's. -/
theorem get_same (l : List UInt8) : fgetV l = rgetV l := by
  unfold fgetV rgetV
  by_cases h : l.length = 18
  · rw [if_pos h, if_pos h]
    by_cases h1 : putV (frd (l.drop 2)) = l
    · rw [if_pos h1]
      have e : frd (l.drop 2) = plainV (frd (l.drop 2)) := by
        have := frd_put (frd (l.drop 2)) (in_frd _)
        rw [h1] at this; exact this
      have e2 : wrap64 (rrd (l.drop 2)) = frd (l.drop 2) := by
        have := rrd_put (frd (l.drop 2)) (in_frd _)
        rw [h1, ← e] at this; exact this
      rw [e2, if_pos h1]
    · rw [if_neg h1]
      by_cases h2 : putV (wrap64 (rrd (l.drop 2))) = l
      · exfalso
        have e := frd_put (wrap64 (rrd (l.drop 2))) (in_wrap _)
        rw [h2] at e
        exact h1 (by rw [e, put_plain]; exact h2)
      · rw [if_neg h2]
  · rw [if_neg h, if_neg h]
theorem get_back {l : List UInt8} (h : (fgetV l).2 = true) : putV (fgetV l).1 = l := by
  unfold fgetV at h ⊢
  by_cases h0 : l.length = 18
  · rw [if_pos h0] at h ⊢
    by_cases h1 : putV (frd (l.drop 2)) = l
    · rw [if_pos h1]; exact h1
    · rw [if_neg h1] at h; cases h
  · rw [if_neg h0] at h; cases h

end Go.Proofs.Ytfihnnfjkhcgkaa.FloM
