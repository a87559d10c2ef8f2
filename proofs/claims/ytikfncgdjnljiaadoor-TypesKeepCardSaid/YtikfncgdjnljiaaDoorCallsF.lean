/-
  What flo.Plain, flo.number, flo.bits, flo.truth and flo.Do do, on whatever they are given. A result that is no number has whatever bits; what is answered hangs on none of them.
  Plain facts on floats and whole numbers, each turned into the other. No program is named here.
  flo.OfInt and flo.ToInt, on whatever they are given.
  flo.Put: 0f, and a float's sixteen digits, laid from the last one on into an array.
  flo.digit, flo.read, flo.Get: a text as a float.
-/
import Derived.Test.YtikfncgdjnljiaaDoorRows
import Derived.Test.YtikfncgdjnljiaaDoorPlainN
import Derived.Laws.Externs
import Derived.WalkKit
import Derived.WalkSpells
import Derived.WalkLawsBesides
import Derived.Below
import Derived.Lib.Hide
import Derived.Test.YtikfncgdjnljiaaDoorMem
import Derived.Laws.IdiomStrings
import Derived.Lib.LazyBuf
import Derived.Lib.SlBuf
namespace Go.Proofs.YtikfncgdjnljiaaDoor
open Go.RowKit NumM FloM

theorem ret_i {k : IntKind} {a b : Int} (h : a = b) : Ending.returned (Value.int k a) = .returned (.int k b) := by rw [h]
theorem ret_p {a b : Int} {x y : Bool} (h : a = b) (h' : x = y) : Ending.returned (.tuple #[.int .i64 a, .bool x]) = .returned (.tuple #[.int .i64 b, .bool y]) := by rw [h, h']

/-- '+', '-', '*', '/' on two floats: some float, whose bits, with the one NaN in place of the others, are the IEEE's. -/
theorem run_fop {P : Program} (op : BinOp) (hop : op = .add ∨ op = .sub ∨ op = .mul ∨ op = .quo) (x y : Nat) (w : World) :
    ∃ r w1, (∀ t, (binOp op t (.float .f64 x) (.float .f64 y)).run P w = .ok (.float .f64 r) w1) ∧ Below w.heap.size w w1 ∧ plainV (wrap64 (r : Int)) = fr (floatBits op .f64 x y) ∧ (nn r ↔ floatBits op .f64 x y = none) ∧ r < 18446744073709551616 := by
  cases h : floatBits op .f64 x y with
  | some r =>
    have hr : ¬ nn r ∧ r < 18446744073709551616 := by
      rcases hop with rfl | rfl | rfl | rfl
      · exact add_num h
      · exact sub_num h
      · exact mul_num h
      · exact div_num h
    exact ⟨r, w, fun t => run_float_arith w op t .f64 x y r h, Below.refl _ _, plain_wrap hr, by simp [hr.1], hr.2⟩
  | none =>
    have hc := cut_nan x y (w.tape w.drawn (.nanBits .f64 x y))
    refine ⟨_, w.drew, fun t => ?_, (Below.refl _ _).drew, ?_, ?_, hc.2⟩
    · unfold floatBits at h
      rcases hop with rfl | rfl | rfl | rfl <;> simp only at h <;> simp [binOp, Op.floatArith, h, Question.forced]
      all_goals rfl
    · exact plain_nan (by rw [ub_wrap, ub_nat _ hc.2]; exact hc.1)
    · simp [hc.1]

end Go.Proofs.YtikfncgdjnljiaaDoor

namespace Go.Proofs.YtikfncgdjnljiaaDoor.FloM
open Go.RowKit NumM

/-- flo.OfInt. -/
def ofV (n : Int) : Int := wrap64 (FloatKind.f64.nearest n : Nat)
/-- the whole part of a float without its sign, by its digits and its exponent. -/
def shf (m e : Nat) : Nat := m * 2 ^ (e - 1075) / 2 ^ (1075 - e)
/-- flo.ToInt. -/
def toV (n : Int) : Int :=
  if nn (ub n) then 0
  else if 1086 ≤ ub n % 9223372036854775808 / 4503599627370496 then (if n < 0 then -9223372036854775808 else 9223372036854775807)
  else if ub n % 9223372036854775808 / 4503599627370496 < 1023 then 0
  else if n < 0 then -(shf (ub n % 9223372036854775808 % 4503599627370496 + 4503599627370496) (ub n % 9223372036854775808 / 4503599627370496) : Nat)
  else (shf (ub n % 9223372036854775808 % 4503599627370496 + 4503599627370496) (ub n % 9223372036854775808 / 4503599627370496) : Nat)

theorem near_of (n : Int) : ¬ nn (FloatKind.f64.nearest n) ∧ FloatKind.f64.nearest n < 18446744073709551616 := write_num (d := .number (n < 0) n.natAbs 0) rfl
theorem of_plain (n : Int) : plainV (wrap64 (floatOfInt .f64 n : Nat)) = ofV n := plain_wrap (near_of n)

theorem cut_zero (s : Bool) (n d : Nat) : Ieee.Toward.zero.cut s n d = n / 2 ^ d := by
  unfold Ieee.Toward.cut
  simp only [Nat.one_shiftLeft, Bool.toNat_false, Nat.add_zero]
  by_cases h : d ≤ n.log2 + 2
  · rw [Nat.min_eq_left h]
  · rw [Nat.min_eq_right (by omega)]
    have h1 : n < 2 ^ (n.log2 + 1) := Nat.lt_log2_self
    rw [Nat.div_eq_of_lt (Nat.lt_of_lt_of_le h1 (Nat.pow_le_pow_right (by decide) (by omega))), Nat.div_eq_of_lt (Nat.lt_of_lt_of_le h1 (Nat.pow_le_pow_right (by decide) (by omega)))]

theorem read_c1 : Ieee.double.read 14114281232179134464 = .number true 4503599627370496 11 := by decide +kernel
theorem read_c2 : Ieee.double.read 4890909195324358656 = .number false 4503599627370496 11 := by decide +kernel

theorem sg_neg {n : Int} (h : In n) : sg (ub n) = decide (n < 0) := by
  obtain ⟨h1, h2⟩ := h
  unfold sg ub
  by_cases hn : n < 0
  · rw [show ((n % 18446744073709551616).toNat / 9223372036854775808 % 2) = 1 by omega]; simp [hn]
  · rw [show ((n % 18446744073709551616).toNat / 9223372036854775808 % 2) = 0 by omega]; simp [hn]

theorem mg_hi {r : Nat} (h : 1 ≤ r / 4503599627370496) : mg r = r % 4503599627370496 + 4503599627370496 ∧ pl r = r / 4503599627370496 - 1 := by
  unfold mg pl
  rw [if_neg (by omega), if_neg (by omega)]; omega
theorem mg_lt (r : Nat) : mg r < 9007199254740992 := by unfold mg; split <;> omega

theorem shl_ge (m k : Nat) : m ≤ m <<< k := by rw [Nat.shiftLeft_eq]; exact Nat.le_mul_of_pos_right _ (Nat.two_pow_pos k)

theorem cmp_lt {a b : Int} (h : a < b) : compare a b = .lt := by
  show compareOfLessAndEq a b = _
  unfold compareOfLessAndEq
  rw [if_pos h]
theorem cmp_gt {a b : Int} (h : b < a) : compare a b = .gt := by
  show compareOfLessAndEq a b = _
  unfold compareOfLessAndEq
  rw [if_neg (by omega), if_neg (by omega)]
theorem cmp_eq {a b : Int} (h : a = b) : compare a b = .eq := by
  show compareOfLessAndEq a b = _
  unfold compareOfLessAndEq
  rw [if_neg (by omega), if_pos h]
theorem sg_t (m k : Nat) : Ieee.signed true m k = -((m <<< k : Nat) : Int) := rfl
theorem sg_f (m k : Nat) : Ieee.signed false m k = ((m <<< k : Nat) : Int) := rfl
theorem shl_0 (m : Nat) : m <<< 0 = m := rfl

/-- below 2^63 in size: between both bounds. -/
theorem ord_in (s : Bool) (m : Nat) (i : Int) (hm : m < 9007199254740992) (hi : i ≤ 10) :
    Ieee.Datum.order (.number s m i) (.number true 4503599627370496 11) = some .gt ∧ Ieee.Datum.order (.number s m i) (.number false 4503599627370496 11) = some .lt := by
  simp only [Ieee.Datum.order, Option.some_inj]
  rw [show min i 11 = i by omega, show (i - i).toNat = 0 by omega]
  obtain ⟨k, hk⟩ : ∃ k, (11 - i).toNat = k + 1 := ⟨(11 - i).toNat - 1, by omega⟩
  rw [hk]
  have h1 := shl_ge 9007199254740992 k
  have h2 : 4503599627370496 <<< (k + 1) = 9007199254740992 <<< k := by rw [Nat.shiftLeft_eq, Nat.shiftLeft_eq, Nat.pow_succ]; omega
  rw [← h2] at h1
  clear h2
  constructor
  · apply cmp_gt
    cases s <;> simp only [sg_t, sg_f, shl_0] <;> generalize 4503599627370496 <<< (k + 1) = X at h1 ⊢ <;> omega
  · apply cmp_lt
    cases s <;> simp only [sg_t, sg_f, shl_0] <;> generalize 4503599627370496 <<< (k + 1) = X at h1 ⊢ <;> omega
/-- not less than 2^63 in size. -/
theorem ord_out (m : Nat) (i : Int) (hm : 4503599627370496 ≤ m) (hi : 11 ≤ i) :
    (Ieee.Datum.order (.number true m i) (.number true 4503599627370496 11) = some .lt ∨ (m <<< (i - 11).toNat = 4503599627370496 ∧ Ieee.Datum.order (.number true m i) (.number true 4503599627370496 11) = some .eq ∧ Ieee.Datum.order (.number true m i) (.number false 4503599627370496 11) = some .lt)) ∧
    (Ieee.Datum.order (.number false m i) (.number true 4503599627370496 11) = some .gt ∧ (Ieee.Datum.order (.number false m i) (.number false 4503599627370496 11) = some .gt ∨ Ieee.Datum.order (.number false m i) (.number false 4503599627370496 11) = some .eq)) := by
  simp only [Ieee.Datum.order, Option.some_inj]
  rw [show min i 11 = 11 by omega, show ((11 : Int) - 11).toNat = 0 from rfl]
  simp only [sg_t, sg_f, shl_0]
  have h1 := shl_ge m (i - 11).toNat
  generalize m <<< (i - 11).toNat = X at h1 ⊢
  refine ⟨?_, cmp_gt (by omega), ?_⟩
  · by_cases hX : 4503599627370496 < X
    · exact .inl (cmp_lt (by omega))
    · exact .inr ⟨by omega, cmp_eq (by omega), cmp_lt (by omega)⟩
  · by_cases hX : 4503599627370496 < X
    · exact .inl (cmp_gt (by omega))
    · exact .inr (cmp_eq (by omega))

/-- the whole number that a number is cut to. -/
theorem int_of (s : Bool) (m : Nat) (i : Int) : (Ieee.Datum.number s m i).toInt .zero = some (if s then -((m <<< i.toNat / 2 ^ (-i).toNat : Nat) : Int) else ((m <<< i.toNat / 2 ^ (-i).toNat : Nat) : Int)) := by
  unfold Ieee.Datum.toInt Ieee.Datum.integral
  simp only [cut_zero]
  cases s <;> simp only [sg_t, sg_f, shl_0] <;> rfl

theorem toV_num {n : Int} (h : ¬ nn (ub n)) : toV n = if 1086 ≤ ub n % 9223372036854775808 / 4503599627370496 then (if n < 0 then (-9223372036854775808 : Int) else 9223372036854775807)
    else if ub n % 9223372036854775808 / 4503599627370496 < 1023 then (0 : Int)
    else if n < 0 then -((shf (ub n % 9223372036854775808 % 4503599627370496 + 4503599627370496) (ub n % 9223372036854775808 / 4503599627370496) : Nat) : Int)
    else ((shf (ub n % 9223372036854775808 % 4503599627370496 + 4503599627370496) (ub n % 9223372036854775808 / 4503599627370496) : Nat) : Int) := by unfold toV; rw [if_neg h]

/-- of a float that isn't NaN, with what size and sign it has: flo.ToInt's tests, and what is cut. -/
theorem to_cases (n : Int) (hn : In n) (h : ¬ nn (ub n)) :
    (Ieee.double.order (ub n) 14114281232179134464 = some .lt ∧ toV n = -9223372036854775808) ∨
    ((Ieee.double.order (ub n) 14114281232179134464 = some .gt ∧ (Ieee.double.order (ub n) 4890909195324358656 = some .gt ∨ Ieee.double.order (ub n) 4890909195324358656 = some .eq)) ∧ toV n = 9223372036854775807) ∨
    ((Ieee.double.order (ub n) 14114281232179134464 = some .gt ∨ Ieee.double.order (ub n) 14114281232179134464 = some .eq) ∧ Ieee.double.order (ub n) 4890909195324358656 = some .lt ∧ floatToIntVal .f64 (ub n) .i64 = some (toV n)) := by
  have hs := sg_neg hn
  have hdec : FloatKind.f64.decode (ub n) = Ieee.double.read (ub n) := rfl
  unfold Ieee.Format.order floatToIntVal
  rw [read_c1, read_c2, hdec]
  rw [toV_num h]
  unfold nn at h
  clear hdec
  by_cases he : 1086 ≤ ub n % 9223372036854775808 / 4503599627370496
  · rw [if_pos he]
    by_cases hi : ub n % 9223372036854775808 = 9218868437227405312
    · rw [read_inf _ hi, hs]
      by_cases h0 : n < 0
      · left; rw [if_pos h0]; simp [h0, Ieee.Datum.order]
      · right; left; rw [if_neg h0]; simp [h0, Ieee.Datum.order]
    · obtain ⟨hm, hp⟩ := mg_hi (r := ub n % 9223372036854775808) (by omega)
      rw [read_fin _ (by omega), hs, hm, hp]
      generalize hM : ub n % 9223372036854775808 % 4503599627370496 + 4503599627370496 = M
      generalize hI : (-1074 + ((ub n % 9223372036854775808 / 4503599627370496 - 1 : Nat) : Int)) = I
      obtain ⟨o1, o2⟩ := ord_out M I (by omega) (by omega)
      by_cases h0 : n < 0
      · rw [if_pos h0, show decide (n < 0) = true from by simpa using h0]
        rcases o1 with o1 | ⟨e, o1, o3⟩
        · exact .inl ⟨o1, rfl⟩
        · refine .inr (.inr ⟨.inr o1, o3, ?_⟩)
          rw [int_of]
          have e2 : M <<< I.toNat / 2 ^ (-I).toNat = 9223372036854775808 := by
            rw [show (-I).toNat = 0 by omega, Nat.pow_zero, Nat.div_one, show I.toNat = (I - 11).toNat + 11 by omega, Nat.shiftLeft_add, e]
            rfl
          rw [e2]
          decide
      · rw [if_neg h0, show decide (n < 0) = false from by simpa using h0]
        exact .inr (.inl ⟨o2, rfl⟩)
  · rw [if_neg he]
    right; right
    rw [read_fin _ (by omega), hs]
    have hml := mg_lt (ub n % 9223372036854775808)
    have hpl : (pl (ub n % 9223372036854775808) : Int) ≤ 1084 := by unfold pl; split <;> omega
    obtain ⟨o1, o2⟩ := ord_in (decide (n < 0)) (mg (ub n % 9223372036854775808)) (-1074 + (pl (ub n % 9223372036854775808) : Nat)) hml (by omega)
    refine ⟨.inl o1, o2, ?_⟩
    rw [int_of]
    have key : mg (ub n % 9223372036854775808) <<< (-1074 + ((pl (ub n % 9223372036854775808) : Nat) : Int)).toNat / 2 ^ (-(-1074 + ((pl (ub n % 9223372036854775808) : Nat) : Int))).toNat =
        if ub n % 9223372036854775808 / 4503599627370496 < 1023 then 0 else shf (ub n % 9223372036854775808 % 4503599627370496 + 4503599627370496) (ub n % 9223372036854775808 / 4503599627370496) := by
      split
      · rename_i hlt
        have hp2 : pl (ub n % 9223372036854775808) ≤ 1021 := by unfold pl; split <;> omega
        rw [show (-1074 + ((pl (ub n % 9223372036854775808) : Nat) : Int)).toNat = 0 by omega, shl_0]
        apply Nat.div_eq_of_lt
        refine Nat.lt_of_lt_of_le hml ?_
        have hp3 := Nat.pow_le_pow_right (n := 2) (show 0 < 2 by decide) (show 53 ≤ (-(-1074 + ((pl (ub n % 9223372036854775808) : Nat) : Int))).toNat by omega)
        exact Nat.le_trans (by decide) hp3
      · rename_i hge
        obtain ⟨hm, hp⟩ := mg_hi (r := ub n % 9223372036854775808) (by omega)
        unfold shf
        rw [hm, hp, Nat.shiftLeft_eq]
        rw [show (-1074 + ((ub n % 9223372036854775808 / 4503599627370496 - 1 : Nat) : Int)).toNat = ub n % 9223372036854775808 / 4503599627370496 - 1075 by omega,
          show (-(-1074 + ((ub n % 9223372036854775808 / 4503599627370496 - 1 : Nat) : Int))).toNat = 1075 - ub n % 9223372036854775808 / 4503599627370496 by omega]
    have hsz : (if ub n % 9223372036854775808 / 4503599627370496 < 1023 then 0 else shf (ub n % 9223372036854775808 % 4503599627370496 + 4503599627370496) (ub n % 9223372036854775808 / 4503599627370496)) < 9223372036854775808 := by
      split
      · decide
      · unfold shf
        refine Nat.lt_of_le_of_lt (Nat.div_le_self _ _) ?_
        have : 2 ^ (ub n % 9223372036854775808 / 4503599627370496 - 1075) ≤ 2 ^ 10 := Nat.pow_le_pow_right (by decide) (by omega)
        have h2 := Nat.mul_le_mul (show ub n % 9223372036854775808 % 4503599627370496 + 4503599627370496 ≤ 9007199254740991 by omega) this
        omega
    rw [key]
    generalize hX : (if ub n % 9223372036854775808 / 4503599627370496 < 1023 then 0 else shf (ub n % 9223372036854775808 % 4503599627370496 + 4503599627370496) (ub n % 9223372036854775808 / 4503599627370496)) = X at hsz
    have hmin : IntKind.i64.min = -9223372036854775808 := by decide
    have hmax : IntKind.i64.max = 9223372036854775807 := by decide
    rw [hmin, hmax]
    by_cases h0 : n < 0
    · rw [show decide (n < 0) = true from by simpa using h0]
      simp only [if_true, h0]
      rw [if_pos (by omega), ← hX]
      split <;> rfl
    · rw [show decide (n < 0) = false from by simpa using h0]
      simp only [h0, Bool.false_eq_true, if_false]
      rw [if_pos (by omega), ← hX]
      split <;> rfl

end Go.Proofs.YtikfncgdjnljiaaDoor.FloM

namespace Go.Proofs.YtikfncgdjnljiaaDoor
open Go.RowKit NumM FloM

theorem ne_self {b : Nat} (h : nn b) : (FloatKind.f64.format.order b b != some .eq) = true := by
  show (Ieee.double.order b b != some .eq) = true
  rw [order_nanl h]; rfl
theorem eq_self {b : Nat} (h : ¬ nn b) : (FloatKind.f64.format.order b b != some .eq) = false := by
  show (Ieee.double.order b b != some .eq) = false
  rw [order_self h]; rfl
theorem fl_nan {n : Int} (h : nn (ub n)) : fl n = 9221120237041090560 := by unfold fl; rw [plain_nan h]; rfl
theorem fl_num {n : Int} (h : ¬ nn (ub n)) : fl n = ub n := by unfold fl; rw [plain_num h]
theorem nn_nan : nn 9221120237041090560 := by decide

end Go.Proofs.YtikfncgdjnljiaaDoor

namespace Go.Proofs.YtikfncgdjnljiaaDoor
open Go.RowKit NumM FloM Mem

theorem whole_back (w : World) (g : Nat) (l : List UInt8) (t : TypeId) (ho : Own w g t (l.map fun b => .int .u8 (b.toNat : Int))) (hl : l.length = 18) :
    (convert 148 9 (.slice (some ⟨g, 0, none⟩) 18 18)).run Tryd.prog w = .ok (.string ⟨l.toArray⟩) w := by
  rw [← hl]
  refine run_convert_bytes_back (P := Tryd.prog) w 148 9 5 ⟨g, 0, none⟩ l.length l Tryd.underlying148 Tryd.underlying5 Tryd.underlying9 ?_
  intro j hj
  have e : (⟨g, 0, none⟩ : Addr).add j = ⟨g, j, none⟩ := by
    unfold Addr.add
    by_cases h0 : j = 0
    · subst h0; simp
    · simp [h0]
  rw [e, ho.cell]
  simp [List.getElem?_eq_getElem hj]

theorem low_four (r : Nat) : bits .and .u64 (r : Int) 15 = ((r % 16 : Nat) : Int) := by
  rw [bits_and_u64, wu64, BitVec.toNat_and, BitVec.toNat_ofInt, BitVec.toNat_ofInt]
  rw [show (15 % ((2 ^ 64 : Nat) : Int)).toNat = 2 ^ 4 - 1 from by decide, Nat.and_two_pow_sub_one_eq_mod]
  omega

set_option maxRecDepth 100000 in
theorem digit_of (k : Nat) (h : k < 16) (w : World) : (Instr.index 9 (.string ⟨#[48, 49, 50, 51, 52, 53, 54, 55, 56, 57, 97, 98, 99, 100, 101, 102]⟩) (.int .u64 (k : Int))).run Tryd.prog w = .ok (.int .u8 ((hx k).toNat : Int)) w := by
  match k, h with
  | 0, _ | 1, _ | 2, _ | 3, _ | 4, _ | 5, _ | 6, _ | 7, _ | 8, _ | 9, _ | 10, _ | 11, _ | 12, _ | 13, _ | 14, _ | 15, _ => (show _ = _; kernel_rfl)
  | k + 16, h => omega

theorem digit_at (r : Nat) (w : World) : (Instr.index 9 (.string ⟨#[48, 49, 50, 51, 52, 53, 54, 55, 56, 57, 97, 98, 99, 100, 101, 102]⟩) (.int .u64 (bits .and .u64 (r : Int) 15))).run Tryd.prog w = .ok (.int .u8 ((hx r).toNat : Int)) w := by
  have hh : hx r = hx (r % 16) := by unfold hx; rw [Nat.mod_mod]
  rw [low_four, hh]
  exact digit_of _ (Nat.mod_lt _ (by decide)) w

/-- 'copy(text[:], "0f")' into a new array. -/
theorem copy_head (w : World) (ty : TypeId) (T : TypeId) :
    ∃ w1, (Builtin.copy_ #[148, 9] ty #[.slice (some ⟨w.heap.size, 0, none⟩) 18 18, .string ⟨#[48, 102]⟩]).run Tryd.prog (w.alloc (.cells #[.int .u8 0, .int .u8 0, .int .u8 0, .int .u8 0, .int .u8 0, .int .u8 0, .int .u8 0, .int .u8 0, .int .u8 0, .int .u8 0, .int .u8 0, .int .u8 0, .int .u8 0, .int .u8 0, .int .u8 0, .int .u8 0, .int .u8 0, .int .u8 0] T)) = .ok (.int .i64 2) w1 ∧
      Own w1 w.heap.size T ([.int .u8 48, .int .u8 102] ++ List.replicate 16 (.int .u8 0)) ∧ Below w.heap.size w w1 := by
  have ho : Own (w.alloc (.cells #[.int .u8 0, .int .u8 0, .int .u8 0, .int .u8 0, .int .u8 0, .int .u8 0, .int .u8 0, .int .u8 0, .int .u8 0, .int .u8 0, .int .u8 0, .int .u8 0, .int .u8 0, .int .u8 0, .int .u8 0, .int .u8 0, .int .u8 0, .int .u8 0] T)) w.heap.size T (List.replicate 18 (Value.int .u8 0)) := Own.made w T _
  refine ⟨_, run_copy_string (P := Tryd.prog) _ 148 9 ty 5 w.heap.size 0 18 18 ⟨#[48, 102]⟩ Tryd.underlying148 (fun w => by kernel_rfl) (by decide) ?_ ?_, ?_, ?_⟩
  · intro j hj
    have hj : j < 2 := hj
    rw [ho.cell, List.getElem?_replicate, if_pos (by omega)]; rfl
  · intro j hj; exact ho.thaw _
  · exact (ho.store 0 (.int .u8 48)).store 1 (.int .u8 102)
  · exact (((Below.refl w.heap.size w).alloc (Nat.le_refl _) _).setCell (Nat.le_refl _) _).setCell (Nat.le_refl _) _

theorem set_mid (a : Nat) (ha : 2 ≤ a) (z x : Value) (f t : List Value) (hf : f.length = 2) : (f ++ (List.replicate (a - 1) z ++ t)).set a x = f ++ (List.replicate (a - 2) z ++ x :: t) := by
  obtain ⟨k, rfl⟩ : ∃ k, a = k + 2 := ⟨a - 2, by omega⟩
  have e : List.replicate (k + 2 - 1) z ++ t = List.replicate k z ++ z :: t := by
    rw [show k + 2 - 1 = k + 1 from rfl, List.replicate_succ']; simp
  rw [e, Nat.add_sub_cancel, List.set_append_right _ _ (by omega), hf, Nat.add_sub_cancel, List.set_append_right _ _ (by simp)]
  simp

end Go.Proofs.YtikfncgdjnljiaaDoor

namespace Go.Proofs.YtikfncgdjnljiaaDoor
open Go.RowKit NumM FloM Mem

theorem ftake_next (s : ByteArray) (k : Nat) (h : k < s.size) : s.data.toList.take (k + 1) = s.data.toList.take k ++ [s[k]] := by
  rw [List.take_succ_eq_append_getElem (by simpa using h)]; rfl

theorem cut_two (s : ByteArray) (h : s.size = 18) : (s.extract 2 18).data.toList = s.data.toList.drop 2 := by
  rw [ByteArray.data_extract, Array.toList_extract]
  simp only [List.extract_eq_take_drop]
  rw [List.take_of_length_le]
  have : s.data.toList.length = 18 := by simpa using h
  simp [this]

end Go.Proofs.YtikfncgdjnljiaaDoor
