/-
  Ref01 Ref01T Ref02 Ref02T Ref03 Ref03R
-/
import Derived.Test.YtdgmdpphimenjaaDoorRows
import Derived.Test.YtdgmdpphimenjaaDoorPlainN
import Derived.Test.YtdgmdpphimenjaaDoorMem
import Derived.WalkKit
import Derived.WalkSpells
import Derived.WalkLawsBesides
import Derived.Lib.Hide
import Derived.Test.YtdgmdpphimenjaaDoorCallsN
import Derived.Test.YtdgmdpphimenjaaDoorCallsF
import Derived.Test.YtdgmdpphimenjaaDoorCallsW
/-
  What the document's own Do does, walked: half, size, truth, bits, and Do.
-/
namespace Go.Proofs.YtdgmdpphimenjaaDoor.R01
open Go.RowKit NumM Mem

set_option maxHeartbeats 400000 in
theorem size_any (n : Int) (w : World) (h : In n) : Calls Tryd.prog 40 #[.int .i64 n] w fun e w' => e = .returned (.int .u64 (n.natAbs : Int)) ∧ w = w' := by
  have h1 := h.1
  have h2 := h.2
  have hw : IntKind.u64.wrap (0 - IntKind.u64.wrap n) = -n ∨ 0 ≤ n := by rw [wu64, wu64]; omega
  have hw1 : IntKind.u64.wrap (-IntKind.u64.wrap n) = -n ∨ 0 ≤ n := by rw [wu64, wu64]; omega
  have hw2 : IntKind.u64.wrap n = n ∨ n < 0 := by rw [wu64]; omega
  clear h
  by_cases hn : n < 0
  all_goals
    go_enter Tryd.func40, Tryd.ntmps40
    go_wp2
    go_ret
    exact ⟨congrArg (fun x => Ending.returned (Value.int IntKind.u64 x)) (by omega), rfl⟩

/-- the four cells of a table. -/
def cells4 (t : Nat → Nat) : List Value := [.int .u64 (t 0 : Nat), .int .u64 (t 1 : Nat), .int .u64 (t 2 : Nat), .int .u64 (t 3 : Nat)]

theorem u64_eq {a b : Int} (h : a = b) : Value.int IntKind.u64 a = .int .u64 b := by rw [h]
theorem sum_eq {g p : Nat} {z : Int} {i : Nat} {t : Nat → Nat} (h : (t i = 0 ∧ z = g) ∨ (t i = 1 ∧ z = g + p)) : z = ((g + p * t i : Nat) : Int) := by
  rcases h with ⟨h1, h2⟩ | ⟨h1, h2⟩
  · rw [h1, h2]; simp
  · rw [h1, h2]; simp

theorem ret_pair {a b : Int} {x y : Bool} (h : a = b) (h' : x = y) : Ending.returned (.tuple #[.int .i64 a, .bool x]) = .returned (.tuple #[.int .i64 b, .bool y]) := by rw [h, h']

theorem quo_val (a b : Int) (hb : ¬ b = 0) : doV 4 a b = if decide (a < 0) = decide (b < 0) then wrap64 ((a.natAbs : Int) / (b.natAbs : Int)) else wrap64 (-((a.natAbs : Int) / (b.natAbs : Int))) := by
  rw [show doV 4 a b = if b = 0 then 0 else wrap64 (a.tdiv b) from rfl, if_neg hb, quo_sizes]
  split <;> simp
theorem rem_val (a b : Int) (hb : ¬ b = 0) (ha : In a) (hib : In b) : doV 5 a b = if a < 0 then wrap64 (-((a.natAbs : Int) % (b.natAbs : Int))) else wrap64 ((a.natAbs : Int) % (b.natAbs : Int)) := by
  have h1 : doV 5 a b = a.tmod b := by
    rw [show doV 5 a b = if b = 0 then 0 else a.tmod b from rfl, if_neg hb]
  have h2 : a.natAbs % b.natAbs < b.natAbs := Nat.mod_lt _ (by omega)
  obtain ⟨ha1, ha2⟩ := ha
  obtain ⟨hb1, hb2⟩ := hib
  have h3 : a.natAbs % b.natAbs ≤ a.natAbs := Nat.mod_le _ _
  rw [h1, rem_sizes]
  split
  · rw [← Int.natCast_emod, wrap_in]; unfold In; omega
  · rw [← Int.natCast_emod, wrap_in]; unfold In; omega

end Go.Proofs.YtdgmdpphimenjaaDoor.R01

/-
  What the document's own Put and Get do, walked.
-/
namespace Go.Proofs.YtdgmdpphimenjaaDoor.R01
open Go.RowKit NumM Mem

theorem info_u8 : (Tryd.prog.info? 5).map (fun i => (i.zero, i.size, i.bytes)) = some (some (.int .u8 0), 1, 1) := by kernel_rfl

theorem own_cons {w : World} {base n r : Nat} {v : Value} {l : List UInt8} (h : w.ownsRow base 5 1 v n ([.int .u8 (48 + (r : Int) % 10)] ++ l.map fun c => .int .u8 (c.toNat : Int))) :
    w.ownsRow base 5 1 v n ((dig r :: l).map fun c => .int .u8 (c.toNat : Int)) := by
  rw [List.map_cons, dig_val]; exact h

theorem str_cons {w : World} {base n r : Nat} {v : Value} {l : List UInt8} (h : w.ownsRow base 5 1 v n ([.int .u8 (48 + (r : Int) % 10)] ++ l.map fun c => .int .u8 (c.toNat : Int))) :
    (convert 53 9 v).run Tryd.prog w = .ok (.string ⟨(dig r :: l).toArray⟩) w :=
  own_string w 53 9 5 Tryd.underlying53 Tryd.underlying5 Tryd.underlying9 (dig r :: l) (by simp) (own_cons h)

theorem fits_next {r c : Nat} (hc : c ≤ 18) (h : r < 10 ^ (19 - c)) (hz : ¬ r / 10 = 0) : c + 1 ≤ 18 ∧ r / 10 < 10 ^ (19 - (c + 1)) := by
  have h2 : 10 ^ (19 - c) = 10 ^ (19 - (c + 1)) * 10 := by rw [← Nat.pow_succ]; congr 1; omega
  refine ⟨?_, by omega⟩
  by_cases h3 : c = 18
  · subst h3; simp at h; omega
  · omega

set_option maxRecDepth 20000 in
set_option maxHeartbeats 1000000 in
theorem put_any (n : Int) (w : World) (h : In n) : Calls Tryd.prog 18 #[.int .i64 n] w fun e w' => e = .returned (.string ⟨(dec n).toArray⟩) ∧ Below w.heap.size w w' := by
  have hs : n.natAbs < 10 ^ (19 - 0) := by have h1 := h.1; have h2 := h.2; omega
  obtain ⟨i0, hi, hz0, hz1, hz2⟩ := info_parts info_u8
  have Hs := Lib.hid hs
  have Hi := Lib.hid hi
  have Hz0 := Lib.hid hz0
  have Hz1 := Lib.hid hz1
  have Hz2 := Lib.hid hz2
  clear hs hi hz0 hz1 hz2
  go_enter Tryd.func18, Tryd.ntmps18
  go_wp2_with (go_at_call 40; refine (size_any _ _ h).mono ?_; rintro e w' ⟨rfl, rfl⟩)
  go_loopw [3, 4] (fun b m wr => ∃ (r : Nat) (l : List UInt8), m = .int .u64 (r : Int) ∧ Digs n.natAbs r l ∧ l.length ≤ 18 ∧ r < 10 ^ (19 - l.length) ∧
      wr.ownsRow w.heap.size 5 1 b l.length (l.map fun c => .int .u8 (c.toNat : Int)) ∧ Below w.heap.size w wr) (fun _ m _ => (intOf m).toNat)
  case atStart => exact ⟨n.natAbs, [], rfl, Digs.start _, by simp, Hs.out, ⟨by simp, .inl ⟨rfl, rfl⟩⟩, Below.refl _ _⟩
  case round =>
    rename_i b _
    obtain ⟨r, l, rfl, hd, hl, hr, ho, hb⟩ := hrel
    have hr64 : (r : Int) < 18446744073709551616 := by
      have : 10 ^ (19 - l.length) ≤ 10 ^ 19 := Nat.pow_le_pow_right (by decide) (by omega)
      omega
    have Ho := Lib.hid ho
    have Hd := Lib.hid hd
    have Hr := Lib.hid hr
    clear ho hd hr
    have hw : w.heap.size ≤ wr.heap.size := hb.size
    have hone : ((wr.alloc (.cells #[.int .u8 (48 + (r : Int) % 10)] 5)).ownsRow w.heap.size 5 1 (.slice (some ⟨wr.heap.size, 0, none⟩) 1 1) 1 [.int .u8 (48 + (r : Int) % 10)]) :=
      (Own.made wr 5 [.int .u8 (48 + (r : Int) % 10)]).row hw (by omega) (by decide) rfl rfl
    have hcs : ∀ u ∈ l.map (fun c : UInt8 => Value.int .u8 (c.toNat : Int)), u.oneCell' = true := by
      intro u hu; obtain ⟨c, _, rfl⟩ := List.mem_map.1 hu; rfl
    have Hone := Lib.hid hone
    have Hcs := Lib.hid hcs
    have Hw := Lib.hid hw
    clear hone hcs hw
    by_cases hz : r / 10 = 0
    · have hz1 : ((r : Int) / 10 == 0) = true := by simp; omega
      have Hz := Lib.hid hz
      clear hz
      by_cases hn : n < 0
      · have hfin : (⟨#[45]⟩ : ByteArray) ++ ⟨(dig r :: l).toArray⟩ = ⟨(dec n).toArray⟩ := by
          rw [dec, if_pos hn, Hd.out.last Hz.out]; apply ByteArray.ext; rw [ByteArray.data_append]; simp
        have Hfin := Lib.hid hfin
        clear hfin
        go_wp2_with (at_builtin; refine wpList_app (w := wr.alloc (.cells #[.int .u8 (48 + (r : Int) % 10)] 5)) rfl _ _ 53 rfl w.heap.size 5 i0 (.int .u8 0) 1 1 Tryd.underlying53 Hi.out Hz0.out Hz1.out Hz2.out rfl (by decide) _ 1 [.int .u8 (48 + (r : Int) % 10)] rfl Hone.out _ l.length _ rfl (Ho.out.alloc _) Hcs.out (by unfold maxLen; omega) (by omega) (by have := Hw.out; simp; omega) ?_; intro v' w1 hown1 hb1; have hcv := str_cons hown1; have Hb1 := Lib.hid hb1; clear hown1 hb1)
        go_ret
        exact ⟨congrArg (fun b => Ending.returned (Value.string b)) Hfin.out, (hb.alloc Hw.out _).trans Hb1.out⟩
      · have hfin : (⟨(dig r :: l).toArray⟩ : ByteArray) = ⟨(dec n).toArray⟩ := by
          rw [dec, if_neg hn, Hd.out.last Hz.out]
        have Hfin := Lib.hid hfin
        clear hfin
        go_wp2_with (at_builtin; refine wpList_app (w := wr.alloc (.cells #[.int .u8 (48 + (r : Int) % 10)] 5)) rfl _ _ 53 rfl w.heap.size 5 i0 (.int .u8 0) 1 1 Tryd.underlying53 Hi.out Hz0.out Hz1.out Hz2.out rfl (by decide) _ 1 [.int .u8 (48 + (r : Int) % 10)] rfl Hone.out _ l.length _ rfl (Ho.out.alloc _) Hcs.out (by unfold maxLen; omega) (by omega) (by have := Hw.out; simp; omega) ?_; intro v' w1 hown1 hb1; have hcv := str_cons hown1; have Hb1 := Lib.hid hb1; clear hown1 hb1)
        go_ret
        exact ⟨congrArg (fun b => Ending.returned (Value.string b)) Hfin.out, (hb.alloc Hw.out _).trans Hb1.out⟩
    · have hz1 : ((r : Int) / 10 == 0) = false := by simp; omega
      have Hz := Lib.hid hz
      clear hz
      go_wp2_with (at_builtin; refine wpList_app (w := wr.alloc (.cells #[.int .u8 (48 + (r : Int) % 10)] 5)) rfl _ _ 53 rfl w.heap.size 5 i0 (.int .u8 0) 1 1 Tryd.underlying53 Hi.out Hz0.out Hz1.out Hz2.out rfl (by decide) _ 1 [.int .u8 (48 + (r : Int) % 10)] rfl Hone.out _ l.length _ rfl (Ho.out.alloc _) Hcs.out (by unfold maxLen; omega) (by omega) (by have := Hw.out; simp; omega) ?_; intro v' w1 hown1 hb1)
      go_roundw
      case rel =>
        obtain ⟨f1, f2⟩ := fits_next hl Hr.out Hz.out
        refine ⟨r / 10, dig r :: l, by go_num, Hd.out.more Hz.out, by simpa using f1, by simpa using f2, ?_, (hb.alloc Hw.out _).trans hb1⟩
        rw [List.length_cons, Nat.add_comm]
        exact own_cons hown1
      case measure =>
        have := Hz.out
        simp [intOf]; omega

theorem ustep_eq (n : Int) (c : UInt8) : IntKind.u64.wrap (IntKind.u64.wrap (IntKind.u64.wrap (n * 10) + IntKind.u64.wrap (c.toNat : Int)) - 48) = uStep n c := by
  unfold uStep; rw [wu64, wu64, wu64, wu64]; omega
theorem ustep_eq' (n : Int) (c : UInt8) : IntKind.u64.wrap (IntKind.u64.wrap (IntKind.u64.wrap (n * 10) + (c.toNat : Int)) - 48) = uStep n c := by
  unfold uStep; rw [wu64, wu64, wu64]; omega
theorem tail_next (s : ByteArray) (k : Nat) (h0 : 0 < k) (h : k < s.size) : (s.data.toList.take (k + 1)).tail = (s.data.toList.take k).tail ++ [s[k]] := by
  rw [take_next s k h, List.tail_append_of_ne_nil]
  intro e
  have hl := congrArg List.length e
  rw [List.length_take, Array.length_toList, List.length_nil] at hl
  have hsz : s.data.size = s.size := rfl
  omega
theorem take_end (s : ByteArray) (k : Nat) (h2 : k ≤ 30) (h : ¬ (k < s.size ∧ k < 30)) : s.data.toList.take k = s.data.toList.take 30 := by
  by_cases h3 : k = 30
  · rw [h3]
  · have h4 : s.size ≤ k := by
      rcases Nat.lt_or_ge k s.size with h4 | h4
      · exact absurd ⟨h4, by omega⟩ h
      · exact h4
    have e1 : s.data.toList.take k = s.data.toList := List.take_of_length_le (by simpa using h4)
    have e2 : s.data.toList.take 30 = s.data.toList := List.take_of_length_le (by rw [Array.length_toList]; exact Nat.le_trans h4 h2)
    rw [e1, e2]

end Go.Proofs.YtdgmdpphimenjaaDoor.R01

/-
  What the document's own IsNan, Plain, made, truth, Do and OfInt do, walked: what the program's do.
-/
namespace Go.Proofs.YtdgmdpphimenjaaDoor.R02
open Go.RowKit NumM FloM

set_option maxHeartbeats 400000 in
theorem isnan_any (n : Int) (w : World) : Calls Tryd.prog 102 #[.int .i64 n] w fun e w' => e = .returned (.bool (decide (9218868437227405312 < n % 9223372036854775808))) ∧ w = w' := by
  have hv : decide (9218868437227405312 < IntKind.u64.wrap n % 9223372036854775808) = decide (9218868437227405312 < n % 9223372036854775808) := by
    rw [wu64, show n % 18446744073709551616 % 9223372036854775808 = n % 9223372036854775808 by omega]
  have Hv := Lib.hid hv
  have h0 : 0 ≤ IntKind.u64.wrap n := by rw [wu64]; omega
  have h1 : IntKind.u64.wrap n < 18446744073709551616 := by rw [wu64]; omega
  clear hv
  go_enter Tryd.func102, Tryd.ntmps102
  go_wp2
  go_ret
  exact ⟨congrArg (fun x => Ending.returned (Value.bool x)) Hv.out, rfl⟩
/-- .. with its answer. -/
theorem isnan_at (n : Int) (x : Bool) (h : decide (9218868437227405312 < n % 9223372036854775808) = x) (w : World) : Calls Tryd.prog 102 #[.int .i64 n] w fun e w' => e = .returned (.bool x) ∧ w = w' := by
  subst h; exact isnan_any n w

set_option maxHeartbeats 400000 in
theorem plain_any (n : Int) (w : World) : Calls Tryd.prog 72 #[.int .i64 n] w fun e w' => e = .returned (.int .i64 (plainV n)) ∧ w = w' := by
  by_cases h : 9218868437227405312 < n % 9223372036854775808
  · have hv : plainV n = 9221120237041090560 := by unfold plainV; rw [if_pos h]
    rw [hv]
    have H := Lib.hid (decide_eq_true h)
    clear hv h
    go_enter Tryd.func72, Tryd.ntmps72
    go_wp2_with (go_at_call 102; refine (isnan_at _ true H.out _).mono ?_; rintro e w' ⟨rfl, rfl⟩)
    go_ret
    exact ⟨rfl, rfl⟩
  · have hv : plainV n = n := by unfold plainV; rw [if_neg h]
    rw [hv]
    have H := Lib.hid (decide_eq_false h)
    clear hv h
    go_enter Tryd.func72, Tryd.ntmps72
    go_wp2_with (go_at_call 102; refine (isnan_at _ false H.out _).mono ?_; rintro e w' ⟨rfl, rfl⟩)
    go_ret
    exact ⟨rfl, rfl⟩

theorem told {n : Int} (h : ¬ 9218868437227405312 < n % 9223372036854775808) : (IntKind.u64.wrap n).toNat = fl n := by
  unfold fl plainV; rw [if_neg h, wu64]; rfl

theorem op_cases (op : Int) (h : 15 ≤ op ∧ op ≤ 21) : op = 15 ∨ op = 16 ∨ op = 17 ∨ op = 18 ∨ op = 19 ∨ op = 20 ∨ op = 21 := by omega

/-- what NaN makes. -/
theorem do_nan (op a b : Int) (h : nn (ub a) ∨ nn (ub b)) (hop : 15 ≤ op ∧ op ≤ 21) : fdo op a b = if op ≤ 18 then 9221120237041090560 else 0 := by
  have hx : nn (fl a) ∨ nn (fl b) := by
    rcases h with h | h
    · left; rw [fl_nan h]; exact nn_nan
    · right; rw [fl_nan h]; exact nn_nan
  have e1 : Ieee.double.add (fl a) (fl b) = none := hx.elim add_nanl add_nanr
  have e2 : Ieee.double.sub (fl a) (fl b) = none := hx.elim sub_nanl sub_nanr
  have e3 : Ieee.double.mul (fl a) (fl b) = none := hx.elim mul_nanl mul_nanr
  have e4 : Ieee.double.div (fl a) (fl b) = none := hx.elim div_nanl div_nanr
  have e5 : Ieee.double.order (fl a) (fl b) = none := hx.elim order_nanl order_nanr
  unfold fdo
  rw [e1, e2, e3, e4, e5]
  rcases op_cases op hop with rfl | rfl | rfl | rfl | rfl | rfl | rfl <;> rfl
theorem nn_of {n : Int} (h : 9218868437227405312 < n % 9223372036854775808) : nn (ub n) := by unfold nn; have := ub_mod n; omega

theorem made_of (r : Nat) (o : Option Nat) (hr : plainV (wrap64 (r : Int)) = fr o) (hn : nn r ↔ o = none) (hlt : r < 18446744073709551616) : nn r ∧ fr o = 9221120237041090560 ∨ ¬ nn r ∧ fr o = wrap64 r := by
  by_cases h : nn r
  · left; rw [hn.1 h]; exact ⟨h, rfl⟩
  · right; rw [← hr]; exact ⟨h, plain_wrap ⟨h, hlt⟩⟩
theorem le_of_not (a b : Int) (h : (FloatKind.f64.format.order (fl a) (fl b) == some .lt) = false) : fdo 21 a b = tr (FloatKind.f64.format.order (fl a) (fl b) == some .eq) := by
  show tr (FloatKind.f64.format.order (fl a) (fl b) == some .lt || FloatKind.f64.format.order (fl a) (fl b) == some .eq) = _
  rw [h]; rfl
theorem le_of_lt (a b : Int) (h : (FloatKind.f64.format.order (fl a) (fl b) == some .lt) = true) : fdo 21 a b = 1 := by
  show tr (FloatKind.f64.format.order (fl a) (fl b) == some .lt || FloatKind.f64.format.order (fl a) (fl b) == some .eq) = _
  rw [h]; rfl

end Go.Proofs.YtdgmdpphimenjaaDoor.R02

/-
  What the document's own Put and Get do, walked: what the program's do.
-/
namespace Go.Proofs.YtdgmdpphimenjaaDoor.R02
open Go.RowKit NumM FloM Mem

theorem info_u8 : (Tryd.prog.info? 5).map (fun i => (i.zero, i.size, i.bytes)) = some (some (.int .u8 0), 1, 1) := by kernel_rfl

theorem hx_lo {r : Nat} (h : r % 16 < 10) : (r : Int) % 16 + 48 = ((hx r).toNat : Int) := by rw [hx_val, if_pos h]; omega
theorem hx_hi {r : Nat} (h : ¬ r % 16 < 10) : (r : Int) % 16 + 87 = ((hx r).toNat : Int) := by rw [hx_val, if_neg h]; omega

theorem own_cons {w : World} {base n r : Nat} {v : Value} {l : List UInt8} {d : Int} (hd : d = ((hx r).toNat : Int)) (h : w.ownsRow base 5 1 v n ([.int .u8 d] ++ l.map fun c => .int .u8 (c.toNat : Int))) :
    w.ownsRow base 5 1 v n ((hx r :: l).map fun c => .int .u8 (c.toNat : Int)) := by
  subst hd
  rw [List.map_cons]; exact h

theorem fl_u64 (n : Int) : IntKind.u64.wrap (plainV n) = (fl n : Int) := by rw [wu64]; unfold fl ub; omega

set_option maxRecDepth 20000 in
set_option maxHeartbeats 1000000 in
theorem put_any (n : Int) (w : World) : Calls Tryd.prog 42 #[.int .i64 n] w fun e w' => e = .returned (.string ⟨(putV n).toArray⟩) ∧ Below w.heap.size w w' := by
  obtain ⟨i0, hi, hz0, hz1, hz2⟩ := info_parts info_u8
  have Hi := Lib.hid hi
  have Hz0 := Lib.hid hz0
  have Hz1 := Lib.hid hz1
  have Hz2 := Lib.hid hz2
  have Hlt : Hid ((fl n : Int) < 18446744073709551616) := by have := fl_lt n; show _ < _; omega
  have Hfl : Hid (Value.int .u64 (IntKind.u64.wrap (plainV n)) = .int .u64 (fl n : Int)) := by show _ = _; rw [fl_u64]
  clear hi hz0 hz1 hz2
  go_enter Tryd.func42, Tryd.ntmps42
  go_wp2_with (go_at_call 72; refine (plain_any _ _).mono ?_; rintro e w' ⟨rfl, rfl⟩)
  go_loopw [3, 4, 5] (fun u b i wr => ∃ (k r : Nat) (l : List UInt8), i = .int .i64 (k : Int) ∧ u = .int .u64 (r : Int) ∧ k ≤ 16 ∧ (r : Int) < 18446744073709551616 ∧ Hexs (fl n) (16 - k) r l ∧ l.length = k ∧
      wr.ownsRow w.heap.size 5 1 b k (l.map fun c => .int .u8 (c.toNat : Int)) ∧ Below w.heap.size w wr) (fun _ _ i _ => (16 - intOf i).toNat)
  case atStart => exact ⟨0, fl n, [], rfl, Hfl.out, by omega, Hlt.out, Hexs.start _, rfl, ⟨by simp, .inl ⟨rfl, rfl⟩⟩, Below.refl _ _⟩
  case round =>
    obtain ⟨k, r, l, rfl, rfl, hk, hr, hd, hl, ho, hb⟩ := hrel
    have Ho := Lib.hid ho
    have Hd := Lib.hid hd
    have Hl := Lib.hid hl
    have hw : w.heap.size ≤ wr.heap.size := hb.size
    have Hw := Lib.hid hw
    clear ho hd hl hw
    by_cases h16 : k < 16
    · have t1 : decide ((k : Int) < 16) = true := decide_eq_true (by omega)
      have Hk := Lib.hid h16
      have hcs : ∀ u ∈ l.map (fun c : UInt8 => Value.int .u8 (c.toNat : Int)), u.oneCell' = true := by
        intro u hu; obtain ⟨c, _, rfl⟩ := List.mem_map.1 hu; rfl
      have Hcs := Lib.hid hcs
      clear hcs h16
      by_cases h10 : r % 16 < 10
      · have t2 : decide ((r : Int) % 16 < 10) = true := decide_eq_true (by omega)
        have Hx := Lib.hid (hx_lo h10)
        clear h10
        have hone : ((wr.alloc (.cells #[.int .u8 ((r : Int) % 16 + 48)] 5)).ownsRow w.heap.size 5 1 (.slice (some ⟨wr.heap.size, 0, none⟩) 1 1) 1 [.int .u8 ((r : Int) % 16 + 48)]) :=
          (Own.made wr 5 [.int .u8 ((r : Int) % 16 + 48)]).row Hw.out (by omega) (by decide) rfl rfl
        have Hone := Lib.hid hone
        clear hone
        go_wp2_with (at_builtin; refine wpList_app (w := wr.alloc (.cells #[.int .u8 ((r : Int) % 16 + 48)] 5)) rfl _ _ 53 rfl w.heap.size 5 i0 (.int .u8 0) 1 1 Tryd.underlying53 Hi.out Hz0.out Hz1.out Hz2.out rfl (by decide) _ 1 [.int .u8 ((r : Int) % 16 + 48)] rfl Hone.out _ k _ rfl (Ho.out.alloc _) Hcs.out (by unfold maxLen; omega) (by omega) (by have := Hw.out; simp; omega) ?_; intro v' w1 hown1 hb1)
        go_roundw
        case rel =>
          have h1 := Hk.out
          refine ⟨k + 1, r / 16, hx r :: l, by go_num, by go_num, by omega, by omega, ?_, by have := Hl.out; simp; omega, ?_, (hb.alloc Hw.out _).trans hb1⟩
          · have h2 := Hd.out
            rw [show 16 - k = 16 - (k + 1) + 1 by omega] at h2
            exact h2.more
          · rw [Nat.add_comm]; exact own_cons Hx.out hown1
        case measure =>
          have := Hk.out
          simp [intOf]; omega
      · have t2 : decide ((r : Int) % 16 < 10) = false := decide_eq_false (by omega)
        have Hx := Lib.hid (hx_hi h10)
        clear h10
        have hone : ((wr.alloc (.cells #[.int .u8 ((r : Int) % 16 + 87)] 5)).ownsRow w.heap.size 5 1 (.slice (some ⟨wr.heap.size, 0, none⟩) 1 1) 1 [.int .u8 ((r : Int) % 16 + 87)]) :=
          (Own.made wr 5 [.int .u8 ((r : Int) % 16 + 87)]).row Hw.out (by omega) (by decide) rfl rfl
        have Hone := Lib.hid hone
        clear hone
        go_wp2_with (at_builtin; refine wpList_app (w := wr.alloc (.cells #[.int .u8 ((r : Int) % 16 + 87)] 5)) rfl _ _ 53 rfl w.heap.size 5 i0 (.int .u8 0) 1 1 Tryd.underlying53 Hi.out Hz0.out Hz1.out Hz2.out rfl (by decide) _ 1 [.int .u8 ((r : Int) % 16 + 87)] rfl Hone.out _ k _ rfl (Ho.out.alloc _) Hcs.out (by unfold maxLen; omega) (by omega) (by have := Hw.out; simp; omega) ?_; intro v' w1 hown1 hb1)
        go_roundw
        case rel =>
          have h1 := Hk.out
          refine ⟨k + 1, r / 16, hx r :: l, by go_num, by go_num, by omega, by omega, ?_, by have := Hl.out; simp; omega, ?_, (hb.alloc Hw.out _).trans hb1⟩
          · have h2 := Hd.out
            rw [show 16 - k = 16 - (k + 1) + 1 by omega] at h2
            exact h2.more
          · rw [Nat.add_comm]; exact own_cons Hx.out hown1
        case measure =>
          have := Hk.out
          simp [intOf]; omega
    · obtain rfl : k = 16 := by omega
      have h2 := Hd.out
      have hfin : (⟨#[48, 102]⟩ : ByteArray) ++ ⟨l.toArray⟩ = ⟨(putV n).toArray⟩ := by
        rw [putV, Hexs.last h2]; apply ByteArray.ext; rw [ByteArray.data_append]; simp
      have hcv :=
        own_string (P := Tryd.prog) wr 53 9 5 Tryd.underlying53 Tryd.underlying5 Tryd.underlying9 l (by have := Hl.out; rintro rfl; simp at this) Ho.out
      have Hfin := Lib.hid hfin
      have hl16 := Hl.out
      clear hfin h2 h16 hk
      go_wp2
      go_ret
      exact ⟨congrArg (fun b => Ending.returned (Value.string b)) Hfin.out, hb⟩

theorem u64_eqt {a b : Int} (h : a = b) : Value.int IntKind.u64 a = .int .u64 b := by rw [h]

theorem take_drop_next (s : ByteArray) (k : Nat) (h0 : 2 ≤ k) (h : k < s.size) : (s.data.toList.take (k + 1)).drop 2 = (s.data.toList.take k).drop 2 ++ [s[k]] := by
  rw [ftake_next s k h, List.drop_append_of_le_length]
  rw [List.length_take, Array.length_toList]
  have hsz : s.data.size = s.size := rfl
  omega

theorem step_hi (u c : Int) : IntKind.u64.wrap (IntKind.u64.wrap (u * 16) + (c - 87) % 16) = (u * 16 + (c - 87) % 16) % 18446744073709551616 := by rw [wu64, wu64]; omega
theorem step_lo (u c : Int) : IntKind.u64.wrap (IntKind.u64.wrap (u * 16) + (IntKind.u64.wrap (c - 48)).tmod 16) = (u * 16 + (c - 48) % 18446744073709551616 % 16) % 18446744073709551616 := by
  rw [Int.tmod_eq_emod_of_nonneg (by rw [wu64]; omega), wu64, wu64, wu64]; omega

theorem rrd_in (l : List UInt8) : 0 ≤ rrd l ∧ rrd l < 18446744073709551616 := by
  unfold rrd
  suffices h : ∀ (l : List UInt8) (a : Int), 0 ≤ a ∧ a < 18446744073709551616 → 0 ≤ l.foldl rstep a ∧ l.foldl rstep a < 18446744073709551616 from h l 0 (by omega)
  intro l
  induction l with
  | nil => intro a h; exact h
  | cons c l ih => intro a _; exact ih _ (by unfold rstep; omega)

end Go.Proofs.YtdgmdpphimenjaaDoor.R02

/-
  The document's own Name, Right, Put, Get of layer 3, walked: what the program's do.
-/
namespace Go.Proofs.YtdgmdpphimenjaaDoor.R03
open Go.RowKit NumM FloM WordM Mem

/-- what the document's Name has seen of the bytes ahead of the k-th. -/
def Seen (s : ByteArray) (k : Nat) : Prop := (s.data.toList.take k).all (fun c => letB c || digB c) = true ∧ (0 < k → digB (s.data.toList.headD 0) = false)
theorem dig_not_let {c : UInt8} (h : digB c = true) : letB c = false := by
  simp [digB] at h
  cases hl : letB c
  · rfl
  · have := let_val hl; omega
theorem let_not_dig {c : UInt8} (h : letB c = true) : digB c = false := by
  cases hd : digB c
  · rfl
  · rw [dig_not_let hd] at h; cases h
theorem headD_of (s : ByteArray) (h0 : 0 < s.size) : s.data.toList.headD 0 = s[0] := by
  obtain ⟨t, ht⟩ := head_split s h0
  rw [ht]; rfl
theorem Seen.let {s : ByteArray} {k : Nat} (h : Seen s k) (hk : k < s.size) (hc : letB s[k] = true) : Seen s (k + 1) := by
  refine ⟨by rw [take_next s k hk, List.all_append, h.1]; simp [hc], fun _ => ?_⟩
  by_cases h0 : k = 0
  · subst h0; rw [headD_of s hk]; exact let_not_dig hc
  · exact h.2 (by omega)
theorem Seen.dig {s : ByteArray} {k : Nat} (h : Seen s k) (hk : k < s.size) (h0 : 0 < k) (hc : digB s[k] = true) : Seen s (k + 1) :=
  ⟨by rw [take_next s k hk, List.all_append, h.1]; simp [hc], fun _ => h.2 h0⟩
theorem bad_dig {s : ByteArray} (hk : 0 < s.size) (hc : digB s[0] = true) : nameV s.data.toList = false := by
  obtain ⟨t, ht⟩ := head_split s hk
  rw [ht]; exact nameV_digit hc
theorem bad_any {s : ByteArray} {k : Nat} (hk : k < s.size) (h1 : letB s[k] = false) (h2 : digB s[k] = false) : nameV s.data.toList = false :=
  nameV_bad (c := s[k]) (List.getElem_mem (l := s.data.toList) (n := k) (by rw [Array.length_toList]; exact hk)) (by rw [h1, h2]; rfl)
theorem Seen.end {s : ByteArray} (h : Seen s s.size) (h0 : 1 ≤ s.size) (h16 : s.size ≤ 16) : nameV s.data.toList = ((s.data.toList != nullL) && (s.data.toList != intL) && (s.data.toList != floatL)) := by
  obtain ⟨t, ht⟩ := head_split s h0
  have hl : s.data.toList.length = s.size := by rw [Array.length_toList]; rfl
  have h1 := h.1
  have h2 := h.2 h0
  rw [← hl, List.take_length] at h1
  rw [ht] at h1 h2 hl ⊢
  exact nameV_end (by omega) h2 h1

set_option maxHeartbeats 4000000 in
theorem name_any (s : ByteArray) (w : World) (hm : s.size ≤ 9223372036854775807) : Calls Tryd.prog 71 #[.string s] w fun e w' => e = .returned (.bool (nameV s.data.toList)) ∧ w = w' := by
  obtain ⟨g, hg⟩ : ∃ g, nameV s.data.toList = g := ⟨_, rfl⟩
  rw [hg]
  have Hg := Lib.hid hg
  clear hg
  go_enter Tryd.func71, Tryd.ntmps71
  go_wp2_with fail
  go_loop [3, 4, 5] (fun i _ _ => ∃ k : Nat, k ≤ s.size ∧ i = .int .i64 k ∧ Seen s k) (fun i _ _ => s.size - (intOf i).toNat)
  case atStart => exact ⟨0, Nat.zero_le _, rfl, rfl, fun h => absurd h (by omega)⟩
  case round =>
    obtain ⟨k, hk, rfl, hS⟩ := hrel
    have HS := Lib.hid hS
    clear hS
    by_cases hlt : k < s.size
    · have hcl : (48 ≤ s[k].toNat ∧ s[k].toNat ≤ 57) ∨ s[k].toNat = 95 ∨ (65 ≤ s[k].toNat ∧ s[k].toNat ≤ 90) ∨ (97 ≤ s[k].toNat ∧ s[k].toNat ≤ 122) ∨ s[k].toNat ≤ 47 ∨ (58 ≤ s[k].toNat ∧ s[k].toNat ≤ 64) ∨ (91 ≤ s[k].toNat ∧ s[k].toNat ≤ 94) ∨ s[k].toNat = 96 ∨ 123 ≤ s[k].toNat := by omega
      rcases hcl with hc | hc | hc | hc | hc | hc | hc | hc | hc
      · have t1 : decide (48 ≤ (s[k].toNat : Int)) = true := decide_eq_true (by omega)
        have t2 : decide ((s[k].toNat : Int) ≤ 57) = true := decide_eq_true (by omega)
        have t3 : ((s[k].toNat : Int) != 95) = true := by rw [bne_iff_ne]; omega
        have t4 : decide ((s[k].toNat : Int) < 65) = true := decide_eq_true (by omega)
        have t5 : decide (90 < (s[k].toNat : Int)) = false := decide_eq_false (by omega)
        have t6 : decide ((s[k].toNat : Int) < 97) = true := decide_eq_true (by omega)
        have t7 : decide (122 < (s[k].toNat : Int)) = false := decide_eq_false (by omega)
        have Hd := Lib.hid (show digB s[k] = true by simp only [digB, t1, t2]; rfl)
        clear hc
        by_cases h0 : k = 0
        · obtain rfl : g = false := by
            rw [← Hg.out]
            have h1 := Hd.out
            subst h0
            exact bad_dig hlt h1
          subst h0
          go_wp2_with fail
          go_ret
          exact ⟨rfl, rfl⟩
        · have h1 : decide (0 < (k : Int)) = true := decide_eq_true (by omega)
          have hz : 0 < k := by omega
          go_wp2_with fail
          go_round
          case rel => exact ⟨k + 1, by omega, by go_num, HS.out.dig hlt hz Hd.out⟩
          case measure => simp [intOf]; omega
      · have t1 : decide (48 ≤ (s[k].toNat : Int)) = true := decide_eq_true (by omega)
        have t2 : decide ((s[k].toNat : Int) ≤ 57) = false := decide_eq_false (by omega)
        have t3 : ((s[k].toNat : Int) != 95) = false := by rw [hc]; rfl
        have t4 : decide ((s[k].toNat : Int) < 65) = false := decide_eq_false (by omega)
        have t5 : decide (90 < (s[k].toNat : Int)) = true := decide_eq_true (by omega)
        have t6 : decide ((s[k].toNat : Int) < 97) = true := decide_eq_true (by omega)
        have t7 : decide (122 < (s[k].toNat : Int)) = false := decide_eq_false (by omega)
        have Hd := Lib.hid (show letB s[k] = true by unfold letB; simp; omega)
        clear hc
        go_wp2_with fail
        go_round
        case rel => exact ⟨k + 1, by omega, by go_num, HS.out.let hlt Hd.out⟩
        case measure => simp [intOf]; omega
      · have t1 : decide (48 ≤ (s[k].toNat : Int)) = true := decide_eq_true (by omega)
        have t2 : decide ((s[k].toNat : Int) ≤ 57) = false := decide_eq_false (by omega)
        have t3 : ((s[k].toNat : Int) != 95) = true := by rw [bne_iff_ne]; omega
        have t4 : decide ((s[k].toNat : Int) < 65) = false := decide_eq_false (by omega)
        have t5 : decide (90 < (s[k].toNat : Int)) = false := decide_eq_false (by omega)
        have t6 : decide ((s[k].toNat : Int) < 97) = true := decide_eq_true (by omega)
        have t7 : decide (122 < (s[k].toNat : Int)) = false := decide_eq_false (by omega)
        have Hd := Lib.hid (show letB s[k] = true by unfold letB; simp; omega)
        clear hc
        go_wp2_with fail
        go_round
        case rel => exact ⟨k + 1, by omega, by go_num, HS.out.let hlt Hd.out⟩
        case measure => simp [intOf]; omega
      · have t1 : decide (48 ≤ (s[k].toNat : Int)) = true := decide_eq_true (by omega)
        have t2 : decide ((s[k].toNat : Int) ≤ 57) = false := decide_eq_false (by omega)
        have t3 : ((s[k].toNat : Int) != 95) = true := by rw [bne_iff_ne]; omega
        have t4 : decide ((s[k].toNat : Int) < 65) = false := decide_eq_false (by omega)
        have t5 : decide (90 < (s[k].toNat : Int)) = true := decide_eq_true (by omega)
        have t6 : decide ((s[k].toNat : Int) < 97) = false := decide_eq_false (by omega)
        have t7 : decide (122 < (s[k].toNat : Int)) = false := decide_eq_false (by omega)
        have Hd := Lib.hid (show letB s[k] = true by unfold letB; simp; omega)
        clear hc
        go_wp2_with fail
        go_round
        case rel => exact ⟨k + 1, by omega, by go_num, HS.out.let hlt Hd.out⟩
        case measure => simp [intOf]; omega
      · have t1 : decide (48 ≤ (s[k].toNat : Int)) = false := decide_eq_false (by omega)
        have t2 : decide ((s[k].toNat : Int) ≤ 57) = true := decide_eq_true (by omega)
        have t3 : ((s[k].toNat : Int) != 95) = true := by rw [bne_iff_ne]; omega
        have t4 : decide ((s[k].toNat : Int) < 65) = true := decide_eq_true (by omega)
        have t5 : decide (90 < (s[k].toNat : Int)) = false := decide_eq_false (by omega)
        have t6 : decide ((s[k].toNat : Int) < 97) = true := decide_eq_true (by omega)
        have t7 : decide (122 < (s[k].toNat : Int)) = false := decide_eq_false (by omega)
        obtain rfl : g = false := by
          rw [← Hg.out]
          refine bad_any hlt ?_ ?_
          · cases hl : letB s[k]
            · rfl
            · have := let_val hl; omega
          · simp only [digB, t1, t2]; rfl
        clear hc
        go_wp2_with fail
        go_ret
        exact ⟨rfl, rfl⟩
      · have t1 : decide (48 ≤ (s[k].toNat : Int)) = true := decide_eq_true (by omega)
        have t2 : decide ((s[k].toNat : Int) ≤ 57) = false := decide_eq_false (by omega)
        have t3 : ((s[k].toNat : Int) != 95) = true := by rw [bne_iff_ne]; omega
        have t4 : decide ((s[k].toNat : Int) < 65) = true := decide_eq_true (by omega)
        have t5 : decide (90 < (s[k].toNat : Int)) = false := decide_eq_false (by omega)
        have t6 : decide ((s[k].toNat : Int) < 97) = true := decide_eq_true (by omega)
        have t7 : decide (122 < (s[k].toNat : Int)) = false := decide_eq_false (by omega)
        obtain rfl : g = false := by
          rw [← Hg.out]
          refine bad_any hlt ?_ ?_
          · cases hl : letB s[k]
            · rfl
            · have := let_val hl; omega
          · simp only [digB, t1, t2]; rfl
        clear hc
        go_wp2_with fail
        go_ret
        exact ⟨rfl, rfl⟩
      · have t1 : decide (48 ≤ (s[k].toNat : Int)) = true := decide_eq_true (by omega)
        have t2 : decide ((s[k].toNat : Int) ≤ 57) = false := decide_eq_false (by omega)
        have t3 : ((s[k].toNat : Int) != 95) = true := by rw [bne_iff_ne]; omega
        have t4 : decide ((s[k].toNat : Int) < 65) = false := decide_eq_false (by omega)
        have t5 : decide (90 < (s[k].toNat : Int)) = true := decide_eq_true (by omega)
        have t6 : decide ((s[k].toNat : Int) < 97) = true := decide_eq_true (by omega)
        have t7 : decide (122 < (s[k].toNat : Int)) = false := decide_eq_false (by omega)
        obtain rfl : g = false := by
          rw [← Hg.out]
          refine bad_any hlt ?_ ?_
          · cases hl : letB s[k]
            · rfl
            · have := let_val hl; omega
          · simp only [digB, t1, t2]; rfl
        clear hc
        go_wp2_with fail
        go_ret
        exact ⟨rfl, rfl⟩
      · have t1 : decide (48 ≤ (s[k].toNat : Int)) = true := decide_eq_true (by omega)
        have t2 : decide ((s[k].toNat : Int) ≤ 57) = false := decide_eq_false (by omega)
        have t3 : ((s[k].toNat : Int) != 95) = true := by rw [bne_iff_ne]; omega
        have t4 : decide ((s[k].toNat : Int) < 65) = false := decide_eq_false (by omega)
        have t5 : decide (90 < (s[k].toNat : Int)) = true := decide_eq_true (by omega)
        have t6 : decide ((s[k].toNat : Int) < 97) = true := decide_eq_true (by omega)
        have t7 : decide (122 < (s[k].toNat : Int)) = false := decide_eq_false (by omega)
        obtain rfl : g = false := by
          rw [← Hg.out]
          refine bad_any hlt ?_ ?_
          · cases hl : letB s[k]
            · rfl
            · have := let_val hl; omega
          · simp only [digB, t1, t2]; rfl
        clear hc
        go_wp2_with fail
        go_ret
        exact ⟨rfl, rfl⟩
      · have t1 : decide (48 ≤ (s[k].toNat : Int)) = true := decide_eq_true (by omega)
        have t2 : decide ((s[k].toNat : Int) ≤ 57) = false := decide_eq_false (by omega)
        have t3 : ((s[k].toNat : Int) != 95) = true := by rw [bne_iff_ne]; omega
        have t4 : decide ((s[k].toNat : Int) < 65) = false := decide_eq_false (by omega)
        have t5 : decide (90 < (s[k].toNat : Int)) = true := decide_eq_true (by omega)
        have t6 : decide ((s[k].toNat : Int) < 97) = false := decide_eq_false (by omega)
        have t7 : decide (122 < (s[k].toNat : Int)) = true := decide_eq_true (by omega)
        obtain rfl : g = false := by
          rw [← Hg.out]
          refine bad_any hlt ?_ ?_
          · cases hl : letB s[k]
            · rfl
            · have := let_val hl; omega
          · simp only [digB, t1, t2]; rfl
        clear hc
        go_wp2_with fail
        go_ret
        exact ⟨rfl, rfl⟩
    · obtain rfl : k = s.size := by omega
      have e1 : (s.toList == [110, 117, 108, 108]) = (s.data.toList == nullL) := by rw [ByteArray.toList_eq]; rfl
      by_cases h0 : s.size = 0
      · obtain rfl : g = false := by
          rw [← Hg.out]
          have hs : s.data.toList = [] := by
            have : s = ByteArray.empty := by simpa using h0
            rw [this]; rfl
          rw [hs]; exact nameV_nil
        have t1 : decide (1 ≤ (s.size : Int)) = false := decide_eq_false (by omega)
        clear hk hlt h0 e1
        go_wp2_with fail
        go_ret
        exact ⟨rfl, rfl⟩
      · have t1 : decide (1 ≤ (s.size : Int)) = true := decide_eq_true (by omega)
        by_cases h16 : s.size ≤ 16
        · have t2 : decide ((s.size : Int) ≤ 16) = true := decide_eq_true (by omega)
          have hend := HS.out.end (by omega) h16
          rw [Hg.out] at hend
          subst hend
          clear hk hlt h0 h16 e1 Hg
          rcases Bool.eq_false_or_eq_true (s.toList == [110, 117, 108, 108]) with q1 | q1 <;> rcases Bool.eq_false_or_eq_true (s.toList == [105, 110, 116]) with q2 | q2 <;>
            rcases Bool.eq_false_or_eq_true (s.toList == [102, 108, 111, 97, 116]) with q3 | q3
          all_goals
            go_wp2_with fail
            go_ret
            exact ⟨by unfold nullL intL floatL; rw [← ByteArray.toList_eq]; simp only [bne, q1, q2, q3, Bool.not_true, Bool.not_false, Bool.true_and, Bool.false_and] <;> rfl, rfl⟩
        · obtain rfl : g = false := by
            rw [← Hg.out]
            exact nameV_long (by rw [Array.length_toList]; show 16 < s.size; omega)
          have t2 : decide ((s.size : Int) ≤ 16) = false := decide_eq_false (by omega)
          clear hk hlt h0 h16 e1
          go_wp2_with fail
          go_ret
          exact ⟨rfl, rfl⟩
end Go.Proofs.YtdgmdpphimenjaaDoor.R03

/-
  The document's own Right and Put of layer 3, walked.
-/
namespace Go.Proofs.YtdgmdpphimenjaaDoor.R03
open Go.RowKit NumM FloM WordM Mem

set_option maxHeartbeats 1000000 in
theorem right_1 (s : ByteArray) (n : Int) (hm : s.size ≤ 9223372036854775807) (w : World) :
    Calls Tryd.prog 41 #[.agg #[.int .i64 1, .string s, .int .i64 n]] w fun e w' => e = .returned (.bool ((n == 0) && nameV s.data.toList)) ∧ Below w.heap.size w w' := by
  obtain ⟨g, hg⟩ : ∃ g, nameV s.data.toList = g := ⟨_, rfl⟩
  have hq := fun w => name_any s w hm
  rw [hg] at hq ⊢
  have Hq := Lib.hid hq
  clear hq hg hm
  cases g
  all_goals
    go_enter Tryd.func41, Tryd.ntmps41
    go_wp2_with (go_at_call 71; (with_reducible refine (Hq.out _).mono ?_); rintro e w1 ⟨rfl, rfl⟩)
    go_ret
    exact ⟨by simp only [Bool.and_true, Bool.and_false] <;> rfl, one_more _ _⟩

set_option maxHeartbeats 1000000 in
theorem right_2 (s : ByteArray) (n : Int) (w : World) :
    Calls Tryd.prog 41 #[.agg #[.int .i64 2, .string s, .int .i64 n]] w fun e w' => e = .returned (.bool s.toList.isEmpty) ∧ Below w.heap.size w w' := by
  rcases Bool.eq_false_or_eq_true s.toList.isEmpty with h | h
  · have h' : (s.toList != []) = false := by rw [bne_eq_false_iff_eq]; simpa using h
    go_enter Tryd.func41, Tryd.ntmps41
    go_wp2_with fail
    go_quiet (fail)
    go_wp2_with fail
    go_ret
    exact ⟨by rw [h] <;> rfl, below_drewN (one_more _ _) _⟩
  · have h' : (s.toList != []) = true := by rw [bne_iff_ne]; intro e; rw [e] at h; simp at h
    go_enter Tryd.func41, Tryd.ntmps41
    go_wp2_with fail
    go_ret
    exact ⟨by rw [h] <;> rfl, one_more _ _⟩

set_option maxHeartbeats 2000000 in
theorem right_3 (s : ByteArray) (n : Int) (w : World) :
    Calls Tryd.prog 41 #[.agg #[.int .i64 3, .string s, .int .i64 n]] w fun e w' => e = .returned (.bool (s.toList.isEmpty && (plainV n == n))) ∧ Below w.heap.size w w' := by
  rcases Bool.eq_false_or_eq_true s.toList.isEmpty with h | h
  · have h' : (s.toList != []) = false := by rw [bne_eq_false_iff_eq]; simpa using h
    rcases Bool.eq_false_or_eq_true (plainV n == n) with h2 | h2
    all_goals
      go_enter Tryd.func41, Tryd.ntmps41
      go_wp2_with fail
      go_quiet ((go_at_call 72; exact Calls.quiet_of_same ((R02.plain_any n _).mono fun _ _ h => ⟨h.1, h.2.symm⟩)))
      go_wp2_with fail
      go_ret
      exact ⟨by simp only [h, h2, Bool.true_and] <;> rfl, below_drewN (one_more _ _) _⟩
  · have h' : (s.toList != []) = true := by rw [bne_iff_ne]; intro e; rw [e] at h; simp at h
    go_enter Tryd.func41, Tryd.ntmps41
    go_wp2_with fail
    go_ret
    exact ⟨by simp only [h, Bool.false_and] <;> rfl, one_more _ _⟩

set_option maxHeartbeats 2000000 in
theorem right_4 (s : ByteArray) (n : Int) (w : World) :
    Calls Tryd.prog 41 #[.agg #[.int .i64 4, .string s, .int .i64 n]] w fun e w' => e = .returned (.bool (s.toList.isEmpty && (n == 0))) ∧ Below w.heap.size w w' := by
  rcases Bool.eq_false_or_eq_true s.toList.isEmpty with h | h
  · have h' : (s.toList != []) = false := by rw [bne_eq_false_iff_eq]; simpa using h
    rcases Bool.eq_false_or_eq_true (n == 0) with h2 | h2
    all_goals
      go_enter Tryd.func41, Tryd.ntmps41
      go_wp2_with fail
      go_quiet (fail)
      go_wp2_with fail
      go_ret
      exact ⟨by simp only [h, h2, Bool.true_and] <;> rfl, below_drewN (one_more _ _) _⟩
  · have h' : (s.toList != []) = true := by rw [bne_iff_ne]; intro e; rw [e] at h; simp at h
    go_enter Tryd.func41, Tryd.ntmps41
    go_wp2_with fail
    go_ret
    exact ⟨by simp only [h, Bool.false_and] <;> rfl, one_more _ _⟩

set_option maxHeartbeats 2000000 in
theorem right_5 (s : ByteArray) (n : Int) (w : World) :
    Calls Tryd.prog 41 #[.agg #[.int .i64 5, .string s, .int .i64 n]] w fun e w' => e = .returned (.bool (s.toList.isEmpty && decide (0 ≤ n) && decide (n ≤ 999))) ∧ Below w.heap.size w w' := by
  rcases Bool.eq_false_or_eq_true s.toList.isEmpty with h | h
  · have h' : (s.toList != []) = false := by rw [bne_eq_false_iff_eq]; simpa using h
    rcases Bool.eq_false_or_eq_true (decide (0 ≤ n)) with h2 | h2 <;> rcases Bool.eq_false_or_eq_true (decide (n ≤ 999)) with h3 | h3
    all_goals
      go_enter Tryd.func41, Tryd.ntmps41
      go_wp2_with fail
      go_quiet (fail)
      go_wp2_with fail
      go_ret
      exact ⟨by simp only [h, h2, h3, Bool.true_and, Bool.false_and] <;> rfl, below_drewN (one_more _ _) _⟩
  · have h' : (s.toList != []) = true := by rw [bne_iff_ne]; intro e; rw [e] at h; simp at h
    go_enter Tryd.func41, Tryd.ntmps41
    go_wp2_with fail
    go_ret
    exact ⟨by simp only [h, Bool.false_and] <;> rfl, one_more _ _⟩

set_option maxHeartbeats 1000000 in
theorem right_0 (k : Int) (s : ByteArray) (n : Int) (w : World) (hk : k < 1 ∨ 5 < k) :
    Calls Tryd.prog 41 #[.agg #[.int .i64 k, .string s, .int .i64 n]] w fun e w' => e = .returned (.bool false) ∧ Below w.heap.size w w' := by
  have h1 : (k == 1) = false := by rw [beq_eq_false_iff_ne]; omega
  by_cases h : k < 1
  · have h2 : decide (k < 1) = true := decide_eq_true h
    clear hk
    go_enter Tryd.func41, Tryd.ntmps41
    go_wp2_with fail
    go_ret
    exact ⟨rfl, one_more _ _⟩
  · have h2 : decide (k < 1) = false := decide_eq_false h
    have h3 : decide (5 < k) = true := decide_eq_true (by omega)
    clear hk
    go_enter Tryd.func41, Tryd.ntmps41
    go_wp2_with fail
    go_ret
    exact ⟨rfl, one_more _ _⟩

theorem right_any (a : A) (hm : a.2.1.size ≤ 9223372036854775807) (w : World) :
    Calls Tryd.prog 41 #[val a] w fun e w' => e = .returned (.bool (rightV a)) ∧ Below w.heap.size w w' := by
  obtain ⟨k, s, n⟩ := a
  unfold val rightV
  simp only
  rw [show (s.data.toList == []) = s.toList.isEmpty by rw [ByteArray.toList_eq]; cases s.data.toList <;> rfl]
  split
  · rename_i h; subst h; exact right_1 s n hm w
  · split
    · rename_i h; subst h; exact right_2 s n w
    · split
      · rename_i h; subst h; exact right_3 s n w
      · split
        · rename_i h; subst h; exact right_4 s n w
        · split
          · rename_i h; subst h; exact right_5 s n w
          · rename_i h1 h2 h3 h4 h5
            exact right_0 k s n w (by omega)

theorem right_at (k : Int) (s : ByteArray) (n : Int) (b : Bool) (hm : s.size ≤ 9223372036854775807) (h : rightV (k, s, n) = b) (w : World) :
    Calls Tryd.prog 41 #[.agg #[.int .i64 k, .string s, .int .i64 n]] w fun e w' => e = .returned (.bool b) ∧ Below w.heap.size w w' := by
  rw [← h]; exact right_any (k, s, n) hm w

set_option maxHeartbeats 1000000 in
theorem put_no (k : Int) (s : ByteArray) (n : Int) (w : World) (hm : s.size ≤ 9223372036854775807) (h : rightV (k, s, n) = false) :
    Calls Tryd.prog 19 #[.agg #[.int .i64 k, .string s, .int .i64 n]] w fun e w' => e = .returned (.string ⟨#[]⟩) ∧ Below w.heap.size w w' := by
  have Hr := Lib.hid (right_at k s n false hm h)
  clear h hm
  go_enter Tryd.func19, Tryd.ntmps19
  go_wp2_with (go_at_call 41; refine (Hr.out _).mono ?_; rintro e w1 ⟨rfl, hb⟩)
  go_ret
  exact ⟨rfl, grow3 (one_more _ _) hb⟩
set_option maxHeartbeats 1000000 in
theorem put_1 (s : ByteArray) (w : World) (hm : s.size ≤ 9223372036854775807) (h : nameV s.data.toList = true) :
    Calls Tryd.prog 19 #[.agg #[.int .i64 1, .string s, .int .i64 0]] w fun e w' => e = .returned (.string s) ∧ Below w.heap.size w w' := by
  have Hr := Lib.hid (right_at 1 s 0 true hm (right1 h))
  clear h hm
  go_enter Tryd.func19, Tryd.ntmps19
  go_wp2_with (go_at_call 41; refine (Hr.out _).mono ?_; rintro e w1 ⟨rfl, hb⟩; obtain ⟨hc0, hc1, hc2⟩ := box3 hb)
  go_ret
  exact ⟨rfl, grow3 (one_more _ _) hb⟩
set_option maxHeartbeats 1000000 in
theorem put_2 (n : Int) (hn : In n) (w : World) :
    Calls Tryd.prog 19 #[.agg #[.int .i64 2, .string ⟨#[]⟩, .int .i64 n]] w fun e w' => e = .returned (.string ⟨(dec n).toArray⟩) ∧ Below w.heap.size w w' := by
  have Hr := Lib.hid (right_at 2 ⟨#[]⟩ n true (by decide) (right2 n))
  have Hn := Lib.hid hn
  clear hn
  go_enter Tryd.func19, Tryd.ntmps19
  go_wp2_with (first | (go_at_call 41; refine (Hr.out _).mono ?_; rintro e w1 ⟨rfl, hb⟩; obtain ⟨hc0, hc1, hc2⟩ := box3 hb) | (go_at_call 18; refine (R01.put_any n _ Hn.out).mono ?_; rintro e w2 ⟨rfl, hb2⟩))
  go_ret
  exact ⟨rfl, grow3 (grow3 (one_more _ _) hb) hb2⟩
set_option maxHeartbeats 1000000 in
theorem put_3 (n : Int) (hn : plainV n = n) (w : World) :
    Calls Tryd.prog 19 #[.agg #[.int .i64 3, .string ⟨#[]⟩, .int .i64 n]] w fun e w' => e = .returned (.string ⟨(putV n).toArray⟩) ∧ Below w.heap.size w w' := by
  have Hr := Lib.hid (right_at 3 ⟨#[]⟩ n true (by decide) (right3 hn))
  clear hn
  go_enter Tryd.func19, Tryd.ntmps19
  go_wp2_with (first | (go_at_call 41; refine (Hr.out _).mono ?_; rintro e w1 ⟨rfl, hb⟩; obtain ⟨hc0, hc1, hc2⟩ := box3 hb) | (go_at_call 42; refine (R02.put_any n _).mono ?_; rintro e w2 ⟨rfl, hb2⟩))
  go_ret
  exact ⟨rfl, grow3 (grow3 (one_more _ _) hb) hb2⟩
set_option maxHeartbeats 1000000 in
theorem put_4 (w : World) :
    Calls Tryd.prog 19 #[.agg #[.int .i64 4, .string ⟨#[]⟩, .int .i64 0]] w fun e w' => e = .returned (.string ⟨nullL.toArray⟩) ∧ Below w.heap.size w w' := by
  have Hr := Lib.hid (right_at 4 ⟨#[]⟩ 0 true (by decide) right4)
  go_enter Tryd.func19, Tryd.ntmps19
  go_wp2_with (go_at_call 41; refine (Hr.out _).mono ?_; rintro e w1 ⟨rfl, hb⟩; obtain ⟨hc0, hc1, hc2⟩ := box3 hb)
  go_ret
  exact ⟨rfl, grow3 (one_more _ _) hb⟩
set_option maxHeartbeats 1000000 in
theorem put_5 (n : Int) (hi : In n) (hn : 0 ≤ n ∧ n ≤ 999) (w : World) :
    Calls Tryd.prog 19 #[.agg #[.int .i64 5, .string ⟨#[]⟩, .int .i64 n]] w fun e w' => e = .returned (.string ⟨(35 :: dec n).toArray⟩) ∧ Below w.heap.size w w' := by
  have Hr := Lib.hid (right_at 5 ⟨#[]⟩ n true (by decide) (right5 hn))
  have Hi := Lib.hid hi
  have hfin : (⟨#[35]⟩ : ByteArray) ++ ⟨(dec n).toArray⟩ = ⟨(35 :: dec n).toArray⟩ := by
    apply ByteArray.ext; rw [ByteArray.data_append]; simp
  have Hfin := Lib.hid hfin
  have hlen : ¬ 9223372036854775807 < 1 + (dec n).length := by have := (read_dec n hi).2.2; omega
  clear hn hi hfin
  go_enter Tryd.func19, Tryd.ntmps19
  go_wp2_with (first | (go_at_call 41; refine (Hr.out _).mono ?_; rintro e w1 ⟨rfl, hb⟩; obtain ⟨hc0, hc1, hc2⟩ := box3 hb) | (go_at_call 18; refine (R01.put_any n _ Hi.out).mono ?_; rintro e w2 ⟨rfl, hb2⟩))
  go_ret
  exact ⟨congrArg (fun b => Ending.returned (Value.string b)) Hfin.out, grow3 (grow3 (one_more _ _) hb) hb2⟩

theorem put_any (a : A) (ha : In a.2.2) (hm : a.2.1.size ≤ 9223372036854775807) (w : World) :
    Calls Tryd.prog 19 #[val a] w fun e w' => e = .returned (.string ⟨(wput a).toArray⟩) ∧ Below w.heap.size w w' := by
  by_cases h : rightV a = true
  · rcases right_cases h with ⟨s, rfl, hn⟩ | ⟨n, rfl⟩ | ⟨n, rfl, hpl⟩ | rfl | ⟨n, rfl, hn⟩
    · rw [wput1 hn, bytes_of]; exact put_1 s w hm hn
    · rw [wput2]; exact put_2 n ha w
    · rw [wput3 hpl]; exact put_3 n hpl w
    · rw [wput4]; exact put_4 w
    · rw [wput5 hn]; exact put_5 n ha hn w
  · have h' : rightV a = false := by simpa using h
    have hp : wput a = [] := by unfold wput; rw [if_neg h]
    rw [hp]
    exact put_no a.1 a.2.1 a.2.2 w hm h'
theorem put_at (k : Int) (s : ByteArray) (n : Int) (l : List UInt8) (hn : In n) (hm : s.size ≤ 9223372036854775807) (h : wput (k, s, n) = l) (w : World) :
    Calls Tryd.prog 19 #[.agg #[.int .i64 k, .string s, .int .i64 n]] w fun e w' => e = .returned (.string ⟨l.toArray⟩) ∧ Below w.heap.size w w' := by
  rw [← h]; exact put_any (k, s, n) hn hm w
end Go.Proofs.YtdgmdpphimenjaaDoor.R03
