/-
  What the document's own Do does, walked: half, size, truth, bits, and Do.
-/
import Derived.Test.YtfoiiliioefgiaaRows
import Derived.Test.YtfoiiliioefgiaaRef01Math
import Derived.Test.YtfoiiliioefgiaaMem
import Derived.WalkKit
import Derived.WalkSpells
import Derived.WalkLawsBesides
import Derived.Lib.Hide
namespace Go.Proofs.Ytfoiiliioefgiaa.R01
open Go.RowKit NumM Mem

set_option maxHeartbeats 400000 in
theorem half_any (x : Int) (w : World) : Calls Try.prog 20 #[.int .u64 x] w fun e w' => e = .returned (.int .i64 (wrap64 x)) ∧ w = w' := by
  go_enter Try.func20, Try.ntmps20
  go_wp2
  go_ret
  exact ⟨rfl, rfl⟩

set_option maxHeartbeats 400000 in
theorem truth_any (x : Bool) (w : World) : Calls Try.prog 23 #[.bool x] w fun e w' => e = .returned (.int .i64 (tr x)) ∧ w = w' := by
  cases x
  all_goals
    go_enter Try.func23, Try.ntmps23
    go_wp2
    go_ret
    exact ⟨rfl, rfl⟩

set_option maxHeartbeats 400000 in
theorem size_any (n : Int) (w : World) (h : In n) : Calls Try.prog 21 #[.int .i64 n] w fun e w' => e = .returned (.int .u64 (n.natAbs : Int)) ∧ w = w' := by
  have h1 := h.1
  have h2 := h.2
  have hw : IntKind.u64.wrap (0 - IntKind.u64.wrap n) = -n ∨ 0 ≤ n := by rw [wu64, wu64]; omega
  have hw1 : IntKind.u64.wrap (-IntKind.u64.wrap n) = -n ∨ 0 ≤ n := by rw [wu64, wu64]; omega
  have hw2 : IntKind.u64.wrap n = n ∨ n < 0 := by rw [wu64]; omega
  clear h
  by_cases hn : n < 0
  all_goals
    go_enter Try.func21, Try.ntmps21
    go_wp2
    go_ret
    exact ⟨congrArg (fun x => Ending.returned (Value.int IntKind.u64 x)) (by omega), rfl⟩

/-- the four cells of a table. -/
def cells4 (t : Nat → Nat) : List Value := [.int .u64 (t 0 : Nat), .int .u64 (t 1 : Nat), .int .u64 (t 2 : Nat), .int .u64 (t 3 : Nat)]

theorem u64_eq {a b : Int} (h : a = b) : Value.int IntKind.u64 a = .int .u64 b := by rw [h]
theorem sum_eq {g p : Nat} {z : Int} {i : Nat} {t : Nat → Nat} (h : (t i = 0 ∧ z = g) ∨ (t i = 1 ∧ z = g + p)) : z = ((g + p * t i : Nat) : Int) := by
  rcases h with ⟨h1, h2⟩ | ⟨h1, h2⟩
  · rw [h1, h2]; simp
  · rw [h1, h2]; simp

set_option maxHeartbeats 1000000 in
theorem bits_any (t : Nat → Nat) (ht : t = tAnd ∨ t = tOr ∨ t = tXor) (a b : Int) (w : World) :
    Calls Try.prog 22 #[.int .i64 a, .int .i64 b, .agg (cells4 t).toArray] w fun e w' => e = .returned (.int .i64 (wrap64 (G t 64 (U a) (U b) : Int))) ∧ Below w.heap.size w w' := by
  have hua := U_val a
  have hub := U_val b
  have la := U_lt a
  have lb := U_lt b
  have Hua := Lib.hid hua
  have Hub := Lib.hid hub
  clear hua hub
  have hst := St.start t (U a) (U b)
  have Hst := Lib.hid hst
  have htl := t_le ht
  have Htl := Lib.hid htl
  clear hst htl
  rcases ht with rfl | rfl | rfl
  all_goals
    first
      | rw [show cells4 tAnd = [.int .u64 0, .int .u64 0, .int .u64 0, .int .u64 1] from rfl]
      | rw [show cells4 tOr = [.int .u64 0, .int .u64 1, .int .u64 1, .int .u64 1] from rfl]
      | rw [show cells4 tXor = [.int .u64 0, .int .u64 1, .int .u64 1, .int .u64 0] from rfl]
    go_enter Try.func22, Try.ntmps22
    go_wp2_with fail
    go_loop [7, 8, 9, 10, 11] (fun x y out pl i => ∃ k x' y' g p : Nat, k ≤ 64 ∧ i = .int .i64 (k : Int) ∧ x = .int .u64 (x' : Int) ∧ y = .int .u64 (y' : Int) ∧ out = .int .u64 (g : Int) ∧ pl = .int .u64 (p : Int) ∧ St _ (U a) (U b) k x' y' g p) (fun _ _ _ _ i => 64 - (intOf i).toNat)
    case atStart => exact ⟨0, U a, U b, 0, 1, by omega, rfl, by rw [Hua.out], by rw [Hub.out], rfl, rfl, Hst.out⟩
    case round =>
      obtain ⟨k, x', y', g, p, hk, rfl, rfl, rfl, rfl, rfl, hs⟩ := hrel
      have Hs := Lib.hid hs
      clear hs
      by_cases hlt : k < 64
      · obtain ⟨b1, b2, b3, b4, b5⟩ := St.bounds Htl.out la lb hlt Hs.out
        rcases (show (x' : Int) % 2 = 0 ∨ (x' : Int) % 2 = 1 from by omega) with hx | hx <;> rcases (show (y' : Int) % 2 = 0 ∨ (y' : Int) % 2 = 1 from by omega) with hy | hy
        all_goals
          have hn := St.next hlt Hs.out
          rw [show x' % 2 = ((x' : Int) % 2).toNat from by omega, show y' % 2 = ((y' : Int) % 2).toNat from by omega, hx, hy] at hn
          have Hn := Lib.hid hn
          clear hn
          go_wp2
          go_roundw
          case rel => exact ⟨k + 1, x' / 2, y' / 2, _, _, by omega, by go_num, u64_eq (by omega), u64_eq (by omega), u64_eq (sum_eq (by first | exact .inl ⟨rfl, by omega⟩ | exact .inr ⟨rfl, by omega⟩)), u64_eq (by rw [wu64]; omega), Hn.out⟩
          case measure => simp [intOf]; omega
      · have hk64 : k = 64 := by omega
        have hg := Hs.out.2.2.1
        rw [hk64] at hg
        have Hg := Lib.hid hg
        clear hg hk64
        go_wp2_with (go_at_call 20; refine (half_any _ _).mono ?_; rintro e w' ⟨rfl, rfl⟩)
        go_ret
        exact ⟨by rw [← Hg.out]; rfl, (Below.refl _ _).alloc (Nat.le_refl _) _⟩
theorem ret_pair {a b : Int} {x y : Bool} (h : a = b) (h' : x = y) : Ending.returned (.tuple #[.int .i64 a, .bool x]) = .returned (.tuple #[.int .i64 b, .bool y]) := by rw [h, h']

set_option maxHeartbeats 400000 in
theorem do_123 (op a b : Int) (w : World) (h : op = 1 ∨ op = 2 ∨ op = 3) :
    Calls Try.prog 10 #[.int .i64 op, .int .i64 a, .int .i64 b] w fun e w' => e = .returned (.tuple #[.int .i64 (doV op a b), .bool (doK op b)]) ∧ w = w' := by
  rcases h with rfl | rfl | rfl
  all_goals
    go_enter Try.func10, Try.ntmps10
    go_wp2_with (go_at_call 20; refine (half_any _ _).mono ?_; rintro e w' ⟨rfl, rfl⟩)
    go_ret2
    exact ⟨ret_pair (by first | exact r1 a b | exact r2 a b | exact r3 a b) rfl, rfl⟩

theorem bits_and (a b : Int) (w : World) : Calls Try.prog 22 #[.int .i64 a, .int .i64 b, .agg #[.int .u64 0, .int .u64 0, .int .u64 0, .int .u64 1]] w fun e w' => e = .returned (.int .i64 (doV 6 a b)) ∧ Below w.heap.size w w' := by
  rw [v6, ← and_G]; exact bits_any tAnd (.inl rfl) a b w
theorem bits_or (a b : Int) (w : World) : Calls Try.prog 22 #[.int .i64 a, .int .i64 b, .agg #[.int .u64 0, .int .u64 1, .int .u64 1, .int .u64 1]] w fun e w' => e = .returned (.int .i64 (doV 7 a b)) ∧ Below w.heap.size w w' := by
  rw [v7, ← or_G]; exact bits_any tOr (.inr (.inl rfl)) a b w
theorem bits_xor (a b : Int) (w : World) : Calls Try.prog 22 #[.int .i64 a, .int .i64 b, .agg #[.int .u64 0, .int .u64 1, .int .u64 1, .int .u64 0]] w fun e w' => e = .returned (.int .i64 (doV 8 a b)) ∧ Below w.heap.size w w' := by
  rw [v8, ← xor_G]; exact bits_any tXor (.inr (.inr rfl)) a b w

set_option maxHeartbeats 400000 in
theorem do_678 (op a b : Int) (w : World) (h : op = 6 ∨ op = 7 ∨ op = 8) :
    Calls Try.prog 10 #[.int .i64 op, .int .i64 a, .int .i64 b] w fun e w' => e = .returned (.tuple #[.int .i64 (doV op a b), .bool (doK op b)]) ∧ Below w.heap.size w w' := by
  rcases h with rfl | rfl | rfl
  · go_enter Try.func10, Try.ntmps10
    go_wp2_with (go_at_call 22; refine (bits_and _ _ _).mono ?_; rintro e w' ⟨rfl, hb⟩)
    go_ret2
    exact ⟨rfl, hb⟩
  · go_enter Try.func10, Try.ntmps10
    go_wp2_with (go_at_call 22; refine (bits_or _ _ _).mono ?_; rintro e w' ⟨rfl, hb⟩)
    go_ret2
    exact ⟨rfl, hb⟩
  · go_enter Try.func10, Try.ntmps10
    go_wp2_with (go_at_call 22; refine (bits_xor _ _ _).mono ?_; rintro e w' ⟨rfl, hb⟩)
    go_ret2
    exact ⟨rfl, hb⟩

set_option maxHeartbeats 400000 in
theorem do_truths (op a b : Int) (w : World) (h : op = 11 ∨ op = 12 ∨ op = 13 ∨ op = 14) :
    Calls Try.prog 10 #[.int .i64 op, .int .i64 a, .int .i64 b] w fun e w' => e = .returned (.tuple #[.int .i64 (doV op a b), .bool (doK op b)]) ∧ w = w' := by
  rcases h with rfl | rfl | rfl | rfl
  all_goals
    go_enter Try.func10, Try.ntmps10
    go_wp2_with (go_at_call 23; refine (truth_any _ _).mono ?_; rintro e w' ⟨rfl, rfl⟩)
    go_ret2
    exact ⟨ret_pair (by simp [doV]) (by simp [doK]), rfl⟩

set_option maxHeartbeats 400000 in
theorem do_shl (a b : Int) (w : World) : Calls Try.prog 10 #[.int .i64 9, .int .i64 a, .int .i64 b] w fun e w' => e = .returned (.tuple #[.int .i64 (doV 9 a b), .bool (doK 9 b)]) ∧ w = w' := by
  obtain ⟨n, hn, hle, hv⟩ : ∃ n : Nat, (IntKind.u64.wrap b).tmod 64 = (n : Int) ∧ n ≤ 63 ∧ doV 9 a b = wrap64 (a * 2 ^ n) := ⟨(b % 64).toNat, by rw [Int.tmod_eq_emod_of_nonneg (by rw [wu64]; omega)]; exact n64 b, by omega, rfl⟩
  have hua := U_val a
  have Hua := Lib.hid hua
  have Hv := Lib.hid hv
  clear hua hv
  go_enter Try.func10, Try.ntmps10
  go_wp2_with fail
  go_loop [11, 12] (fun x i => ∃ k : Nat, k ≤ n ∧ i = .int .u64 (k : Int) ∧ x = .int .u64 (U (a * 2 ^ k) : Int)) (fun _ i => n - (intOf i).toNat)
  case atStart => exact ⟨0, by omega, rfl, by rw [← Hua.out]; simp⟩
  case round =>
    obtain ⟨k, hk, rfl, rfl⟩ := hrel
    by_cases hlt : k < n
    · go_wp2_with fail
      go_round
      case rel => exact ⟨k + 1, by omega, by go_num, u64_eq (by rw [← mul_next, ← U_twice])⟩
      case measure => simp [intOf]; omega
    · obtain rfl : k = n := by omega
      go_wp2_with (go_at_call 20; refine (half_any _ _).mono ?_; rintro e w' ⟨rfl, rfl⟩)
      go_ret2
      exact ⟨ret_pair (by rw [wrap_U, Hv.out]) rfl, rfl⟩

set_option maxHeartbeats 400000 in
theorem do_shr (a b : Int) (w : World) (h : In a) : Calls Try.prog 10 #[.int .i64 10, .int .i64 a, .int .i64 b] w fun e w' => e = .returned (.tuple #[.int .i64 (doV 10 a b), .bool (doK 10 b)]) ∧ w = w' := by
  obtain ⟨n, hn, hle, hv⟩ : ∃ n : Nat, (IntKind.u64.wrap b).tmod 64 = (n : Int) ∧ n ≤ 63 ∧ doV 10 a b = a / 2 ^ n := ⟨(b % 64).toNat, by rw [Int.tmod_eq_emod_of_nonneg (by rw [wu64]; omega)]; exact n64 b, by omega, rfl⟩
  have hua := U_val a
  have Hua := Lib.hid hua
  have Hv := Lib.hid hv
  have Hi := Lib.hid h
  clear hua hv h
  by_cases hneg : a < 0
  all_goals
    go_enter Try.func10, Try.ntmps10
    go_wp2_with fail
    go_loop [11, 12] (fun x i => ∃ k : Nat, k ≤ n ∧ i = .int .u64 (k : Int) ∧ x = .int .u64 (U (a / 2 ^ k) : Int)) (fun _ i => n - (intOf i).toNat)
    case atStart => exact ⟨0, by omega, rfl, by rw [← Hua.out]; simp⟩
    case round =>
      obtain ⟨k, hk, rfl, rfl⟩ := hrel
      have hd := in_div a Hi.out k
      have hlt64 := U_lt (a / 2 ^ k)
      by_cases hlt : k < n
      · have Hd := Lib.hid hd
        clear hd
        go_wp2_with fail
        go_round
        case rel => exact ⟨k + 1, by omega, by go_num, u64_eq (by rw [← div_next]; first | exact U_half_neg _ (Hd.out.2.1 (by omega)) Hd.out.1 | exact U_half_pos _ (Hd.out.2.2 (by omega)) Hd.out.1)⟩
        case measure => simp [intOf]; omega
      · obtain rfl : k = n := by omega
        have Hd := Lib.hid hd
        clear hd
        go_wp2_with (go_at_call 20; refine (half_any _ _).mono ?_; rintro e w' ⟨rfl, rfl⟩)
        go_ret2
        exact ⟨ret_pair (by rw [wrap_U, Hv.out, wrap_in Hd.out.1]) rfl, rfl⟩

theorem quo_val (a b : Int) (hb : ¬ b = 0) : doV 4 a b = if decide (a < 0) = decide (b < 0) then wrap64 ((a.natAbs : Int) / (b.natAbs : Int)) else wrap64 (-((a.natAbs : Int) / (b.natAbs : Int))) := by
  rw [show doV 4 a b = if b = 0 then 0 else wrap64 (a.tdiv b) from rfl, if_neg hb, quo_sizes]
  split <;> simp
theorem rem_val (a b : Int) (hb : ¬ b = 0) (ha : In a) (hib : In b) : doV 5 a b = if a < 0 then wrap64 (-((a.natAbs : Int) % (b.natAbs : Int))) else wrap64 ((a.natAbs : Int) % (b.natAbs : Int)) := by
  have h1 : doV 5 a b = a.tmod b := by
    rw [show doV 5 a b = if b = 0 then 0 else a.tmod b from rfl, if_neg hb]
  have h2 : a.natAbs % b.natAbs < b.natAbs := Nat.mod_lt _ (by omega)
  obtain ⟨ha1, ha2⟩ := ha
  obtain ⟨hb1, hb2⟩ := hib
  have h3 : a.natAbs % b.natAbs ≤ a.natAbs := Nat.mod_le _ _
  rw [h1, rem_sizes]
  split
  · rw [← Int.natCast_emod, wrap_in]; unfold In; omega
  · rw [← Int.natCast_emod, wrap_in]; unfold In; omega

set_option maxRecDepth 100000 in
set_option maxHeartbeats 4000000 in
theorem do_quo (op a b : Int) (w : World) (h : op = 4 ∨ op = 5) (ha : In a) (hb : In b) : Calls Try.prog 10 #[.int .i64 op, .int .i64 a, .int .i64 b] w fun e w' => e = .returned (.tuple #[.int .i64 (doV op a b), .bool (doK op b)]) ∧ w = w' := by
  by_cases h0 : b = 0
  · subst h0
    clear ha hb
    rcases h with rfl | rfl
    all_goals
      go_enter Try.func10, Try.ntmps10
      go_wp2_with fail
      go_ret2
      exact ⟨ret_pair (by simp [doV]) (by simp [doK]), rfl⟩
  · have q4 := quo_val a b h0
    have q5 := rem_val a b h0 ha hb
    have k4 : doK 4 b = true := by simp [doK, h0]
    have k5 : doK 5 b = true := by simp [doK, h0]
    have e0 : (b == 0) = false := by simpa using h0
    have n1 : 1 ≤ (b.natAbs : Int) := by omega
    have m1 : (a.natAbs : Int) ≤ 9223372036854775808 := by obtain ⟨_, _⟩ := ha; omega
    have d1 : 0 ≤ (a.natAbs : Int) / (b.natAbs : Int) := Int.ediv_nonneg (by omega) (by omega)
    have d2 : (a.natAbs : Int) / (b.natAbs : Int) ≤ 9223372036854775808 := Int.le_trans (Int.ediv_le_self _ (by omega)) m1
    have f1 : 0 ≤ (a.natAbs : Int) % (b.natAbs : Int) := Int.emod_nonneg _ (by omega)
    have f2 : (a.natAbs : Int) % (b.natAbs : Int) ≤ 9223372036854775808 := by have h3 := Nat.mod_le a.natAbs b.natAbs; rw [← Int.natCast_emod]; omega
    have Ha := Lib.hid ha
    have Hb := Lib.hid hb
    by_cases ha0 : a < 0 <;> by_cases hb0 : b < 0
    · rw [if_pos (by simp [ha0, hb0])] at q4
      rw [if_pos ha0] at q5
      have ga : decide (a < 0) = true := by simp [ha0]
      have gb : decide (b < 0) = true := by simp [hb0]
      have Q4 := Lib.hid q4
      have Q5 := Lib.hid q5
      have K4 := Lib.hid k4
      have K5 := Lib.hid k5
      clear q4 q5 k4 k5 ha hb h0
      rcases h with rfl | rfl
      · go_enter Try.func10, Try.ntmps10
        go_wp2_with (first | (go_at_call 20; refine (half_any _ _).mono ?_; rintro e w' ⟨rfl, rfl⟩) | (go_at_call 21; refine (size_any _ _ (by first | exact Ha.out | exact Hb.out)).mono ?_; rintro e w' ⟨rfl, rfl⟩))
        go_ret2
        exact ⟨ret_pair (by rw [Q4.out]; try simp only [wrap_u]) K4.out.symm, rfl⟩
      · go_enter Try.func10, Try.ntmps10
        go_wp2_with (first | (go_at_call 20; refine (half_any _ _).mono ?_; rintro e w' ⟨rfl, rfl⟩) | (go_at_call 21; refine (size_any _ _ (by first | exact Ha.out | exact Hb.out)).mono ?_; rintro e w' ⟨rfl, rfl⟩))
        go_ret2
        exact ⟨ret_pair (by rw [Q5.out]; try simp only [wrap_u]) K5.out.symm, rfl⟩
    · rw [if_neg (by simp [ha0, hb0])] at q4
      rw [if_pos ha0] at q5
      have ga : decide (a < 0) = true := by simp [ha0]
      have gb : decide (b < 0) = false := by simp [hb0]
      have Q4 := Lib.hid q4
      have Q5 := Lib.hid q5
      have K4 := Lib.hid k4
      have K5 := Lib.hid k5
      clear q4 q5 k4 k5 ha hb h0
      rcases h with rfl | rfl
      · go_enter Try.func10, Try.ntmps10
        go_wp2_with (first | (go_at_call 20; refine (half_any _ _).mono ?_; rintro e w' ⟨rfl, rfl⟩) | (go_at_call 21; refine (size_any _ _ (by first | exact Ha.out | exact Hb.out)).mono ?_; rintro e w' ⟨rfl, rfl⟩))
        go_ret2
        exact ⟨ret_pair (by rw [Q4.out]; try simp only [wrap_u]) K4.out.symm, rfl⟩
      · go_enter Try.func10, Try.ntmps10
        go_wp2_with (first | (go_at_call 20; refine (half_any _ _).mono ?_; rintro e w' ⟨rfl, rfl⟩) | (go_at_call 21; refine (size_any _ _ (by first | exact Ha.out | exact Hb.out)).mono ?_; rintro e w' ⟨rfl, rfl⟩))
        go_ret2
        exact ⟨ret_pair (by rw [Q5.out]; try simp only [wrap_u]) K5.out.symm, rfl⟩
    · rw [if_neg (by simp [ha0, hb0])] at q4
      rw [if_neg ha0] at q5
      have ga : decide (a < 0) = false := by simp [ha0]
      have gb : decide (b < 0) = true := by simp [hb0]
      have Q4 := Lib.hid q4
      have Q5 := Lib.hid q5
      have K4 := Lib.hid k4
      have K5 := Lib.hid k5
      clear q4 q5 k4 k5 ha hb h0
      rcases h with rfl | rfl
      · go_enter Try.func10, Try.ntmps10
        go_wp2_with (first | (go_at_call 20; refine (half_any _ _).mono ?_; rintro e w' ⟨rfl, rfl⟩) | (go_at_call 21; refine (size_any _ _ (by first | exact Ha.out | exact Hb.out)).mono ?_; rintro e w' ⟨rfl, rfl⟩))
        go_ret2
        exact ⟨ret_pair (by rw [Q4.out]; try simp only [wrap_u]) K4.out.symm, rfl⟩
      · go_enter Try.func10, Try.ntmps10
        go_wp2_with (first | (go_at_call 20; refine (half_any _ _).mono ?_; rintro e w' ⟨rfl, rfl⟩) | (go_at_call 21; refine (size_any _ _ (by first | exact Ha.out | exact Hb.out)).mono ?_; rintro e w' ⟨rfl, rfl⟩))
        go_ret2
        exact ⟨ret_pair (by rw [Q5.out]; try simp only [wrap_u]) K5.out.symm, rfl⟩
    · rw [if_pos (by simp [ha0, hb0])] at q4
      rw [if_neg ha0] at q5
      have ga : decide (a < 0) = false := by simp [ha0]
      have gb : decide (b < 0) = false := by simp [hb0]
      have Q4 := Lib.hid q4
      have Q5 := Lib.hid q5
      have K4 := Lib.hid k4
      have K5 := Lib.hid k5
      clear q4 q5 k4 k5 ha hb h0
      rcases h with rfl | rfl
      · go_enter Try.func10, Try.ntmps10
        go_wp2_with (first | (go_at_call 20; refine (half_any _ _).mono ?_; rintro e w' ⟨rfl, rfl⟩) | (go_at_call 21; refine (size_any _ _ (by first | exact Ha.out | exact Hb.out)).mono ?_; rintro e w' ⟨rfl, rfl⟩))
        go_ret2
        exact ⟨ret_pair (by rw [Q4.out]; try simp only [wrap_u]) K4.out.symm, rfl⟩
      · go_enter Try.func10, Try.ntmps10
        go_wp2_with (first | (go_at_call 20; refine (half_any _ _).mono ?_; rintro e w' ⟨rfl, rfl⟩) | (go_at_call 21; refine (size_any _ _ (by first | exact Ha.out | exact Hb.out)).mono ?_; rintro e w' ⟨rfl, rfl⟩))
        go_ret2
        exact ⟨ret_pair (by rw [Q5.out]; try simp only [wrap_u]) K5.out.symm, rfl⟩

set_option maxRecDepth 100000 in
set_option maxHeartbeats 400000 in
theorem do_none (op a b : Int) (w : World) (h : op < 1 ∨ 14 < op) : Calls Try.prog 10 #[.int .i64 op, .int .i64 a, .int .i64 b] w fun e w' => e = .returned (.tuple #[.int .i64 (doV op a b), .bool (doK op b)]) ∧ w = w' := by
  have hv : doV op a b = 0 := by unfold doV; repeat (rw [if_neg (by omega)])
  have hk : doK op b = false := by unfold doK; rw [if_neg (by omega)]; simp; omega
  rw [hv, hk]
  have e1 : (op == 1) = false := by simp; omega
  have e2 : (op == 2) = false := by simp; omega
  have e3 : (op == 3) = false := by simp; omega
  have e4 : (op == 4) = false := by simp; omega
  have e5 : (op == 5) = false := by simp; omega
  have e6 : (op == 6) = false := by simp; omega
  have e7 : (op == 7) = false := by simp; omega
  have e8 : (op == 8) = false := by simp; omega
  have e9 : (op == 9) = false := by simp; omega
  have e10 : (op == 10) = false := by simp; omega
  have e11 : (op == 11) = false := by simp; omega
  have e12 : (op == 12) = false := by simp; omega
  have e13 : (op == 13) = false := by simp; omega
  have e14 : (op == 14) = false := by simp; omega
  clear hv hk h
  go_enter Try.func10, Try.ntmps10
  go_wp2
  go_ret2
  exact ⟨rfl, rfl⟩

/-- the document's Do, on whatever it is given. -/
theorem do_any (op a b : Int) (w : World) (ha : In a) (hb : In b) : Calls Try.prog 10 #[.int .i64 op, .int .i64 a, .int .i64 b] w fun e w' => e = .returned (.tuple #[.int .i64 (doV op a b), .bool (doK op b)]) ∧ Below w.heap.size w w' := by
  have up : ∀ {w' : World}, w = w' → Below w.heap.size w w' := fun h => by rw [h]; exact Below.refl _ _
  by_cases h0 : op < 1 ∨ 14 < op
  · exact (do_none op a b w h0).mono fun _ _ ⟨h1, h2⟩ => ⟨h1, up h2⟩
  · by_cases h1 : op = 1 ∨ op = 2 ∨ op = 3
    · exact (do_123 op a b w h1).mono fun _ _ ⟨h1, h2⟩ => ⟨h1, up h2⟩
    · by_cases h2 : op = 4 ∨ op = 5
      · exact (do_quo op a b w h2 ha hb).mono fun _ _ ⟨h1, h2⟩ => ⟨h1, up h2⟩
      · by_cases h3 : op = 6 ∨ op = 7 ∨ op = 8
        · exact do_678 op a b w h3
        · by_cases h4 : op = 9
          · subst h4
            exact (do_shl a b w).mono fun _ _ ⟨h1, h2⟩ => ⟨h1, up h2⟩
          · by_cases h5 : op = 10
            · subst h5
              exact (do_shr a b w ha).mono fun _ _ ⟨h1, h2⟩ => ⟨h1, up h2⟩
            · exact (do_truths op a b w (by omega)).mono fun _ _ ⟨h1, h2⟩ => ⟨h1, up h2⟩

end Go.Proofs.Ytfoiiliioefgiaa.R01
