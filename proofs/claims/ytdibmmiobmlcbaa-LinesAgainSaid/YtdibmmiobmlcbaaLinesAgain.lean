/-
  Words that are written as lines are read as they were, and blanks, empty lines and remarks mean nothing: the statement LinesAgain. No condition.
-/
import Derived.Test.YtdibmmiobmlcbaaLaw04
import Derived.Test.YtdibmmiobmlcbaaLinesLawMath
import Derived.Test.YtdibmmiobmlcbaaShell
import Derived.ProofKit
import Derived.OpenShut
import Derived.SizedLaws
namespace Go.Proofs.Ytdibmmiobmlcbaa.linesAgain
open Go.ChangeShapes Go.WideShapes Go.ChangeAt Go.RowKit
open LinesM Mem
theorem feeds_snoc (s : ByteArray) (k : Nat) (h : k < s.size) : feeds (s.data.toList.take (k + 1)) = feeds (s.data.toList.take k) + if s[k] = 10 then 1 else 0 := by
  have e : s.data.toList.take (k + 1) = s.data.toList.take k ++ [s[k]] := by rw [List.take_succ_eq_append_getElem (by simpa using h)]; rfl
  rw [e]
  unfold feeds
  rw [List.filter_append]
  by_cases hc : s[k] = 10 <;> simp [hc]
theorem feed_yes {c : UInt8} (h : ((c.toNat : Int) == 10) = true) : c = 10 := by
  have : c.toNat = 10 := by simp only [beq_iff_eq] at h; omega
  rw [← UInt8.toNat_inj]; exact this
theorem feed_no {c : UInt8} (h : ((c.toNat : Int) == 10) = false) : c ≠ 10 := by intro e; subst e; simp at h

set_option maxRecDepth 100000 in
set_option maxHeartbeats 8000000 in
theorem walk_a (s t : ByteArray) (hs : s.size ≤ 140737488351232) (o : List Ln) (m y : Nat) (h1 : splitV s.data.toList = (o, m, y)) (hy : y ≠ 0) (w : World) :
    Calls Try.prog 5 #[.string s, .string t] w fun e w' => e = .returned (.bool true) ∧ Below w.heap.size w w' := by
  have Q1 := Lib.hid fun w => split_at s o m y m y rfl rfl h1 (by unfold maxLen; omega) w
  have ey1 : ((y : Int) != 0) = true := by simp; omega
  have ey2 : ((y : Int) == 0) = false := by simp; omega
  clear hy
  clear h1
  go_enter Try.func5, Try.ntmps5
  go_wp2_with fail
  refine (Q1.out _).mono ?_; rintro e w1 ⟨v1, xs, rfl, hx, hn, ho1, hb1⟩
  have HX := Lib.hid hx
  have HO1 := Lib.hid ho1
  have HB1 := Lib.hid hb1
  clear hx ho1 hb1
  go_wp2_with fail
  refine (awake_any _).mono ?_; rintro e w2 ⟨rfl, hb2⟩
  have HB2 := Lib.hid (HB1.out.trans (hb2.mono HB1.out.size))
  clear hb2
  go_wp2_with fail
  refine (awake_any _).mono ?_; rintro e w3 ⟨rfl, hb3⟩
  have HB3 := Lib.hid (HB2.out.trans (hb3.mono HB2.out.size))
  clear hb3
  go_wp2_with fail
  go_ret
  exact ⟨rfl, HB3.out⟩

set_option maxRecDepth 100000 in
set_option maxHeartbeats 8000000 in
theorem walk_b (s t : ByteArray) (hs : s.size ≤ 140737488351232) (o : List Ln) (m y : Nat) (h1 : splitV s.data.toList = (o, m, y)) (hy : y = 0) (hl : 30000 < s.size) (w : World) :
    Calls Try.prog 5 #[.string s, .string t] w fun e w' => e = .returned (.bool true) ∧ Below w.heap.size w w' := by
  have Q1 := Lib.hid fun w => split_at s o m y m y rfl rfl h1 (by unfold maxLen; omega) w
  subst hy
  have g1 : decide ((30000 : Int) < (s.size : Int)) = true := decide_eq_true (by omega)
  clear h1
  go_enter Try.func5, Try.ntmps5
  go_wp2_with fail
  refine (Q1.out _).mono ?_; rintro e w1 ⟨v1, xs, rfl, hx, hn, ho1, hb1⟩
  have HX := Lib.hid hx
  have HO1 := Lib.hid ho1
  have HB1 := Lib.hid hb1
  clear hx ho1 hb1
  go_wp2_with fail
  refine (awake_any _).mono ?_; rintro e w2 ⟨rfl, hb2⟩
  have HB2 := Lib.hid (HB1.out.trans (hb2.mono HB1.out.size))
  clear hb2
  go_wp2_with fail
  refine (awake_any _).mono ?_; rintro e w3 ⟨rfl, hb3⟩
  have HB3 := Lib.hid (HB2.out.trans (hb3.mono HB2.out.size))
  clear hb3
  go_wp2_with fail
  go_ret
  exact ⟨rfl, HB3.out⟩

set_option maxRecDepth 100000 in
set_option maxHeartbeats 8000000 in
theorem walk_c (s t : ByteArray) (hs : s.size ≤ 140737488351232) (o : List Ln) (m y : Nat) (h1 : splitV s.data.toList = (o, m, y)) (hy : y = 0) (hl : s.size ≤ 30000) (hk : 1000 < t.size) (w : World) :
    Calls Try.prog 5 #[.string s, .string t] w fun e w' => e = .returned (.bool true) ∧ Below w.heap.size w w' := by
  have Q1 := Lib.hid fun w => split_at s o m y m y rfl rfl h1 (by unfold maxLen; omega) w
  subst hy
  have g1 : decide ((30000 : Int) < (s.size : Int)) = false := decide_eq_false (by omega)
  have g2 : decide ((1000 : Int) < (t.size : Int)) = true := decide_eq_true (by omega)
  clear h1
  go_enter Try.func5, Try.ntmps5
  go_wp2_with fail
  refine (Q1.out _).mono ?_; rintro e w1 ⟨v1, xs, rfl, hx, hn, ho1, hb1⟩
  have HX := Lib.hid hx
  have HO1 := Lib.hid ho1
  have HB1 := Lib.hid hb1
  clear hx ho1 hb1
  go_wp2_with fail
  refine (awake_any _).mono ?_; rintro e w2 ⟨rfl, hb2⟩
  have HB2 := Lib.hid (HB1.out.trans (hb2.mono HB1.out.size))
  clear hb2
  go_wp2_with fail
  refine (awake_any _).mono ?_; rintro e w3 ⟨rfl, hb3⟩
  have HB3 := Lib.hid (HB2.out.trans (hb3.mono HB2.out.size))
  clear hb3
  go_wp2_with fail
  go_ret
  exact ⟨rfl, HB3.out⟩

theorem piece (s : ByteArray) (k : Nat) (h : k < s.size) : (s.extract k (k + 1)).data.toList = [s[k]] := by
  rw [Lib.extract_data, drop_at s k h]
  simp
theorem widen_step {s T c : ByteArray} {k : Nat} {d : List UInt8} (h : k < s.size) (hT : T.data.toList = [10, 32, 9, 10] ++ widen (s.data.toList.take k)) (hc : c.data.toList = if s[k] = 32 then [32, 9, 32] else [s[k]]) (_ : d = []) : (T ++ c).data.toList = [10, 32, 9, 10] ++ widen (s.data.toList.take (k + 1)) := by
  have e : s.data.toList.take (k + 1) = s.data.toList.take k ++ [s[k]] := by rw [List.take_succ_eq_append_getElem (by simpa using h)]; rfl
  rw [e, widen_next, ByteArray.data_append, Array.toList_append, hT, hc, List.append_assoc]

set_option maxRecDepth 100000 in
set_option maxHeartbeats 16000000 in
theorem walk_d (s t : ByteArray) (hs : s.size ≤ 30000) (ht : t.size ≤ 1000) (o : List Ln) (m : Nat) (h1 : splitV s.data.toList = (o, m, 0)) (w : World) :
    Calls Try.prog 5 #[.string s, .string t] w fun e w' => e = .returned (.bool true) ∧ Below w.heap.size w w' := by
  have Q1 := Lib.hid fun w => split_at s o m 0 m 0 rfl rfl h1 (by unfold maxLen; omega) w
  obtain ⟨hTl, hag⟩ := again h1 (by rw [size_list]; exact hs)
  obtain ⟨T, hT⟩ : ∃ T, joinV (o.map fun x => x.2) = T := ⟨_, rfl⟩
  rw [hT] at hTl hag
  obtain ⟨sJ, hsJ⟩ : ∃ sJ : ByteArray, sJ = ⟨T.toArray⟩ := ⟨_, rfl⟩
  have hJd : sJ.data.toList = T := by rw [hsJ]
  have hJs : sJ.size = T.length := by rw [← size_list, hJd]
  have Q4 := Lib.hid fun w => split_at sJ _ 0 0 0 0 rfl rfl (by rw [hJd]; exact hag) (by rw [hJs]; unfold maxLen; omega) w
  have HT := Lib.hid hT
  have HTL : Hid (T.length ≤ 1099511627776) := Lib.hid (by omega)
  have HSJ := Lib.hid hsJ
  have HBL := Lib.hid (fun r => blanks (r := r) h1 (by rw [size_list]; exact hs))
  have g1 : decide ((30000 : Int) < (s.size : Int)) = false := decide_eq_false (by omega)
  have g2 : decide ((1000 : Int) < (t.size : Int)) = false := decide_eq_false (by omega)
  clear h1 hTl hag hT hsJ hJd hJs
  go_enter Try.func5, Try.ntmps5
  go_wp2_with fail
  refine (Q1.out _).mono ?_; rintro e w1 ⟨v1, xs, rfl, hx, hn, ho1, hb1⟩
  have HX := Lib.hid hx
  have HO1 := Lib.hid ho1
  have HB1 := Lib.hid hb1
  clear hx ho1 hb1
  go_wp2_with fail
  refine (awake_any _).mono ?_; rintro e w2 ⟨rfl, hb2⟩
  have HL2 := Lib.hid ((HO1.out.below hb2).lins (by omega))
  have HS2 := Lib.hid hb2.size
  have HB2 := Lib.hid (HB1.out.trans (hb2.mono HB1.out.size))
  clear hb2 HO1
  go_wp2_with fail
  refine (join_at _ _ _ xs T sJ HSJ.out _ HL2.out (Nat.le_refl _) (by rw [words_of_lns HX.out]; exact HT.out) HTL.out).mono ?_; rintro e w3 ⟨rfl, hb3⟩
  have HL3 := Lib.hid (HL2.out.below hb3)
  have HS3 := Lib.hid hb3.size
  have HB3 := Lib.hid (HB2.out.trans (hb3.mono HB2.out.size))
  clear hb3 HL2
  go_wp2_with fail
  refine (Q4.out _).mono ?_; rintro e w4 ⟨v4, ys, rfl, hy, hn4, ho4, hb4⟩
  have HY := Lib.hid hy
  have HO4 := Lib.hid ho4
  have HL4 := Lib.hid (HL3.out.below (hb4.mono HS3.out))
  have HS4 := Lib.hid (Nat.le_trans HS3.out hb4.size)
  have HS34 := Lib.hid hb4.size
  have HB4 := Lib.hid (HB3.out.trans (hb4.mono HB3.out.size))
  clear hy ho4 hb4 HL3
  go_wp2_with fail
  go_loop [11, 12, 13] (fun a i _ => ∃ (k : Nat) (B : ByteArray), k ≤ s.size ∧ i = .int .i64 k ∧ a = .string B ∧ B.size ≤ 4 + 3 * k ∧ Hid (B.data.toList = [10, 32, 9, 10] ++ widen (s.data.toList.take k))) (fun _ i _ => s.size - (intOf i).toNat)
  case atStart => exact ⟨0, ⟨#[10, 32, 9, 10]⟩, Nat.zero_le _, rfl, rfl, by show 4 ≤ _; omega, Lib.hid rfl⟩
  case round =>
  obtain ⟨k, B, hk, rfl, rfl, hB, HBT⟩ := hrel
  by_cases hlt : k < s.size
  · have hpc := piece s k hlt
    have hps : (s.extract k (k + 1)).size = 1 := by rw [← size_list, hpc]; rfl
    by_cases h32 : s[k] = 32
    · have e1 : ((s.extract k (k + 1)).toList == [32]) = true := by rw [ByteArray.toList_eq, hpc, h32]; rfl
      have hstep := widen_step (d := []) hlt HBT.out (c := ⟨#[32, 9, 32]⟩) (by rw [if_pos h32]) rfl
      have HST := Lib.hid hstep
      have g3 : ¬ 9223372036854775807 < B.size + 3 := by omega
      have hsz : (B ++ ⟨#[32, 9, 32]⟩ : ByteArray).size = B.size + 3 := by rw [ByteArray.size_append]; rfl
      have HSZ := Lib.hid hsz
      clear hstep hpc hps hsz h32
      go_wp2
      go_round
      case rel => exact ⟨k + 1, B ++ ⟨#[32, 9, 32]⟩, by omega, by go_num, rfl, by rw [HSZ.out]; omega, HST⟩
      case measure => simp [intOf]; omega
    · have e1 : ((s.extract k (k + 1)).toList == [32]) = false := by rw [ByteArray.toList_eq, hpc, beq_eq_false_iff_ne]; intro e; exact h32 (by simpa using e)
      have hstep := widen_step (d := []) hlt HBT.out (c := s.extract k (k + 1)) (by rw [if_neg h32]; exact hpc) rfl
      have HST := Lib.hid hstep
      have g3 : ¬ 9223372036854775807 < B.size + (s.extract k (k + 1)).size := by omega
      have hsz : (B ++ s.extract k (k + 1)).size = B.size + 1 := by rw [ByteArray.size_append, hps]
      have HSZ := Lib.hid hsz
      clear hstep hpc hsz h32
      go_wp2
      go_round
      case rel => exact ⟨k + 1, B ++ s.extract k (k + 1), by omega, by go_num, rfl, by rw [HSZ.out]; omega, HST⟩
      case measure => simp [intOf]; omega
  obtain rfl : k = s.size := by omega
  have hB2 : B.data.toList = [10, 32, 9, 10] ++ widen s.data.toList := by have := HBT.out; rw [List.take_of_length_le (by rw [size_list]; exact Nat.le_refl _)] at this; exact this
  have HBE := Lib.hid hB2
  have hB3 : B.size ≤ 90004 := by omega
  clear HBT hlt hk hB hB2
  go_wp2
  go_loop [14, 15] (fun p i => ∃ (k : Nat) (b : Bool), k ≤ t.size ∧ i = .int .i64 k ∧ p = .bool b ∧ Hid (b = (t.data.toList.take k).all fun c => c != 10)) (fun _ i => t.size - (intOf i).toNat)
  case atStart => exact ⟨0, true, Nat.zero_le _, rfl, rfl, Lib.hid rfl⟩
  case round =>
  obtain ⟨k, b, hk, rfl, rfl, HP⟩ := hrel
  by_cases hlt : k < t.size
  · have e : t.data.toList.take (k + 1) = t.data.toList.take k ++ [t[k]] := by rw [List.take_succ_eq_append_getElem (by simpa using hlt)]; rfl
    have hal : ((t.data.toList.take (k + 1)).all fun c => c != 10) = (b && (t[k] != 10)) := by rw [e, List.all_append, ← HP.out]; simp
    have hc10 : (t[k] != 10) = ((t[k].toNat : Int) != 10) := by
      rw [Bool.eq_iff_iff]
      simp only [bne_iff_ne, ne_eq]
      exact ⟨fun h h2 => h (feed_yes (by rw [h2]; rfl)), fun h h2 => h (by rw [h2]; rfl)⟩
    rw [hc10] at hal
    have HAL := Lib.hid hal
    clear e hal hc10
    cases b with
    | true =>
      rcases Bool.eq_false_or_eq_true ((t[k].toNat : Int) != 10) with hq | hq
      · have HQ := Lib.hid hq
        go_wp2
        go_round
        case rel => exact ⟨k + 1, true, by omega, by go_num, rfl, Lib.hid (by rw [HAL.out, HQ.out]; rfl)⟩
        case measure => simp [intOf]; omega
      · have HQ := Lib.hid hq
        go_wp2
        go_round
        case rel => exact ⟨k + 1, false, by omega, by go_num, rfl, Lib.hid (by rw [HAL.out, HQ.out]; rfl)⟩
        case measure => simp [intOf]; omega
    | false =>
      go_wp2
      go_round
      case rel => exact ⟨k + 1, false, by omega, by go_num, rfl, Lib.hid (by rw [HAL.out]; rfl)⟩
      case measure => simp [intOf]; omega
  obtain rfl : k = t.size := by omega
  have hpl : b = t.data.toList.all fun c => c != 10 := by have := HP.out; rw [List.take_of_length_le (by rw [size_list]; exact Nat.le_refl _)] at this; exact this
  have HPL := Lib.hid hpl
  clear HP hlt hk hpl
  have g5 : ¬ 9223372036854775807 < B.size + 1 := by omega
  have g6 : ¬ 9223372036854775807 < B.size + 1 + t.size := by omega
  have hq5 : ∀ (b2 : Bool), b = b2 → splitV (if b2 = true then (B ++ ⟨#[59]⟩ ++ t : ByteArray) else B).data.toList = (sh 2 o, 0, 0) := by
    intro b2 hb2
    cases b2 with
    | true =>
      rw [if_pos rfl]
      have e : (B ++ ⟨#[59]⟩ ++ t : ByteArray).data.toList = [10, 32, 9, 10] ++ widen s.data.toList ++ 59 :: t.data.toList := by simp [ByteArray.data_append, HBE.out]
      rw [e]
      refine (HBL.out _).2 ?_ (by rw [size_list]; exact ht)
      have := HPL.out
      rw [hb2] at this
      intro c hc
      simpa using List.all_eq_true.1 this.symm c hc
    | false => rw [if_neg (by simp), HBE.out]; exact (HBL.out []).1
  have HQ5 := Lib.hid hq5
  clear hq5
  cases b with
  | true =>
    have Q5 := Lib.hid fun w => split_at (B ++ ⟨#[59]⟩ ++ t) _ 0 0 0 0 rfl rfl (HQ5.out true rfl) (by rw [ByteArray.size_append, ByteArray.size_append]; show B.size + 1 + t.size ≤ _; unfold maxLen; omega) w
    go_wp2_with fail
    refine (Q5.out _).mono ?_; rintro e w5 ⟨v5, zs, rfl, hz, hn5, ho5, hb5⟩
    have HZ := Lib.hid hz
    have HL5 := Lib.hid (ho5.lins (by omega))
    have HM5 := Lib.hid (HL4.out.below (hb5.mono HS4.out))
    have HN5 := Lib.hid ((HO4.out.below hb5).lins (by omega))
    have HS5 := Lib.hid (Nat.le_trans HS4.out hb5.size)
    have HS45 := Lib.hid hb5.size
    have HS35 := Lib.hid HB4.out.size
    have HB5 := Lib.hid (HB4.out.trans (hb5.mono HB4.out.size))
    clear hz ho5 hb5 HO4 HL4
    go_wp2_with fail
    refine (back_any _ _ _ _ xs HM5.out HS5.out (by omega)).mono ?_; rintro e w6 ⟨v6, rfl, hr6, hb6⟩
    have HA6 := Lib.hid (lins_over HM5.out (hb6.mono HS5.out) (Nat.le_trans HS5.out hb6.size) hr6 HB5.out.size)
    have HM6 := Lib.hid (HM5.out.below (hb6.mono HS5.out))
    have HN6 := Lib.hid (HN5.out.below hb6)
    have HL6 := Lib.hid (HL5.out.below hb6)
    have HS56 := Lib.hid hb6.size
    have HS6 := Lib.hid (Nat.le_trans HS5.out hb6.size)
    have HB6 := Lib.hid (HB5.out.trans (hb6.mono HB5.out.size))
    clear hr6 hb6 HM5 HN5 HL5
    go_wp2_with fail
    refine (back_any _ _ _ _ ys HN6.out HS56.out (by omega)).mono ?_; rintro e w7 ⟨v7, rfl, hr7, hb7⟩
    have HB7' := Lib.hid (lins_over HN6.out (hb7.mono HS56.out) (Nat.le_trans HS56.out hb7.size) hr7 (Nat.le_trans HS34.out (Nat.le_trans HS45.out HS56.out)))
    have HA7 := Lib.hid (HA6.out.below hb7)
    have HM7 := Lib.hid (HM6.out.below (hb7.mono HS6.out))
    have HL7 := Lib.hid (HL6.out.below (hb7.mono HS56.out))
    have HS67 := Lib.hid hb7.size
    have HS7 := Lib.hid (Nat.le_trans HS6.out hb7.size)
    have HS57 := Lib.hid (Nat.le_trans HS56.out hb7.size)
    have HB7 := Lib.hid (HB6.out.trans (hb7.mono HB6.out.size))
    clear hr7 hb7 HA6 HM6 HL6 HN6
    go_wp2_with fail
    refine (same_any false _ _ _ _ _ _ _ xs ys HA7.out HB7'.out HS67.out (Nat.le_refl _) (alike_words (by have h1 := words_of_lns HX.out; have h2 := words_of_lns HY.out; rw [number_words] at h2; unfold wordsOf at h1 h2; rw [h1, h2]))).mono ?_; rintro e w8 ⟨rfl, hb8⟩
    have HM8 := Lib.hid (HM7.out.below (hb8.mono HS7.out))
    have HL8 := Lib.hid (HL7.out.below (hb8.mono HS57.out))
    have HS8 := Lib.hid (Nat.le_trans HS7.out hb8.size)
    have HS58 := Lib.hid (Nat.le_trans HS57.out hb8.size)
    have HB8 := Lib.hid (HB7.out.trans (hb8.mono HB7.out.size))
    clear hb8 HM7 HL7 HA7 HB7'
    go_wp2_with fail
    refine (back_any _ _ _ _ xs HM8.out HS8.out (by omega)).mono ?_; rintro e w9 ⟨v9, rfl, hr9, hb9⟩
    have HA9 := Lib.hid (lins_over HM8.out (hb9.mono HS8.out) (Nat.le_trans HS8.out hb9.size) hr9 HB8.out.size)
    have HL9 := Lib.hid (HL8.out.below (hb9.mono HS58.out))
    have HS59 := Lib.hid (Nat.le_trans HS58.out hb9.size)
    have HB9 := Lib.hid (HB8.out.trans (hb9.mono HB8.out.size))
    clear hr9 hb9 HM8 HL8
    go_wp2_with fail
    refine (back_any _ _ _ _ zs HL9.out HS59.out (by omega)).mono ?_; rintro e wa ⟨va, rfl, hra, hba⟩
    have HCa := Lib.hid (lins_over HL9.out (hba.mono HS59.out) (Nat.le_trans HS59.out hba.size) hra (Nat.le_trans HS45.out HS59.out))
    have HAa := Lib.hid (HA9.out.below hba)
    have HSa := Lib.hid hba.size
    have HBa := Lib.hid (HB9.out.trans (hba.mono HB9.out.size))
    clear hra hba HA9 HL9
    go_wp2_with fail
    refine (same_any false _ _ _ _ _ _ _ xs zs HAa.out HCa.out HSa.out (Nat.le_refl _) (alike_words (by have h1 := words_of_lns HX.out; have h2 := words_of_lns HZ.out; rw [sh_words] at h2; unfold wordsOf at h1 h2; rw [h1, h2]))).mono ?_; rintro e wb ⟨rfl, hbb⟩
    have HBb := Lib.hid (HBa.out.trans (hbb.mono HBa.out.size))
    clear hbb
    go_wp2_with fail
    go_ret
    exact ⟨rfl, HBb.out⟩
  | false =>
    have Q5 := Lib.hid fun w => split_at B _ 0 0 0 0 rfl rfl (HQ5.out false rfl) (by unfold maxLen; omega) w
    go_wp2_with fail
    refine (Q5.out _).mono ?_; rintro e w5 ⟨v5, zs, rfl, hz, hn5, ho5, hb5⟩
    have HZ := Lib.hid hz
    have HL5 := Lib.hid (ho5.lins (by omega))
    have HM5 := Lib.hid (HL4.out.below (hb5.mono HS4.out))
    have HN5 := Lib.hid ((HO4.out.below hb5).lins (by omega))
    have HS5 := Lib.hid (Nat.le_trans HS4.out hb5.size)
    have HS45 := Lib.hid hb5.size
    have HS35 := Lib.hid HB4.out.size
    have HB5 := Lib.hid (HB4.out.trans (hb5.mono HB4.out.size))
    clear hz ho5 hb5 HO4 HL4
    go_wp2_with fail
    refine (back_any _ _ _ _ xs HM5.out HS5.out (by omega)).mono ?_; rintro e w6 ⟨v6, rfl, hr6, hb6⟩
    have HA6 := Lib.hid (lins_over HM5.out (hb6.mono HS5.out) (Nat.le_trans HS5.out hb6.size) hr6 HB5.out.size)
    have HM6 := Lib.hid (HM5.out.below (hb6.mono HS5.out))
    have HN6 := Lib.hid (HN5.out.below hb6)
    have HL6 := Lib.hid (HL5.out.below hb6)
    have HS56 := Lib.hid hb6.size
    have HS6 := Lib.hid (Nat.le_trans HS5.out hb6.size)
    have HB6 := Lib.hid (HB5.out.trans (hb6.mono HB5.out.size))
    clear hr6 hb6 HM5 HN5 HL5
    go_wp2_with fail
    refine (back_any _ _ _ _ ys HN6.out HS56.out (by omega)).mono ?_; rintro e w7 ⟨v7, rfl, hr7, hb7⟩
    have HB7' := Lib.hid (lins_over HN6.out (hb7.mono HS56.out) (Nat.le_trans HS56.out hb7.size) hr7 (Nat.le_trans HS34.out (Nat.le_trans HS45.out HS56.out)))
    have HA7 := Lib.hid (HA6.out.below hb7)
    have HM7 := Lib.hid (HM6.out.below (hb7.mono HS6.out))
    have HL7 := Lib.hid (HL6.out.below (hb7.mono HS56.out))
    have HS67 := Lib.hid hb7.size
    have HS7 := Lib.hid (Nat.le_trans HS6.out hb7.size)
    have HS57 := Lib.hid (Nat.le_trans HS56.out hb7.size)
    have HB7 := Lib.hid (HB6.out.trans (hb7.mono HB6.out.size))
    clear hr7 hb7 HA6 HM6 HL6 HN6
    go_wp2_with fail
    refine (same_any false _ _ _ _ _ _ _ xs ys HA7.out HB7'.out HS67.out (Nat.le_refl _) (alike_words (by have h1 := words_of_lns HX.out; have h2 := words_of_lns HY.out; rw [number_words] at h2; unfold wordsOf at h1 h2; rw [h1, h2]))).mono ?_; rintro e w8 ⟨rfl, hb8⟩
    have HM8 := Lib.hid (HM7.out.below (hb8.mono HS7.out))
    have HL8 := Lib.hid (HL7.out.below (hb8.mono HS57.out))
    have HS8 := Lib.hid (Nat.le_trans HS7.out hb8.size)
    have HS58 := Lib.hid (Nat.le_trans HS57.out hb8.size)
    have HB8 := Lib.hid (HB7.out.trans (hb8.mono HB7.out.size))
    clear hb8 HM7 HL7 HA7 HB7'
    go_wp2_with fail
    refine (back_any _ _ _ _ xs HM8.out HS8.out (by omega)).mono ?_; rintro e w9 ⟨v9, rfl, hr9, hb9⟩
    have HA9 := Lib.hid (lins_over HM8.out (hb9.mono HS8.out) (Nat.le_trans HS8.out hb9.size) hr9 HB8.out.size)
    have HL9 := Lib.hid (HL8.out.below (hb9.mono HS58.out))
    have HS59 := Lib.hid (Nat.le_trans HS58.out hb9.size)
    have HB9 := Lib.hid (HB8.out.trans (hb9.mono HB8.out.size))
    clear hr9 hb9 HM8 HL8
    go_wp2_with fail
    refine (back_any _ _ _ _ zs HL9.out HS59.out (by omega)).mono ?_; rintro e wa ⟨va, rfl, hra, hba⟩
    have HCa := Lib.hid (lins_over HL9.out (hba.mono HS59.out) (Nat.le_trans HS59.out hba.size) hra (Nat.le_trans HS45.out HS59.out))
    have HAa := Lib.hid (HA9.out.below hba)
    have HSa := Lib.hid hba.size
    have HBa := Lib.hid (HB9.out.trans (hba.mono HB9.out.size))
    clear hra hba HA9 HL9
    go_wp2_with fail
    refine (same_any false _ _ _ _ _ _ _ xs zs HAa.out HCa.out HSa.out (Nat.le_refl _) (alike_words (by have h1 := words_of_lns HX.out; have h2 := words_of_lns HZ.out; rw [sh_words] at h2; unfold wordsOf at h1 h2; rw [h1, h2]))).mono ?_; rintro e wb ⟨rfl, hbb⟩
    have HBb := Lib.hid (HBa.out.trans (hbb.mono HBa.out.size))
    clear hbb
    go_wp2_with fail
    go_ret
    exact ⟨rfl, HBb.out⟩

theorem walk (s t : ByteArray) (hs : s.size ≤ 140737488351232) (ht : t.size ≤ 140737488351232) (w : World) :
    Calls Try.prog 5 #[.string s, .string t] w fun e w' => e = .returned (.bool true) ∧ Below w.heap.size w w' := by
  obtain ⟨⟨o, m, y⟩, h1⟩ : ∃ r, splitV s.data.toList = r := ⟨_, rfl⟩
  by_cases hy : y = 0
  · by_cases hl : 30000 < s.size
    · exact walk_b s t hs o m y h1 hy hl w
    · by_cases hk : 1000 < t.size
      · exact walk_c s t hs o m y h1 hy (by omega) hk w
      · subst hy
        exact walk_d s t (by omega) (by omega) o m h1 w
  · exact walk_a s t hs o m y h1 hy w

set_option maxRecDepth 100000 in
theorem lifted (os : Os) (started : os.Started) (H : Type) (enc : TypeId × Value → H) :
    ReturnsInHanded {} Try.checked os 5 .any (Rows.linesAgainSpec.pre6 enc Try.prog Try.f5 Rows.linesAgainRow.domain false) (Rows.linesAgainSpec.post enc Try.prog Try.f5 false true false false) := by
  refine returnsInHanded_of_change_sized (C := Try.checked) (by kernel_rfl) started (by kernel_rfl) Try.func5
    (ChangeSpec.witness6 (enc := enc) (C := Try.checked) false ⟨#[], #[.string ⟨#[]⟩, .string ⟨#[]⟩], []⟩ 8 (by kernel_rfl) (by kernel_rfl) (by kernel_rfl) (by kernel_rfl)) ?_
  intro W base args ds gs before hval0 hW hcnd hsz0 _
  have hval : ∀ (j : Nat) t v, Try.f5.params[j]? = some t → args[j]? = some v → Value.okWide Try.prog W .any base t v := hval0
  have hW' := hW
  obtain ⟨p, q, hA0, hV, rfl, hfz, hnd⟩ := hW
  have hsz : (DataW.weightsEach Try.prog (Try.f5.params.toList ++ Rows.linesAgainSpec.plain.varTypes Try.prog) (ds ++ gs)).all (· ≤ reachBytes) = true := hsz0
  have hA : DataW.TrodAll enc Try.prog W 0 (fun _ => true) true Try.f5.params.toList args.toList ds p := hA0
  rw [Try.params5] at hA hval hsz
  obtain ⟨v0, vs0, d0, ds0, p0, q0, hargs, rfl, rfl, h0, r0⟩ := trodAll_cons hA
  obtain ⟨v1, vs1, d1, ds1, p1, q1, rfl, rfl, rfl, h1, r1⟩ := trodAll_cons r0
  obtain ⟨rfl, rfl, rfl⟩ := trodAll_nil r1
  obtain rfl : args = #[v0, v1] := by cases args; simp_all
  obtain ⟨rfl, rfl⟩ := trodVars_none hV
  obtain ⟨a0, rfl, rfl, rfl, _⟩ := Go.ChangeMaps.open_string Try.underlying9 (hval 0 9 v0 rfl rfl) h0
  obtain ⟨a1, rfl, rfl, rfl, _⟩ := Go.ChangeMaps.open_string Try.underlying9 (hval 1 9 v1 rfl rfl) h1
  have z0 : a0.size ≤ 140737488351232 := Shell.reach_string hsz (j := 0) (t := 9) rfl rfl
  have z1 : a1.size ≤ 140737488351232 := Shell.reach_string hsz (j := 1) (t := 9) rfl rfl
  clear hA0 hval0
  simp only [List.append_nil] at hW'
  refine (walk a0 a1 z0 z1 W).mono fun e W' ⟨he, hg⟩ => ?_
  subst he
  exact ⟨_, rfl, Shell.lawPost (by kernel_rfl) rfl (by kernel_rfl) rfl Try.underlying4 hW' rfl hg⟩

/-- The statement. -/
theorem proved : Rows.LinesAgainSaid :=
  OpenClaim.holds_of_wide 5 Try.f5 rfl rfl rfl rfl rfl rfl rfl ⟨rfl, rfl, rfl, rfl, rfl⟩ rfl rfl rfl rfl rfl (by kernel_rfl) Try.func5 (by kernel_rfl)
    (of_decide_eq_true (by kernel_rfl)) (by unfold Func.isWrapper; first | (rw [if_pos (by decide +kernel)]; kernel_rfl) | (rw [if_neg (by decide +kernel)]; exact ⟨rfl, rfl⟩))
    (fun os started H enc _ => lifted os started H enc)
end Go.Proofs.Ytdibmmiobmlcbaa.linesAgain
