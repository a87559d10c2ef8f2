/-
  word.isDigit, word.isLetter, word.Name, walked.
-/
import Derived.Test.YtfihnnfjkhcgkaaWordMath
import Derived.Test.YtfihnnfjkhcgkaaClone
import Derived.Test.YtfihnnfjkhcgkaaNumGet
import Derived.Test.YtfihnnfjkhcgkaaFloGet
import Derived.Test.YtfihnnfjkhcgkaaFloPut
namespace Go.Proofs.Ytfihnnfjkhcgkaa
open Go.RowKit NumM FloM WordM Mem

theorem wdigit_any (c : Int) (w : World) : Calls Try.prog 17 #[.int .u8 c] w fun e w' => e = .returned (.bool (decide (48 ≤ c) && decide (c ≤ 57))) ∧ w = w' := by
  rcases Bool.eq_false_or_eq_true (decide (48 ≤ c)) with h | h
  all_goals
    go_enter Try.func17, Try.ntmps17
    go_wp2
    go_ret
    exact ⟨by simp only [h, Bool.true_and, Bool.false_and] <;> rfl, rfl⟩

theorem wletter_any (c : Int) (w : World) : Calls Try.prog 18 #[.int .u8 c] w fun e w' =>
    e = .returned (.bool (decide (97 ≤ c) && decide (c ≤ 122) || decide (65 ≤ c) && decide (c ≤ 90) || (c == 95))) ∧ w = w' := by
  rcases Bool.eq_false_or_eq_true (decide (97 ≤ c)) with h1 | h1 <;> rcases Bool.eq_false_or_eq_true (decide (c ≤ 122)) with h2 | h2 <;>
    rcases Bool.eq_false_or_eq_true (decide (65 ≤ c)) with h3 | h3 <;> rcases Bool.eq_false_or_eq_true (decide (c ≤ 90)) with h4 | h4
  all_goals
    go_enter Try.func18, Try.ntmps18
    go_wp2
    go_ret
    exact ⟨by simp only [h1, h2, h3, h4, Bool.true_and, Bool.false_and, Bool.true_or, Bool.false_or, Bool.or_true] <;> rfl, rfl⟩

theorem len_lit (n : Nat) (k : Nat) : decide ((k : Int) < (n : Int)) = decide (k < n) := by simp

/-- the walk's letters and digits are the plain ones. -/
theorem letB_eq (c : UInt8) : letB c = (decide (97 ≤ (c.toNat : Int)) && decide ((c.toNat : Int) ≤ 122) || decide (65 ≤ (c.toNat : Int)) && decide ((c.toNat : Int) ≤ 90) || ((c.toNat : Int) == 95)) := rfl

theorem wdigit_at (c : UInt8) (b : Bool) (h : digB c = b) (w : World) : Calls Try.prog 17 #[.int .u8 (c.toNat : Int)] w fun e w' => e = .returned (.bool b) ∧ w = w' := by
  rw [← h]; exact wdigit_any _ w
theorem wletter_at (c : UInt8) (b : Bool) (h : letB c = b) (w : World) : Calls Try.prog 18 #[.int .u8 (c.toNat : Int)] w fun e w' => e = .returned (.bool b) ∧ w = w' := by
  rw [← h]; exact wletter_any _ w

theorem nameV_nil : nameV [] = false := by decide +kernel
theorem nameV_long {l : List UInt8} (h : 16 < l.length) : nameV l = false := by
  unfold nameV; rw [show decide (l.length ≤ 16) = false from decide_eq_false (by omega)]; simp
theorem nameV_digit {c : UInt8} {t : List UInt8} (h : digB c = true) : nameV (c :: t) = false := by
  unfold nameV; rw [List.headD_cons, h]; simp
theorem nameV_bad {l : List UInt8} {c : UInt8} (h : c ∈ l) (hc : (letB c || digB c) = false) : nameV l = false := by
  have : l.all (fun c => letB c || digB c) = false := by
    rw [List.all_eq_false]
    exact ⟨c, h, by simp [hc]⟩
  unfold nameV; rw [this]; simp
theorem nameV_end {c : UInt8} {t : List UInt8} (h1 : (c :: t).length ≤ 16) (h2 : digB c = false) (h3 : (c :: t).all (fun c => letB c || digB c) = true) :
    nameV (c :: t) = ((c :: t != nullL) && (c :: t != intL) && (c :: t != floatL)) := by
  unfold nameV
  rw [List.headD_cons, h2, h3, show decide ((c :: t).length ≤ 16) = true from decide_eq_true h1]
  simp

set_option maxHeartbeats 1000000 in
theorem name_any (s : ByteArray) (w : World) : Calls Try.prog 9 #[.string s] w fun e w' => e = .returned (.bool (nameV s.data.toList)) ∧ w = w' := by
  by_cases h0 : s.size = 0
  · have hs : s = ⟨[].toArray⟩ := by
      have : s = ByteArray.empty := by simpa using h0
      rw [this]; rfl
    subst hs
    rw [nameV_nil]
    go_enter Try.func9, Try.ntmps9
    go_wp2_with fail
    go_ret
    exact ⟨rfl, rfl⟩
  · have hl : s.data.toList.length = s.size := by rw [Array.length_toList]; rfl
    have e0 : (s.toList == []) = false := by
      rw [ByteArray.toList_eq, beq_eq_false_iff_ne]
      intro e; rw [e] at hl; simp at hl; omega
    by_cases h16 : 16 < s.size
    · rw [nameV_long (by omega)]
      have e1 : decide (16 < (s.size : Int)) = true := decide_eq_true (by omega)
      clear hl h0 h16
      go_enter Try.func9, Try.ntmps9
      go_wp2_with fail
      go_ret
      exact ⟨rfl, rfl⟩
    · have h1 : 0 < s.size := by omega
      have e1 : decide (16 < (s.size : Int)) = false := decide_eq_false (by omega)
      obtain ⟨t, ht⟩ : ∃ t, s.data.toList = s[0] :: t := by
        have hh := head_of s h1
        cases hx : s.data.toList with
        | nil => rw [hx] at hh; simp at hh
        | cons c t => rw [hx] at hh; exact ⟨t, by rw [Option.some.inj hh]⟩
      by_cases hd : digB s[0] = true
      · rw [ht, nameV_digit hd]
        have Hd := Lib.hid hd
        clear hl h0 h16 hd ht
        go_enter Try.func9, Try.ntmps9
        go_wp2_with (go_at_call 17; refine (wdigit_at _ _ Hd.out _).mono ?_; rintro e w1 ⟨rfl, rfl⟩)
        go_ret
        exact ⟨rfl, rfl⟩
      · have hd' : digB s[0] = false := by simpa using hd
        obtain ⟨g, hg⟩ : ∃ g, nameV s.data.toList = g := ⟨_, rfl⟩
        rw [hg]
        have hend : (s.data.toList.all (fun c => letB c || digB c) = true) → g = ((s.data.toList != nullL) && (s.data.toList != intL) && (s.data.toList != floatL)) := by
          intro ha
          rw [← hg, ht]
          rw [ht] at ha
          exact nameV_end (by rw [← ht, hl]; omega) hd' ha
        have hbad : ∀ (k : Nat) (h : k < s.size), (letB s[k] || digB s[k]) = false → g = false := by
          intro k h hb
          rw [← hg]
          exact nameV_bad (c := s[k]) (List.getElem_mem (l := s.data.toList) (n := k) (by rw [hl]; exact h)) hb
        have Hd := Lib.hid hd'
        have Hend := Lib.hid hend
        have Hbad := Lib.hid hbad
        have Hl := Lib.hid hl
        have hsz : s.size ≤ 16 := by omega
        clear hl h0 h16 hd ht hg hend hbad hd'
        go_enter Try.func9, Try.ntmps9
        go_wp2_with (go_at_call 17; refine (wdigit_at _ _ Hd.out _).mono ?_; rintro e w1 ⟨rfl, rfl⟩)
        go_loop [3, 18] (fun _ i => ∃ k : Nat, k ≤ s.size ∧ i = .int .i64 k ∧ (s.data.toList.take k).all (fun c => letB c || digB c) = true) (fun _ i => s.size - (intOf i).toNat)
        case atStart => exact ⟨0, Nat.zero_le _, rfl, rfl⟩
        case round =>
          obtain ⟨k, hk, rfl, hall⟩ := hrel
          by_cases hlt : k < s.size
          · rcases Bool.eq_false_or_eq_true (letB s[k]) with hb | hb
            · have Hb := Lib.hid hb
              have Hall := Lib.hid hall
              clear hall hb
              go_wp2_with (go_at_call 18; refine (wletter_at _ _ Hb.out _).mono ?_; rintro e w1 ⟨rfl, rfl⟩)
              all_goals
                go_round
                case rel => exact ⟨k + 1, by omega, by go_num, by rw [take_next s k hlt, List.all_append, Hall.out]; simp [Hb.out]⟩
                case measure => simp [intOf]; omega
            · rcases Bool.eq_false_or_eq_true (digB s[k]) with hc | hc
              · have Hb := Lib.hid hb
                have Hc := Lib.hid hc
                have Hall := Lib.hid hall
                clear hall hb hc
                go_wp2_with (first | (go_at_call 18; refine (wletter_at _ _ Hb.out _).mono ?_; rintro e w1 ⟨rfl, rfl⟩) | (go_at_call 17; refine (wdigit_at _ _ Hc.out _).mono ?_; rintro e w1 ⟨rfl, rfl⟩))
                all_goals
                  go_round
                  case rel => exact ⟨k + 1, by omega, by go_num, by rw [take_next s k hlt, List.all_append, Hall.out]; simp [Hc.out]⟩
                  case measure => simp [intOf]; omega
              · obtain rfl : g = false := Hbad.out k hlt (by rw [hb, hc]; rfl)
                have Hb := Lib.hid hb
                have Hc := Lib.hid hc
                clear hall hb hc
                go_wp2_with (first | (go_at_call 18; refine (wletter_at _ _ Hb.out _).mono ?_; rintro e w1 ⟨rfl, rfl⟩) | (go_at_call 17; refine (wdigit_at _ _ Hc.out _).mono ?_; rintro e w1 ⟨rfl, rfl⟩))
                go_ret
                exact ⟨rfl, rfl⟩
          · obtain rfl : k = s.size := by omega
            obtain rfl := Hend.out (by rw [← Hl.out, List.take_length] at hall; exact hall)
            clear hall hlt hk
            rcases Bool.eq_false_or_eq_true (s.toList == [110, 117, 108, 108]) with q1 | q1 <;> rcases Bool.eq_false_or_eq_true (s.toList == [105, 110, 116]) with q2 | q2 <;>
              rcases Bool.eq_false_or_eq_true (s.toList == [102, 108, 111, 97, 116]) with q3 | q3
            all_goals
              go_wp2_with fail
              go_ret
              exact ⟨by unfold nullL intL floatL; rw [← ByteArray.toList_eq]; simp only [bne, q1, q2, q3, Bool.not_true, Bool.not_false, Bool.true_and, Bool.false_and] <;> rfl, rfl⟩
end Go.Proofs.Ytfihnnfjkhcgkaa
