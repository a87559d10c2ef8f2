/-
  word.isDigit, word.isLetter, word.Name, walked.
  word.Right, word.Put, walked.
  word.readNought, word.read, word.Get, walked.
  word.Get, walked.
-/
import Derived.Test.YtdgmdpphimenjaaDoorPlainN
import Derived.Test.YtdgmdpphimenjaaDoorCallsN
import Derived.Test.YtdgmdpphimenjaaDoorCallsF
import Derived.Deep.QuietTactic
import Derived.BigQuiet
import Derived.WalkSmall
import Derived.Laws.ResultCell
namespace Go.Proofs.YtdgmdpphimenjaaDoor
open Go.RowKit NumM FloM WordM Mem

theorem wdigit_any (c : Int) (w : World) : Calls Tryd.prog 79 #[.int .u8 c] w fun e w' => e = .returned (.bool (decide (48 ≤ c) && decide (c ≤ 57))) ∧ w = w' := by
  rcases Bool.eq_false_or_eq_true (decide (48 ≤ c)) with h | h
  all_goals
    go_enter Tryd.func79, Tryd.ntmps79
    go_wp2
    go_ret
    exact ⟨by simp only [h, Bool.true_and, Bool.false_and] <;> rfl, rfl⟩

theorem wletter_any (c : Int) (w : World) : Calls Tryd.prog 80 #[.int .u8 c] w fun e w' =>
    e = .returned (.bool (decide (97 ≤ c) && decide (c ≤ 122) || decide (65 ≤ c) && decide (c ≤ 90) || (c == 95))) ∧ w = w' := by
  rcases Bool.eq_false_or_eq_true (decide (97 ≤ c)) with h1 | h1 <;> rcases Bool.eq_false_or_eq_true (decide (c ≤ 122)) with h2 | h2 <;>
    rcases Bool.eq_false_or_eq_true (decide (65 ≤ c)) with h3 | h3 <;> rcases Bool.eq_false_or_eq_true (decide (c ≤ 90)) with h4 | h4
  all_goals
    go_enter Tryd.func80, Tryd.ntmps80
    go_wp2
    go_ret
    exact ⟨by simp only [h1, h2, h3, h4, Bool.true_and, Bool.false_and, Bool.true_or, Bool.false_or, Bool.or_true] <;> rfl, rfl⟩

theorem len_lit (n : Nat) (k : Nat) : decide ((k : Int) < (n : Int)) = decide (k < n) := by simp

/-- the walk's letters and digits are the plain ones. -/
theorem letB_eq (c : UInt8) : letB c = (decide (97 ≤ (c.toNat : Int)) && decide ((c.toNat : Int) ≤ 122) || decide (65 ≤ (c.toNat : Int)) && decide ((c.toNat : Int) ≤ 90) || ((c.toNat : Int) == 95)) := rfl

theorem wdigit_at (c : UInt8) (b : Bool) (h : digB c = b) (w : World) : Calls Tryd.prog 79 #[.int .u8 (c.toNat : Int)] w fun e w' => e = .returned (.bool b) ∧ w = w' := by
  rw [← h]; exact wdigit_any _ w
theorem wletter_at (c : UInt8) (b : Bool) (h : letB c = b) (w : World) : Calls Tryd.prog 80 #[.int .u8 (c.toNat : Int)] w fun e w' => e = .returned (.bool b) ∧ w = w' := by
  rw [← h]; exact wletter_any _ w

theorem nameV_nil : nameV [] = false := by decide +kernel
theorem nameV_long {l : List UInt8} (h : 16 < l.length) : nameV l = false := by
  unfold nameV; rw [show decide (l.length ≤ 16) = false from decide_eq_false (by omega)]; simp
theorem nameV_digit {c : UInt8} {t : List UInt8} (h : digB c = true) : nameV (c :: t) = false := by
  unfold nameV; rw [List.headD_cons, h]; simp
theorem nameV_bad {l : List UInt8} {c : UInt8} (h : c ∈ l) (hc : (letB c || digB c) = false) : nameV l = false := by
  have : l.all (fun c => letB c || digB c) = false := by
    rw [List.all_eq_false]
    exact ⟨c, h, by simp [hc]⟩
  unfold nameV; rw [this]; simp
theorem nameV_end {c : UInt8} {t : List UInt8} (h1 : (c :: t).length ≤ 16) (h2 : digB c = false) (h3 : (c :: t).all (fun c => letB c || digB c) = true) :
    nameV (c :: t) = ((c :: t != nullL) && (c :: t != intL) && (c :: t != floatL)) := by
  unfold nameV
  rw [List.headD_cons, h2, h3, show decide ((c :: t).length ≤ 16) = true from decide_eq_true h1]
  simp

set_option maxHeartbeats 1000000 in
theorem name_any (s : ByteArray) (w : World) : Calls Tryd.prog 52 #[.string s] w fun e w' => e = .returned (.bool (nameV s.data.toList)) ∧ w = w' := by
  by_cases h0 : s.size = 0
  · have hs : s = ⟨[].toArray⟩ := by
      have : s = ByteArray.empty := by simpa using h0
      rw [this]; rfl
    subst hs
    rw [nameV_nil]
    go_enter Tryd.func52, Tryd.ntmps52
    go_wp2_with fail
    go_ret
    exact ⟨rfl, rfl⟩
  · have hl : s.data.toList.length = s.size := by rw [Array.length_toList]; rfl
    have e0 : (s.toList == []) = false := by
      rw [ByteArray.toList_eq, beq_eq_false_iff_ne]
      intro e; rw [e] at hl; simp at hl; omega
    by_cases h16 : 16 < s.size
    · rw [nameV_long (by omega)]
      have e1 : decide (16 < (s.size : Int)) = true := decide_eq_true (by omega)
      clear hl h0 h16
      go_enter Tryd.func52, Tryd.ntmps52
      go_wp2_with fail
      go_ret
      exact ⟨rfl, rfl⟩
    · have h1 : 0 < s.size := by omega
      have e1 : decide (16 < (s.size : Int)) = false := decide_eq_false (by omega)
      obtain ⟨t, ht⟩ : ∃ t, s.data.toList = s[0] :: t := by
        have hh := head_of s h1
        cases hx : s.data.toList with
        | nil => rw [hx] at hh; simp at hh
        | cons c t => rw [hx] at hh; exact ⟨t, by rw [Option.some.inj hh]⟩
      by_cases hd : digB s[0] = true
      · rw [ht, nameV_digit hd]
        have Hd := Lib.hid hd
        clear hl h0 h16 hd ht
        go_enter Tryd.func52, Tryd.ntmps52
        go_wp2_with (go_at_call 79; refine (wdigit_at _ _ Hd.out _).mono ?_; rintro e w1 ⟨rfl, rfl⟩)
        go_ret
        exact ⟨rfl, rfl⟩
      · have hd' : digB s[0] = false := by simpa using hd
        obtain ⟨g, hg⟩ : ∃ g, nameV s.data.toList = g := ⟨_, rfl⟩
        rw [hg]
        have hend : (s.data.toList.all (fun c => letB c || digB c) = true) → g = ((s.data.toList != nullL) && (s.data.toList != intL) && (s.data.toList != floatL)) := by
          intro ha
          rw [← hg, ht]
          rw [ht] at ha
          exact nameV_end (by rw [← ht, hl]; omega) hd' ha
        have hbad : ∀ (k : Nat) (h : k < s.size), (letB s[k] || digB s[k]) = false → g = false := by
          intro k h hb
          rw [← hg]
          exact nameV_bad (c := s[k]) (List.getElem_mem (l := s.data.toList) (n := k) (by rw [hl]; exact h)) hb
        have Hd := Lib.hid hd'
        have Hend := Lib.hid hend
        have Hbad := Lib.hid hbad
        have Hl := Lib.hid hl
        have hsz : s.size ≤ 16 := by omega
        clear hl h0 h16 hd ht hg hend hbad hd'
        go_enter Tryd.func52, Tryd.ntmps52
        go_wp2_with (go_at_call 79; refine (wdigit_at _ _ Hd.out _).mono ?_; rintro e w1 ⟨rfl, rfl⟩)
        go_loop [3, 18] (fun _ i => ∃ k : Nat, k ≤ s.size ∧ i = .int .i64 k ∧ (s.data.toList.take k).all (fun c => letB c || digB c) = true) (fun _ i => s.size - (intOf i).toNat)
        case atStart => exact ⟨0, Nat.zero_le _, rfl, rfl⟩
        case round =>
          obtain ⟨k, hk, rfl, hall⟩ := hrel
          by_cases hlt : k < s.size
          · rcases Bool.eq_false_or_eq_true (letB s[k]) with hb | hb
            · have Hb := Lib.hid hb
              have Hall := Lib.hid hall
              clear hall hb
              go_wp2_with (go_at_call 80; refine (wletter_at _ _ Hb.out _).mono ?_; rintro e w1 ⟨rfl, rfl⟩)
              all_goals
                go_round
                case rel => exact ⟨k + 1, by omega, by go_num, by rw [take_next s k hlt, List.all_append, Hall.out]; simp [Hb.out]⟩
                case measure => simp [intOf]; omega
            · rcases Bool.eq_false_or_eq_true (digB s[k]) with hc | hc
              · have Hb := Lib.hid hb
                have Hc := Lib.hid hc
                have Hall := Lib.hid hall
                clear hall hb hc
                go_wp2_with (first | (go_at_call 80; refine (wletter_at _ _ Hb.out _).mono ?_; rintro e w1 ⟨rfl, rfl⟩) | (go_at_call 79; refine (wdigit_at _ _ Hc.out _).mono ?_; rintro e w1 ⟨rfl, rfl⟩))
                all_goals
                  go_round
                  case rel => exact ⟨k + 1, by omega, by go_num, by rw [take_next s k hlt, List.all_append, Hall.out]; simp [Hc.out]⟩
                  case measure => simp [intOf]; omega
              · obtain rfl : g = false := Hbad.out k hlt (by rw [hb, hc]; rfl)
                have Hb := Lib.hid hb
                have Hc := Lib.hid hc
                clear hall hb hc
                go_wp2_with (first | (go_at_call 80; refine (wletter_at _ _ Hb.out _).mono ?_; rintro e w1 ⟨rfl, rfl⟩) | (go_at_call 79; refine (wdigit_at _ _ Hc.out _).mono ?_; rintro e w1 ⟨rfl, rfl⟩))
                go_ret
                exact ⟨rfl, rfl⟩
          · obtain rfl : k = s.size := by omega
            obtain rfl := Hend.out (by rw [← Hl.out, List.take_length] at hall; exact hall)
            clear hall hlt hk
            rcases Bool.eq_false_or_eq_true (s.toList == [110, 117, 108, 108]) with q1 | q1 <;> rcases Bool.eq_false_or_eq_true (s.toList == [105, 110, 116]) with q2 | q2 <;>
              rcases Bool.eq_false_or_eq_true (s.toList == [102, 108, 111, 97, 116]) with q3 | q3
            all_goals
              go_wp2_with fail
              go_ret
              exact ⟨by unfold nullL intL floatL; rw [← ByteArray.toList_eq]; simp only [bne, q1, q2, q3, Bool.not_true, Bool.not_false, Bool.true_and, Bool.false_and] <;> rfl, rfl⟩
end Go.Proofs.YtdgmdpphimenjaaDoor

namespace Go.Proofs.YtdgmdpphimenjaaDoor
open Go.RowKit NumM FloM WordM Mem

theorem one_more (w : World) (o : Obj) : Below w.heap.size w (w.alloc o) := (Below.refl _ w).alloc (Nat.le_refl _) o

/-- what a boxed argument holds behind a call that turns nothing of it. -/
theorem box3 {w w1 : World} {t : TypeId} {v0 v1 v2 : Value} (hb : Below (w.alloc (.cells #[v0, v1, v2] t)).heap.size (w.alloc (.cells #[v0, v1, v2] t)) w1) :
    w1.cell? ⟨w.heap.size, 0, none⟩ = some v0 ∧ w1.cell? ⟨w.heap.size, 1, none⟩ = some v1 ∧ w1.cell? ⟨w.heap.size, 2, none⟩ = some v2 := by
  have o : Own w1 w.heap.size t [v0, v1, v2] := (Own.made w t [v0, v1, v2]).below hb (by simp)
  exact ⟨o.cell 0, o.cell 1, o.cell 2⟩
theorem box3s {w w1 : World} {t : TypeId} {v0 v1 v2 : Value} (hb : Below (w.alloc (.cells #[v0, v1, v2] t)).heap.size (w.alloc (.cells #[v0, v1, v2] t)) w1) :
    w1.frozen? ⟨w.heap.size, 0, none⟩ = false ∧ w1.frozen? ⟨w.heap.size, 1, none⟩ = false ∧ w1.frozen? ⟨w.heap.size, 2, none⟩ = false ∧ w.heap.size < w1.heap.size := by
  have o : Own w1 w.heap.size t [v0, v1, v2] := (Own.made w t [v0, v1, v2]).below hb (by simp)
  exact ⟨o.thaw 0, o.thaw 1, o.thaw 2, o.lt⟩

set_option maxHeartbeats 1000000 in
theorem right_1 (s : ByteArray) (n : Int) (w : World) :
    Calls Tryd.prog 124 #[.agg #[.int .i64 1, .string s, .int .i64 n]] w fun e w' => e = .returned (.bool ((n == 0) && nameV s.data.toList)) ∧ Below w.heap.size w w' := by
  rcases Bool.eq_false_or_eq_true (n == 0) with h | h
  all_goals
    go_enter Tryd.func124, Tryd.ntmps124
    go_wp2_with (go_at_call 52; (with_reducible refine (name_any s _).mono ?_); rintro e w1 ⟨rfl, rfl⟩)
    go_ret
    exact ⟨by rw [h] <;> rfl, one_more _ _⟩

set_option maxHeartbeats 1000000 in
theorem right_2 (s : ByteArray) (n : Int) (w : World) :
    Calls Tryd.prog 124 #[.agg #[.int .i64 2, .string s, .int .i64 n]] w fun e w' => e = .returned (.bool s.toList.isEmpty) ∧ Below w.heap.size w w' := by
  go_enter Tryd.func124, Tryd.ntmps124
  go_wp2_with fail
  go_ret
  exact ⟨rfl, one_more _ _⟩

set_option maxHeartbeats 1000000 in
theorem right_3 (s : ByteArray) (n : Int) (w : World) :
    Calls Tryd.prog 124 #[.agg #[.int .i64 3, .string s, .int .i64 n]] w fun e w' => e = .returned (.bool (s.toList.isEmpty && (plainV n == n))) ∧ Below w.heap.size w w' := by
  rcases Bool.eq_false_or_eq_true s.toList.isEmpty with h | h
  all_goals
    go_enter Tryd.func124, Tryd.ntmps124
    go_wp2_with fail
    go_quiet ((go_at_call 148; exact Calls.quiet_of_same ((plain_any n _).mono fun _ _ h => ⟨h.1, h.2.symm⟩)))
    go_wp2_with fail
    go_ret
    exact ⟨by rw [h] <;> rfl, below_drewN (one_more _ _) _⟩

set_option maxHeartbeats 1000000 in
theorem right_4 (s : ByteArray) (n : Int) (w : World) :
    Calls Tryd.prog 124 #[.agg #[.int .i64 4, .string s, .int .i64 n]] w fun e w' => e = .returned (.bool (s.toList.isEmpty && (n == 0))) ∧ Below w.heap.size w w' := by
  rcases Bool.eq_false_or_eq_true s.toList.isEmpty with h | h
  all_goals
    go_enter Tryd.func124, Tryd.ntmps124
    go_wp2_with fail
    go_ret
    exact ⟨by rw [h] <;> rfl, one_more _ _⟩

set_option maxHeartbeats 1000000 in
theorem right_5 (s : ByteArray) (n : Int) (w : World) :
    Calls Tryd.prog 124 #[.agg #[.int .i64 5, .string s, .int .i64 n]] w fun e w' => e = .returned (.bool (s.toList.isEmpty && decide (0 ≤ n) && decide (n ≤ 999))) ∧ Below w.heap.size w w' := by
  rcases Bool.eq_false_or_eq_true s.toList.isEmpty with h | h <;> rcases Bool.eq_false_or_eq_true (decide (0 ≤ n)) with h2 | h2
  all_goals
    go_enter Tryd.func124, Tryd.ntmps124
    go_wp2_with fail
    go_ret
    exact ⟨by simp only [h, h2, Bool.true_and, Bool.false_and] <;> rfl, one_more _ _⟩

set_option maxHeartbeats 1000000 in
theorem right_0 (k : Int) (s : ByteArray) (n : Int) (w : World) (h1 : (k == 1) = false) (h2 : (k == 2) = false) (h3 : (k == 3) = false) (h4 : (k == 4) = false) (h5 : (k == 5) = false) :
    Calls Tryd.prog 124 #[.agg #[.int .i64 k, .string s, .int .i64 n]] w fun e w' => e = .returned (.bool false) ∧ Below w.heap.size w w' := by
  go_enter Tryd.func124, Tryd.ntmps124
  go_wp2_with fail
  go_ret
  exact ⟨rfl, one_more _ _⟩

theorem wright_any (a : A) (w : World) :
    Calls Tryd.prog 124 #[val a] w fun e w' => e = .returned (.bool (rightV a)) ∧ Below w.heap.size w w' := by
  obtain ⟨k, s, n⟩ := a
  unfold val rightV
  simp only
  rw [show (s.data.toList == []) = s.toList.isEmpty by rw [ByteArray.toList_eq]; cases s.data.toList <;> rfl]
  split
  · rename_i h; subst h; exact right_1 s n w
  · split
    · rename_i h; subst h; exact right_2 s n w
    · split
      · rename_i h; subst h; exact right_3 s n w
      · split
        · rename_i h; subst h; exact right_4 s n w
        · split
          · rename_i h; subst h; exact right_5 s n w
          · rename_i h1 h2 h3 h4 h5
            exact right_0 k s n w (by simpa using h1) (by simpa using h2) (by simpa using h3) (by simpa using h4) (by simpa using h5)

theorem wright_at (k : Int) (s : ByteArray) (n : Int) (b : Bool) (h : rightV (k, s, n) = b) (w : World) :
    Calls Tryd.prog 124 #[.agg #[.int .i64 k, .string s, .int .i64 n]] w fun e w' => e = .returned (.bool b) ∧ Below w.heap.size w w' := by
  rw [← h]; exact wright_any (k, s, n) w

theorem grow3 {w x y : World} (h : Below w.heap.size w x) (k : Below x.heap.size x y) : Below w.heap.size w y := h.trans (k.mono h.size)

set_option maxHeartbeats 1000000 in
theorem wput_no (k : Int) (s : ByteArray) (n : Int) (w : World) (h : rightV (k, s, n) = false) :
    Calls Tryd.prog 104 #[.agg #[.int .i64 k, .string s, .int .i64 n]] w fun e w' => e = .returned (.string ⟨#[]⟩) ∧ Below w.heap.size w w' := by
  have Hr := Lib.hid (wright_at k s n false h)
  clear h
  go_enter Tryd.func104, Tryd.ntmps104
  go_wp2_with (go_at_call 124; refine (Hr.out _).mono ?_; rintro e w1 ⟨rfl, hb⟩; obtain ⟨hc0, hc1, hc2⟩ := box3 hb)
  go_ret
  exact ⟨rfl, grow3 (one_more _ _) hb⟩
set_option maxHeartbeats 1000000 in
theorem wput_1 (s : ByteArray) (w : World) (h : nameV s.data.toList = true) :
    Calls Tryd.prog 104 #[.agg #[.int .i64 1, .string s, .int .i64 0]] w fun e w' => e = .returned (.string s) ∧ Below w.heap.size w w' := by
  have Hr := Lib.hid (wright_at 1 s 0 true (right1 h))
  have hs : s.size ≤ 281474976710656 := by
    obtain ⟨c, t, _, _, _, hl⟩ := name_parts h
    have : s.data.toList.length = s.size := by rw [Array.length_toList]; rfl
    omega
  have Hs := Lib.hid hs
  clear h hs
  go_enter Tryd.func104, Tryd.ntmps104
  go_wp2_with (first | (go_at_call 124; refine (Hr.out _).mono ?_; rintro e w1 ⟨rfl, hb⟩; obtain ⟨hc0, hc1, hc2⟩ := box3 hb) | (go_at_call 69; refine (clone_any s _ Hs.out).mono ?_; rintro e w2 ⟨rfl, hb2⟩))
  go_ret
  exact ⟨rfl, grow3 (grow3 (one_more _ _) hb) hb2⟩
set_option maxHeartbeats 1000000 in
theorem wput_2 (n : Int) (hn : In n) (w : World) :
    Calls Tryd.prog 104 #[.agg #[.int .i64 2, .string ⟨#[]⟩, .int .i64 n]] w fun e w' => e = .returned (.string ⟨(dec n).toArray⟩) ∧ Below w.heap.size w w' := by
  have Hr := Lib.hid (wright_at 2 ⟨#[]⟩ n true (right2 n))
  have Hn := Lib.hid hn
  clear hn
  go_enter Tryd.func104, Tryd.ntmps104
  go_wp2_with (first | (go_at_call 124; refine (Hr.out _).mono ?_; rintro e w1 ⟨rfl, hb⟩; obtain ⟨hc0, hc1, hc2⟩ := box3 hb) | (go_at_call 74; refine (put_any n _ Hn.out).mono ?_; rintro e w2 ⟨rfl, hb2⟩))
  go_ret
  exact ⟨rfl, grow3 (grow3 (one_more _ _) hb) hb2⟩
set_option maxHeartbeats 1000000 in
theorem wput_3 (n : Int) (hn : plainV n = n) (w : World) :
    Calls Tryd.prog 104 #[.agg #[.int .i64 3, .string ⟨#[]⟩, .int .i64 n]] w fun e w' => e = .returned (.string ⟨(putV n).toArray⟩) ∧ Below w.heap.size w w' := by
  have Hr := Lib.hid (wright_at 3 ⟨#[]⟩ n true (right3 hn))
  clear hn
  go_enter Tryd.func104, Tryd.ntmps104
  go_wp2_with (first | (go_at_call 124; refine (Hr.out _).mono ?_; rintro e w1 ⟨rfl, hb⟩; obtain ⟨hc0, hc1, hc2⟩ := box3 hb) | (go_at_call 125; refine (fput_any n _).mono ?_; rintro e w2 ⟨rfl, hb2⟩))
  go_ret
  exact ⟨rfl, grow3 (grow3 (one_more _ _) hb) hb2⟩
set_option maxHeartbeats 1000000 in
theorem wput_4 (w : World) :
    Calls Tryd.prog 104 #[.agg #[.int .i64 4, .string ⟨#[]⟩, .int .i64 0]] w fun e w' => e = .returned (.string ⟨nullL.toArray⟩) ∧ Below w.heap.size w w' := by
  have Hr := Lib.hid (wright_at 4 ⟨#[]⟩ 0 true right4)
  go_enter Tryd.func104, Tryd.ntmps104
  go_wp2_with (go_at_call 124; refine (Hr.out _).mono ?_; rintro e w1 ⟨rfl, hb⟩; obtain ⟨hc0, hc1, hc2⟩ := box3 hb)
  go_ret
  exact ⟨rfl, grow3 (one_more _ _) hb⟩
set_option maxHeartbeats 1000000 in
theorem wput_5 (n : Int) (hi : In n) (hn : 0 ≤ n ∧ n ≤ 999) (w : World) :
    Calls Tryd.prog 104 #[.agg #[.int .i64 5, .string ⟨#[]⟩, .int .i64 n]] w fun e w' => e = .returned (.string ⟨(35 :: dec n).toArray⟩) ∧ Below w.heap.size w w' := by
  have Hr := Lib.hid (wright_at 5 ⟨#[]⟩ n true (right5 hn))
  have Hi := Lib.hid hi
  have hfin : (⟨#[35]⟩ : ByteArray) ++ ⟨(dec n).toArray⟩ = ⟨(35 :: dec n).toArray⟩ := by
    apply ByteArray.ext; rw [ByteArray.data_append]; simp
  have Hfin := Lib.hid hfin
  have hlen : ¬ 9223372036854775807 < 1 + (dec n).length := by have := (read_dec n hi).2.2; omega
  clear hn hi hfin
  go_enter Tryd.func104, Tryd.ntmps104
  go_wp2_with (first | (go_at_call 124; refine (Hr.out _).mono ?_; rintro e w1 ⟨rfl, hb⟩; obtain ⟨hc0, hc1, hc2⟩ := box3 hb) | (go_at_call 74; refine (put_any n _ Hi.out).mono ?_; rintro e w2 ⟨rfl, hb2⟩))
  go_ret
  exact ⟨congrArg (fun b => Ending.returned (Value.string b)) Hfin.out, grow3 (grow3 (one_more _ _) hb) hb2⟩

theorem wput_any (a : A) (ha : In a.2.2) (w : World) :
    Calls Tryd.prog 104 #[val a] w fun e w' => e = .returned (.string ⟨(wput a).toArray⟩) ∧ Below w.heap.size w w' := by
  by_cases h : rightV a = true
  · rcases right_cases h with ⟨s, rfl, hn⟩ | ⟨n, rfl⟩ | ⟨n, rfl, hpl⟩ | rfl | ⟨n, rfl, hn⟩
    · rw [wput1 hn, bytes_of]; exact wput_1 s w hn
    · rw [wput2]; exact wput_2 n ha w
    · rw [wput3 hpl]; exact wput_3 n hpl w
    · rw [wput4]; exact wput_4 w
    · rw [wput5 hn]; exact wput_5 n ha hn w
  · have h' : rightV a = false := by simpa using h
    have hp : wput a = [] := by unfold wput; rw [if_neg h]
    rw [hp]
    exact wput_no a.1 a.2.1 a.2.2 w h'
end Go.Proofs.YtdgmdpphimenjaaDoor

namespace Go.Proofs.YtdgmdpphimenjaaDoor
open Go.RowKit NumM FloM WordM Mem

def valP (g : A × Bool) : Ending := .returned (.tuple #[val g.1, .bool g.2])

theorem put3 {w w1 : World} {g : Nat} {v0 v1 v2 : Value} (hg : w.heap.size ≤ g) (h : Below w.heap.size w w1) : Below w.heap.size w (((w1.setCell ⟨g, 0, none⟩ v0).setCell ⟨g, 1, none⟩ v1).setCell ⟨g, 2, none⟩ v2) :=
  ((h.setCell hg _).setCell hg _).setCell hg _

theorem not_empty (s : ByteArray) (h0 : 0 < s.size) : s.toList.isEmpty = false := by
  rw [ByteArray.toList_eq]
  have : s.data.toList.length = s.size := by rw [Array.length_toList]; rfl
  cases hx : s.data.toList with
  | nil => rw [hx] at this; simp at this; omega
  | cons => rfl

theorem head_split (s : ByteArray) (h0 : 0 < s.size) : ∃ t, s.data.toList = s[0] :: t := by
  have hh := head_of s h0
  cases hx : s.data.toList with
  | nil => rw [hx] at hh; simp at hh
  | cons c t => rw [hx] at hh; exact ⟨t, by rw [Option.some.inj hh]⟩
theorem u8_is {c d : UInt8} (h : c.toNat = d.toNat) : c = d := UInt8.toNat_inj.1 h

end Go.Proofs.YtdgmdpphimenjaaDoor

namespace Go.Proofs.YtdgmdpphimenjaaDoor
open Go.RowKit NumM FloM WordM Mem

theorem own3 {w : World} {g : Nat} {t : TypeId} {v0 v1 v2 : Value} (o : Own w g t [v0, v1, v2]) :
    (w.cell? ⟨g, 0, none⟩ = some v0 ∧ w.cell? ⟨g, 1, none⟩ = some v1 ∧ w.cell? ⟨g, 2, none⟩ = some v2) ∧
    (w.frozen? ⟨g, 0, none⟩ = false ∧ w.frozen? ⟨g, 1, none⟩ = false ∧ w.frozen? ⟨g, 2, none⟩ = false) ∧ g < w.heap.size :=
  ⟨⟨o.cell 0, o.cell 1, o.cell 2⟩, ⟨o.thaw 0, o.thaw 1, o.thaw 2⟩, o.lt⟩
theorem made3 {w w1 : World} {t : TypeId} {v0 v1 v2 : Value} (hb : Below (w.alloc (.cells #[v0, v1, v2] t)).heap.size (w.alloc (.cells #[v0, v1, v2] t)) w1) : Own w1 w.heap.size t [v0, v1, v2] :=
  (Own.made w t [v0, v1, v2]).below hb (by simp)
theorem keep3 {w1 w2 : World} {g : Nat} {t : TypeId} {cs : List Value} {x : Obj} (o : Own w1 g t cs) (hb : Below (w1.alloc x).heap.size (w1.alloc x) w2) : Own w2 g t cs :=
  (o.alloc x).below hb (by have := o.lt; simp; omega)

theorem wput_at (k : Int) (s : ByteArray) (n : Int) (l : List UInt8) (hn : In n) (h : wput (k, s, n) = l) (w : World) :
    Calls Tryd.prog 104 #[.agg #[.int .i64 k, .string s, .int .i64 n]] w fun e w' => e = .returned (.string ⟨l.toArray⟩) ∧ Below w.heap.size w w' := by
  rw [← h]; exact wput_any (k, s, n) hn w
end Go.Proofs.YtdgmdpphimenjaaDoor
