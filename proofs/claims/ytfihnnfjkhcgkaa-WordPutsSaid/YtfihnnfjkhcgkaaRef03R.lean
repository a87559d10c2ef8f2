/-
  The document's own Right and Put of layer 3, walked.
-/
import Derived.Test.YtfihnnfjkhcgkaaRef03
namespace Go.Proofs.Ytfihnnfjkhcgkaa.R03
open Go.RowKit NumM FloM WordM Mem

set_option maxHeartbeats 1000000 in
theorem right_1 (s : ByteArray) (n : Int) (hm : s.size ≤ 9223372036854775807) (w : World) :
    Calls Try.prog 12 #[.agg #[.int .i64 1, .string s, .int .i64 n]] w fun e w' => e = .returned (.bool ((n == 0) && nameV s.data.toList)) ∧ Below w.heap.size w w' := by
  obtain ⟨g, hg⟩ : ∃ g, nameV s.data.toList = g := ⟨_, rfl⟩
  have hq := fun w => name_any s w hm
  rw [hg] at hq ⊢
  have Hq := Lib.hid hq
  clear hq hg hm
  cases g
  all_goals
    go_enter Try.func12, Try.ntmps12
    go_wp2_with (go_at_call 10; (with_reducible refine (Hq.out _).mono ?_); rintro e w1 ⟨rfl, rfl⟩)
    go_ret
    exact ⟨by simp only [Bool.and_true, Bool.and_false] <;> rfl, one_more _ _⟩

set_option maxHeartbeats 1000000 in
theorem right_2 (s : ByteArray) (n : Int) (w : World) :
    Calls Try.prog 12 #[.agg #[.int .i64 2, .string s, .int .i64 n]] w fun e w' => e = .returned (.bool s.toList.isEmpty) ∧ Below w.heap.size w w' := by
  rcases Bool.eq_false_or_eq_true s.toList.isEmpty with h | h
  · have h' : (s.toList != []) = false := by rw [bne_eq_false_iff_eq]; simpa using h
    go_enter Try.func12, Try.ntmps12
    go_wp2_with fail
    go_quiet (fail)
    go_wp2_with fail
    go_ret
    exact ⟨by rw [h] <;> rfl, below_drewN (one_more _ _) _⟩
  · have h' : (s.toList != []) = true := by rw [bne_iff_ne]; intro e; rw [e] at h; simp at h
    go_enter Try.func12, Try.ntmps12
    go_wp2_with fail
    go_ret
    exact ⟨by rw [h] <;> rfl, one_more _ _⟩

set_option maxHeartbeats 2000000 in
theorem right_3 (s : ByteArray) (n : Int) (w : World) :
    Calls Try.prog 12 #[.agg #[.int .i64 3, .string s, .int .i64 n]] w fun e w' => e = .returned (.bool (s.toList.isEmpty && (plainV n == n))) ∧ Below w.heap.size w w' := by
  rcases Bool.eq_false_or_eq_true s.toList.isEmpty with h | h
  · have h' : (s.toList != []) = false := by rw [bne_eq_false_iff_eq]; simpa using h
    rcases Bool.eq_false_or_eq_true (plainV n == n) with h2 | h2
    all_goals
      go_enter Try.func12, Try.ntmps12
      go_wp2_with fail
      go_quiet ((go_at_call 20; exact Calls.quiet_of_same ((R02.plain_any n _).mono fun _ _ h => ⟨h.1, h.2.symm⟩)))
      go_wp2_with fail
      go_ret
      exact ⟨by simp only [h, h2, Bool.true_and] <;> rfl, below_drewN (one_more _ _) _⟩
  · have h' : (s.toList != []) = true := by rw [bne_iff_ne]; intro e; rw [e] at h; simp at h
    go_enter Try.func12, Try.ntmps12
    go_wp2_with fail
    go_ret
    exact ⟨by simp only [h, Bool.false_and] <;> rfl, one_more _ _⟩

set_option maxHeartbeats 2000000 in
theorem right_4 (s : ByteArray) (n : Int) (w : World) :
    Calls Try.prog 12 #[.agg #[.int .i64 4, .string s, .int .i64 n]] w fun e w' => e = .returned (.bool (s.toList.isEmpty && (n == 0))) ∧ Below w.heap.size w w' := by
  rcases Bool.eq_false_or_eq_true s.toList.isEmpty with h | h
  · have h' : (s.toList != []) = false := by rw [bne_eq_false_iff_eq]; simpa using h
    rcases Bool.eq_false_or_eq_true (n == 0) with h2 | h2
    all_goals
      go_enter Try.func12, Try.ntmps12
      go_wp2_with fail
      go_quiet (fail)
      go_wp2_with fail
      go_ret
      exact ⟨by simp only [h, h2, Bool.true_and] <;> rfl, below_drewN (one_more _ _) _⟩
  · have h' : (s.toList != []) = true := by rw [bne_iff_ne]; intro e; rw [e] at h; simp at h
    go_enter Try.func12, Try.ntmps12
    go_wp2_with fail
    go_ret
    exact ⟨by simp only [h, Bool.false_and] <;> rfl, one_more _ _⟩

set_option maxHeartbeats 2000000 in
theorem right_5 (s : ByteArray) (n : Int) (w : World) :
    Calls Try.prog 12 #[.agg #[.int .i64 5, .string s, .int .i64 n]] w fun e w' => e = .returned (.bool (s.toList.isEmpty && decide (0 ≤ n) && decide (n ≤ 999))) ∧ Below w.heap.size w w' := by
  rcases Bool.eq_false_or_eq_true s.toList.isEmpty with h | h
  · have h' : (s.toList != []) = false := by rw [bne_eq_false_iff_eq]; simpa using h
    rcases Bool.eq_false_or_eq_true (decide (0 ≤ n)) with h2 | h2 <;> rcases Bool.eq_false_or_eq_true (decide (n ≤ 999)) with h3 | h3
    all_goals
      go_enter Try.func12, Try.ntmps12
      go_wp2_with fail
      go_quiet (fail)
      go_wp2_with fail
      go_ret
      exact ⟨by simp only [h, h2, h3, Bool.true_and, Bool.false_and] <;> rfl, below_drewN (one_more _ _) _⟩
  · have h' : (s.toList != []) = true := by rw [bne_iff_ne]; intro e; rw [e] at h; simp at h
    go_enter Try.func12, Try.ntmps12
    go_wp2_with fail
    go_ret
    exact ⟨by simp only [h, Bool.false_and] <;> rfl, one_more _ _⟩

set_option maxHeartbeats 1000000 in
theorem right_0 (k : Int) (s : ByteArray) (n : Int) (w : World) (hk : k < 1 ∨ 5 < k) :
    Calls Try.prog 12 #[.agg #[.int .i64 k, .string s, .int .i64 n]] w fun e w' => e = .returned (.bool false) ∧ Below w.heap.size w w' := by
  have h1 : (k == 1) = false := by rw [beq_eq_false_iff_ne]; omega
  by_cases h : k < 1
  · have h2 : decide (k < 1) = true := decide_eq_true h
    clear hk
    go_enter Try.func12, Try.ntmps12
    go_wp2_with fail
    go_ret
    exact ⟨rfl, one_more _ _⟩
  · have h2 : decide (k < 1) = false := decide_eq_false h
    have h3 : decide (5 < k) = true := decide_eq_true (by omega)
    clear hk
    go_enter Try.func12, Try.ntmps12
    go_wp2_with fail
    go_ret
    exact ⟨rfl, one_more _ _⟩

theorem right_any (a : A) (hm : a.2.1.size ≤ 9223372036854775807) (w : World) :
    Calls Try.prog 12 #[val a] w fun e w' => e = .returned (.bool (rightV a)) ∧ Below w.heap.size w w' := by
  obtain ⟨k, s, n⟩ := a
  unfold val rightV
  simp only
  rw [show (s.data.toList == []) = s.toList.isEmpty by rw [ByteArray.toList_eq]; cases s.data.toList <;> rfl]
  split
  · rename_i h; subst h; exact right_1 s n hm w
  · split
    · rename_i h; subst h; exact right_2 s n w
    · split
      · rename_i h; subst h; exact right_3 s n w
      · split
        · rename_i h; subst h; exact right_4 s n w
        · split
          · rename_i h; subst h; exact right_5 s n w
          · rename_i h1 h2 h3 h4 h5
            exact right_0 k s n w (by omega)

theorem right_at (k : Int) (s : ByteArray) (n : Int) (b : Bool) (hm : s.size ≤ 9223372036854775807) (h : rightV (k, s, n) = b) (w : World) :
    Calls Try.prog 12 #[.agg #[.int .i64 k, .string s, .int .i64 n]] w fun e w' => e = .returned (.bool b) ∧ Below w.heap.size w w' := by
  rw [← h]; exact right_any (k, s, n) hm w

set_option maxHeartbeats 1000000 in
theorem put_no (k : Int) (s : ByteArray) (n : Int) (w : World) (hm : s.size ≤ 9223372036854775807) (h : rightV (k, s, n) = false) :
    Calls Try.prog 14 #[.agg #[.int .i64 k, .string s, .int .i64 n]] w fun e w' => e = .returned (.string ⟨#[]⟩) ∧ Below w.heap.size w w' := by
  have Hr := Lib.hid (right_at k s n false hm h)
  clear h hm
  go_enter Try.func14, Try.ntmps14
  go_wp2_with (go_at_call 12; refine (Hr.out _).mono ?_; rintro e w1 ⟨rfl, hb⟩)
  go_ret
  exact ⟨rfl, grow3 (one_more _ _) hb⟩
set_option maxHeartbeats 1000000 in
theorem put_1 (s : ByteArray) (w : World) (hm : s.size ≤ 9223372036854775807) (h : nameV s.data.toList = true) :
    Calls Try.prog 14 #[.agg #[.int .i64 1, .string s, .int .i64 0]] w fun e w' => e = .returned (.string s) ∧ Below w.heap.size w w' := by
  have Hr := Lib.hid (right_at 1 s 0 true hm (right1 h))
  clear h hm
  go_enter Try.func14, Try.ntmps14
  go_wp2_with (go_at_call 12; refine (Hr.out _).mono ?_; rintro e w1 ⟨rfl, hb⟩; obtain ⟨hc0, hc1, hc2⟩ := box3 hb)
  go_ret
  exact ⟨rfl, grow3 (one_more _ _) hb⟩
set_option maxHeartbeats 1000000 in
theorem put_2 (n : Int) (hn : In n) (w : World) :
    Calls Try.prog 14 #[.agg #[.int .i64 2, .string ⟨#[]⟩, .int .i64 n]] w fun e w' => e = .returned (.string ⟨(dec n).toArray⟩) ∧ Below w.heap.size w w' := by
  have Hr := Lib.hid (right_at 2 ⟨#[]⟩ n true (by decide) (right2 n))
  have Hn := Lib.hid hn
  clear hn
  go_enter Try.func14, Try.ntmps14
  go_wp2_with (first | (go_at_call 12; refine (Hr.out _).mono ?_; rintro e w1 ⟨rfl, hb⟩; obtain ⟨hc0, hc1, hc2⟩ := box3 hb) | (go_at_call 24; refine (R01.put_any n _ Hn.out).mono ?_; rintro e w2 ⟨rfl, hb2⟩))
  go_ret
  exact ⟨rfl, grow3 (grow3 (one_more _ _) hb) hb2⟩
set_option maxHeartbeats 1000000 in
theorem put_3 (n : Int) (hn : plainV n = n) (w : World) :
    Calls Try.prog 14 #[.agg #[.int .i64 3, .string ⟨#[]⟩, .int .i64 n]] w fun e w' => e = .returned (.string ⟨(putV n).toArray⟩) ∧ Below w.heap.size w w' := by
  have Hr := Lib.hid (right_at 3 ⟨#[]⟩ n true (by decide) (right3 hn))
  clear hn
  go_enter Try.func14, Try.ntmps14
  go_wp2_with (first | (go_at_call 12; refine (Hr.out _).mono ?_; rintro e w1 ⟨rfl, hb⟩; obtain ⟨hc0, hc1, hc2⟩ := box3 hb) | (go_at_call 25; refine (R02.put_any n _).mono ?_; rintro e w2 ⟨rfl, hb2⟩))
  go_ret
  exact ⟨rfl, grow3 (grow3 (one_more _ _) hb) hb2⟩
set_option maxHeartbeats 1000000 in
theorem put_4 (w : World) :
    Calls Try.prog 14 #[.agg #[.int .i64 4, .string ⟨#[]⟩, .int .i64 0]] w fun e w' => e = .returned (.string ⟨nullL.toArray⟩) ∧ Below w.heap.size w w' := by
  have Hr := Lib.hid (right_at 4 ⟨#[]⟩ 0 true (by decide) right4)
  go_enter Try.func14, Try.ntmps14
  go_wp2_with (go_at_call 12; refine (Hr.out _).mono ?_; rintro e w1 ⟨rfl, hb⟩; obtain ⟨hc0, hc1, hc2⟩ := box3 hb)
  go_ret
  exact ⟨rfl, grow3 (one_more _ _) hb⟩
set_option maxHeartbeats 1000000 in
theorem put_5 (n : Int) (hi : In n) (hn : 0 ≤ n ∧ n ≤ 999) (w : World) :
    Calls Try.prog 14 #[.agg #[.int .i64 5, .string ⟨#[]⟩, .int .i64 n]] w fun e w' => e = .returned (.string ⟨(35 :: dec n).toArray⟩) ∧ Below w.heap.size w w' := by
  have Hr := Lib.hid (right_at 5 ⟨#[]⟩ n true (by decide) (right5 hn))
  have Hi := Lib.hid hi
  have hfin : (⟨#[35]⟩ : ByteArray) ++ ⟨(dec n).toArray⟩ = ⟨(35 :: dec n).toArray⟩ := by
    apply ByteArray.ext; rw [ByteArray.data_append]; simp
  have Hfin := Lib.hid hfin
  have hlen : ¬ 9223372036854775807 < 1 + (dec n).length := by have := (read_dec n hi).2.2; omega
  clear hn hi hfin
  go_enter Try.func14, Try.ntmps14
  go_wp2_with (first | (go_at_call 12; refine (Hr.out _).mono ?_; rintro e w1 ⟨rfl, hb⟩; obtain ⟨hc0, hc1, hc2⟩ := box3 hb) | (go_at_call 24; refine (R01.put_any n _ Hi.out).mono ?_; rintro e w2 ⟨rfl, hb2⟩))
  go_ret
  exact ⟨congrArg (fun b => Ending.returned (Value.string b)) Hfin.out, grow3 (grow3 (one_more _ _) hb) hb2⟩

theorem put_any (a : A) (ha : In a.2.2) (hm : a.2.1.size ≤ 9223372036854775807) (w : World) :
    Calls Try.prog 14 #[val a] w fun e w' => e = .returned (.string ⟨(wput a).toArray⟩) ∧ Below w.heap.size w w' := by
  by_cases h : rightV a = true
  · rcases right_cases h with ⟨s, rfl, hn⟩ | ⟨n, rfl⟩ | ⟨n, rfl, hpl⟩ | rfl | ⟨n, rfl, hn⟩
    · rw [wput1 hn, bytes_of]; exact put_1 s w hm hn
    · rw [wput2]; exact put_2 n ha w
    · rw [wput3 hpl]; exact put_3 n hpl w
    · rw [wput4]; exact put_4 w
    · rw [wput5 hn]; exact put_5 n ha hn w
  · have h' : rightV a = false := by simpa using h
    have hp : wput a = [] := by unfold wput; rw [if_neg h]
    rw [hp]
    exact put_no a.1 a.2.1 a.2.2 w hm h'
theorem put_at (k : Int) (s : ByteArray) (n : Int) (l : List UInt8) (hn : In n) (hm : s.size ≤ 9223372036854775807) (h : wput (k, s, n) = l) (w : World) :
    Calls Try.prog 14 #[.agg #[.int .i64 k, .string s, .int .i64 n]] w fun e w' => e = .returned (.string ⟨l.toArray⟩) ∧ Below w.heap.size w w' := by
  rw [← h]; exact put_any (k, s, n) hn hm w
end Go.Proofs.Ytfihnnfjkhcgkaa.R03
