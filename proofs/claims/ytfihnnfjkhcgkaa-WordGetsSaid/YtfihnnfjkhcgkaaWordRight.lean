/-
  word.Right, word.Put, walked.
-/
import Derived.Test.YtfihnnfjkhcgkaaWordWalks
import Derived.Test.YtfihnnfjkhcgkaaNumPut
import Derived.Test.YtfihnnfjkhcgkaaFloPut
import Derived.Test.YtfihnnfjkhcgkaaFloWalks
import Derived.Deep.QuietTactic
import Derived.BigQuiet
import Derived.WalkSmall
namespace Go.Proofs.Ytfihnnfjkhcgkaa
open Go.RowKit NumM FloM WordM Mem

theorem one_more (w : World) (o : Obj) : Below w.heap.size w (w.alloc o) := (Below.refl _ w).alloc (Nat.le_refl _) o

/-- what a boxed argument holds behind a call that turns nothing of it. -/
theorem box3 {w w1 : World} {t : TypeId} {v0 v1 v2 : Value} (hb : Below (w.alloc (.cells #[v0, v1, v2] t)).heap.size (w.alloc (.cells #[v0, v1, v2] t)) w1) :
    w1.cell? ⟨w.heap.size, 0, none⟩ = some v0 ∧ w1.cell? ⟨w.heap.size, 1, none⟩ = some v1 ∧ w1.cell? ⟨w.heap.size, 2, none⟩ = some v2 := by
  have o : Own w1 w.heap.size t [v0, v1, v2] := (Own.made w t [v0, v1, v2]).below hb (by simp)
  exact ⟨o.cell 0, o.cell 1, o.cell 2⟩
theorem box3s {w w1 : World} {t : TypeId} {v0 v1 v2 : Value} (hb : Below (w.alloc (.cells #[v0, v1, v2] t)).heap.size (w.alloc (.cells #[v0, v1, v2] t)) w1) :
    w1.frozen? ⟨w.heap.size, 0, none⟩ = false ∧ w1.frozen? ⟨w.heap.size, 1, none⟩ = false ∧ w1.frozen? ⟨w.heap.size, 2, none⟩ = false ∧ w.heap.size < w1.heap.size := by
  have o : Own w1 w.heap.size t [v0, v1, v2] := (Own.made w t [v0, v1, v2]).below hb (by simp)
  exact ⟨o.thaw 0, o.thaw 1, o.thaw 2, o.lt⟩

set_option maxHeartbeats 1000000 in
theorem right_1 (s : ByteArray) (n : Int) (w : World) :
    Calls Try.prog 11 #[.agg #[.int .i64 1, .string s, .int .i64 n]] w fun e w' => e = .returned (.bool ((n == 0) && nameV s.data.toList)) ∧ Below w.heap.size w w' := by
  rcases Bool.eq_false_or_eq_true (n == 0) with h | h
  all_goals
    go_enter Try.func11, Try.ntmps11
    go_wp2_with (go_at_call 9; (with_reducible refine (name_any s _).mono ?_); rintro e w1 ⟨rfl, rfl⟩)
    go_ret
    exact ⟨by rw [h] <;> rfl, one_more _ _⟩

set_option maxHeartbeats 1000000 in
theorem right_2 (s : ByteArray) (n : Int) (w : World) :
    Calls Try.prog 11 #[.agg #[.int .i64 2, .string s, .int .i64 n]] w fun e w' => e = .returned (.bool s.toList.isEmpty) ∧ Below w.heap.size w w' := by
  go_enter Try.func11, Try.ntmps11
  go_wp2_with fail
  go_ret
  exact ⟨rfl, one_more _ _⟩

set_option maxHeartbeats 1000000 in
theorem right_3 (s : ByteArray) (n : Int) (w : World) :
    Calls Try.prog 11 #[.agg #[.int .i64 3, .string s, .int .i64 n]] w fun e w' => e = .returned (.bool (s.toList.isEmpty && (plainV n == n))) ∧ Below w.heap.size w w' := by
  rcases Bool.eq_false_or_eq_true s.toList.isEmpty with h | h
  all_goals
    go_enter Try.func11, Try.ntmps11
    go_wp2_with fail
    go_quiet ((go_at_call 19; exact Calls.quiet_of_same ((plain_any n _).mono fun _ _ h => ⟨h.1, h.2.symm⟩)))
    go_wp2_with fail
    go_ret
    exact ⟨by rw [h] <;> rfl, below_drewN (one_more _ _) _⟩

set_option maxHeartbeats 1000000 in
theorem right_4 (s : ByteArray) (n : Int) (w : World) :
    Calls Try.prog 11 #[.agg #[.int .i64 4, .string s, .int .i64 n]] w fun e w' => e = .returned (.bool (s.toList.isEmpty && (n == 0))) ∧ Below w.heap.size w w' := by
  rcases Bool.eq_false_or_eq_true s.toList.isEmpty with h | h
  all_goals
    go_enter Try.func11, Try.ntmps11
    go_wp2_with fail
    go_ret
    exact ⟨by rw [h] <;> rfl, one_more _ _⟩

set_option maxHeartbeats 1000000 in
theorem right_5 (s : ByteArray) (n : Int) (w : World) :
    Calls Try.prog 11 #[.agg #[.int .i64 5, .string s, .int .i64 n]] w fun e w' => e = .returned (.bool (s.toList.isEmpty && decide (0 ≤ n) && decide (n ≤ 999))) ∧ Below w.heap.size w w' := by
  rcases Bool.eq_false_or_eq_true s.toList.isEmpty with h | h <;> rcases Bool.eq_false_or_eq_true (decide (0 ≤ n)) with h2 | h2
  all_goals
    go_enter Try.func11, Try.ntmps11
    go_wp2_with fail
    go_ret
    exact ⟨by simp only [h, h2, Bool.true_and, Bool.false_and] <;> rfl, one_more _ _⟩

set_option maxHeartbeats 1000000 in
theorem right_0 (k : Int) (s : ByteArray) (n : Int) (w : World) (h1 : (k == 1) = false) (h2 : (k == 2) = false) (h3 : (k == 3) = false) (h4 : (k == 4) = false) (h5 : (k == 5) = false) :
    Calls Try.prog 11 #[.agg #[.int .i64 k, .string s, .int .i64 n]] w fun e w' => e = .returned (.bool false) ∧ Below w.heap.size w w' := by
  go_enter Try.func11, Try.ntmps11
  go_wp2_with fail
  go_ret
  exact ⟨rfl, one_more _ _⟩

theorem wright_any (a : A) (w : World) :
    Calls Try.prog 11 #[val a] w fun e w' => e = .returned (.bool (rightV a)) ∧ Below w.heap.size w w' := by
  obtain ⟨k, s, n⟩ := a
  unfold val rightV
  simp only
  rw [show (s.data.toList == []) = s.toList.isEmpty by rw [ByteArray.toList_eq]; cases s.data.toList <;> rfl]
  split
  · rename_i h; subst h; exact right_1 s n w
  · split
    · rename_i h; subst h; exact right_2 s n w
    · split
      · rename_i h; subst h; exact right_3 s n w
      · split
        · rename_i h; subst h; exact right_4 s n w
        · split
          · rename_i h; subst h; exact right_5 s n w
          · rename_i h1 h2 h3 h4 h5
            exact right_0 k s n w (by simpa using h1) (by simpa using h2) (by simpa using h3) (by simpa using h4) (by simpa using h5)

theorem wright_at (k : Int) (s : ByteArray) (n : Int) (b : Bool) (h : rightV (k, s, n) = b) (w : World) :
    Calls Try.prog 11 #[.agg #[.int .i64 k, .string s, .int .i64 n]] w fun e w' => e = .returned (.bool b) ∧ Below w.heap.size w w' := by
  rw [← h]; exact wright_any (k, s, n) w

theorem grow3 {w x y : World} (h : Below w.heap.size w x) (k : Below x.heap.size x y) : Below w.heap.size w y := h.trans (k.mono h.size)

set_option maxHeartbeats 1000000 in
theorem wput_no (k : Int) (s : ByteArray) (n : Int) (w : World) (h : rightV (k, s, n) = false) :
    Calls Try.prog 13 #[.agg #[.int .i64 k, .string s, .int .i64 n]] w fun e w' => e = .returned (.string ⟨#[]⟩) ∧ Below w.heap.size w w' := by
  have Hr := Lib.hid (wright_at k s n false h)
  clear h
  go_enter Try.func13, Try.ntmps13
  go_wp2_with (go_at_call 11; refine (Hr.out _).mono ?_; rintro e w1 ⟨rfl, hb⟩; obtain ⟨hc0, hc1, hc2⟩ := box3 hb)
  go_ret
  exact ⟨rfl, grow3 (one_more _ _) hb⟩
set_option maxHeartbeats 1000000 in
theorem wput_1 (s : ByteArray) (w : World) (h : nameV s.data.toList = true) :
    Calls Try.prog 13 #[.agg #[.int .i64 1, .string s, .int .i64 0]] w fun e w' => e = .returned (.string s) ∧ Below w.heap.size w w' := by
  have Hr := Lib.hid (wright_at 1 s 0 true (right1 h))
  have hs : s.size ≤ 281474976710656 := by
    obtain ⟨c, t, _, _, _, hl⟩ := name_parts h
    have : s.data.toList.length = s.size := by rw [Array.length_toList]; rfl
    omega
  have Hs := Lib.hid hs
  clear h hs
  go_enter Try.func13, Try.ntmps13
  go_wp2_with (first | (go_at_call 11; refine (Hr.out _).mono ?_; rintro e w1 ⟨rfl, hb⟩; obtain ⟨hc0, hc1, hc2⟩ := box3 hb) | (go_at_call 23; refine (clone_any s _ Hs.out).mono ?_; rintro e w2 ⟨rfl, hb2⟩))
  go_ret
  exact ⟨rfl, grow3 (grow3 (one_more _ _) hb) hb2⟩
set_option maxHeartbeats 1000000 in
theorem wput_2 (n : Int) (hn : In n) (w : World) :
    Calls Try.prog 13 #[.agg #[.int .i64 2, .string ⟨#[]⟩, .int .i64 n]] w fun e w' => e = .returned (.string ⟨(dec n).toArray⟩) ∧ Below w.heap.size w w' := by
  have Hr := Lib.hid (wright_at 2 ⟨#[]⟩ n true (right2 n))
  have Hn := Lib.hid hn
  clear hn
  go_enter Try.func13, Try.ntmps13
  go_wp2_with (first | (go_at_call 11; refine (Hr.out _).mono ?_; rintro e w1 ⟨rfl, hb⟩; obtain ⟨hc0, hc1, hc2⟩ := box3 hb) | (go_at_call 21; refine (put_any n _ Hn.out).mono ?_; rintro e w2 ⟨rfl, hb2⟩))
  go_ret
  exact ⟨rfl, grow3 (grow3 (one_more _ _) hb) hb2⟩
set_option maxHeartbeats 1000000 in
theorem wput_3 (n : Int) (hn : plainV n = n) (w : World) :
    Calls Try.prog 13 #[.agg #[.int .i64 3, .string ⟨#[]⟩, .int .i64 n]] w fun e w' => e = .returned (.string ⟨(putV n).toArray⟩) ∧ Below w.heap.size w w' := by
  have Hr := Lib.hid (wright_at 3 ⟨#[]⟩ n true (right3 hn))
  clear hn
  go_enter Try.func13, Try.ntmps13
  go_wp2_with (first | (go_at_call 11; refine (Hr.out _).mono ?_; rintro e w1 ⟨rfl, hb⟩; obtain ⟨hc0, hc1, hc2⟩ := box3 hb) | (go_at_call 22; refine (fput_any n _).mono ?_; rintro e w2 ⟨rfl, hb2⟩))
  go_ret
  exact ⟨rfl, grow3 (grow3 (one_more _ _) hb) hb2⟩
set_option maxHeartbeats 1000000 in
theorem wput_4 (w : World) :
    Calls Try.prog 13 #[.agg #[.int .i64 4, .string ⟨#[]⟩, .int .i64 0]] w fun e w' => e = .returned (.string ⟨nullL.toArray⟩) ∧ Below w.heap.size w w' := by
  have Hr := Lib.hid (wright_at 4 ⟨#[]⟩ 0 true right4)
  go_enter Try.func13, Try.ntmps13
  go_wp2_with (go_at_call 11; refine (Hr.out _).mono ?_; rintro e w1 ⟨rfl, hb⟩; obtain ⟨hc0, hc1, hc2⟩ := box3 hb)
  go_ret
  exact ⟨rfl, grow3 (one_more _ _) hb⟩
set_option maxHeartbeats 1000000 in
theorem wput_5 (n : Int) (hi : In n) (hn : 0 ≤ n ∧ n ≤ 999) (w : World) :
    Calls Try.prog 13 #[.agg #[.int .i64 5, .string ⟨#[]⟩, .int .i64 n]] w fun e w' => e = .returned (.string ⟨(35 :: dec n).toArray⟩) ∧ Below w.heap.size w w' := by
  have Hr := Lib.hid (wright_at 5 ⟨#[]⟩ n true (right5 hn))
  have Hi := Lib.hid hi
  have hfin : (⟨#[35]⟩ : ByteArray) ++ ⟨(dec n).toArray⟩ = ⟨(35 :: dec n).toArray⟩ := by
    apply ByteArray.ext; rw [ByteArray.data_append]; simp
  have Hfin := Lib.hid hfin
  have hlen : ¬ 9223372036854775807 < 1 + (dec n).length := by have := (read_dec n hi).2.2; omega
  clear hn hi hfin
  go_enter Try.func13, Try.ntmps13
  go_wp2_with (first | (go_at_call 11; refine (Hr.out _).mono ?_; rintro e w1 ⟨rfl, hb⟩; obtain ⟨hc0, hc1, hc2⟩ := box3 hb) | (go_at_call 21; refine (put_any n _ Hi.out).mono ?_; rintro e w2 ⟨rfl, hb2⟩))
  go_ret
  exact ⟨congrArg (fun b => Ending.returned (Value.string b)) Hfin.out, grow3 (grow3 (one_more _ _) hb) hb2⟩

theorem wput_any (a : A) (ha : In a.2.2) (w : World) :
    Calls Try.prog 13 #[val a] w fun e w' => e = .returned (.string ⟨(wput a).toArray⟩) ∧ Below w.heap.size w w' := by
  by_cases h : rightV a = true
  · rcases right_cases h with ⟨s, rfl, hn⟩ | ⟨n, rfl⟩ | ⟨n, rfl, hpl⟩ | rfl | ⟨n, rfl, hn⟩
    · rw [wput1 hn, bytes_of]; exact wput_1 s w hn
    · rw [wput2]; exact wput_2 n ha w
    · rw [wput3 hpl]; exact wput_3 n hpl w
    · rw [wput4]; exact wput_4 w
    · rw [wput5 hn]; exact wput_5 n ha hn w
  · have h' : rightV a = false := by simpa using h
    have hp : wput a = [] := by unfold wput; rw [if_neg h]
    rw [hp]
    exact wput_no a.1 a.2.1 a.2.2 w h'
end Go.Proofs.Ytfihnnfjkhcgkaa
