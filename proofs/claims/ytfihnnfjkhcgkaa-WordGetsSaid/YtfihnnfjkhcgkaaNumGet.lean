/-
  num.read, num.Get, num.Is: a text as a number.
-/
import Derived.Test.YtfihnnfjkhcgkaaNumPut
namespace Go.Proofs.Ytfihnnfjkhcgkaa
open Go.RowKit NumM Mem

theorem take_next (s : ByteArray) (k : Nat) (h : k < s.size) : s.data.toList.take (k + 1) = s.data.toList.take k ++ [s[k]] := by
  rw [List.take_succ_eq_append_getElem (by simpa using h)]; rfl

theorem ret_i64 {a b : Int} (h : a = b) : Ending.returned (Value.int IntKind.i64 a) = .returned (.int .i64 b) := by rw [h]

theorem head_of (s : ByteArray) (h0 : 0 < s.size) : s.data.toList.head? = some s[0] := by
  rw [List.head?_eq_getElem?, List.getElem?_eq_getElem (by simpa using h0)]
  rfl

theorem cut_one (s : ByteArray) : (s.extract 1 s.size).data.toList = s.data.toList.tail := by
  rw [ByteArray.data_extract, Array.toList_extract]
  simp [List.extract, List.drop_one]
  rw [List.take_of_length_le]
  simp

theorem u8_eq (c : UInt8) : ((c.toNat : Int) == 45) = decide (c = 45) := by
  rw [Bool.eq_iff_iff, beq_iff_eq, decide_eq_true_iff]
  constructor
  · intro h
    have h2 : c.toNat = (45 : UInt8).toNat := by
      have : (45 : UInt8).toNat = 45 := rfl
      omega
    exact UInt8.toNat_inj.1 h2
  · rintro rfl; rfl

set_option maxHeartbeats 400000 in
theorem read_pos (s : ByteArray) (w : World) (hs : s.size ≤ 20) (h0 : 0 < s.size) (h : ¬ s[0] = 45) :
    Calls Try.prog 36 #[.string s] w fun e w' => e = .returned (.int .i64 (readV s.data.toList)) ∧ w = w' := by
  have hv : readV s.data.toList = rd s.data.toList := by
    unfold readV
    rw [if_neg]
    rw [head_of s h0]
    simpa using h
  have Hv := Lib.hid hv
  have h1 : ((s[0].toNat : Int) == 45) = false := by rw [u8_eq]; simpa using h
  clear hv h
  go_enter Try.func36, Try.ntmps36
  go_wp2
  go_loop [4, 5] (fun n i => ∃ k : Nat, k ≤ s.size ∧ i = .int .i64 k ∧ n = .int .i64 (rd (s.data.toList.take k))) (fun _ i => s.size - (intOf i).toNat)
  case atStart => exact ⟨0, Nat.zero_le _, rfl, rfl⟩
  case round =>
    obtain ⟨k, hk, rfl, rfl⟩ := hrel
    by_cases hlt : k < s.size
    · go_wp2
      all_goals
        go_round
        case rel => exact ⟨k + 1, by omega, by go_num, by rw [take_next s k hlt, rd_snoc]; rfl⟩
        case measure => simp [intOf]; omega
    · go_wp2
      go_ret
      exact ⟨ret_i64 (by rw [Hv.out, List.take_of_length_le (by simp; omega)]), rfl⟩

set_option maxHeartbeats 400000 in
theorem read_neg (s : ByteArray) (w : World) (hs : s.size ≤ 20) (h0 : 0 < s.size) (h : s[0] = 45) :
    Calls Try.prog 36 #[.string s] w fun e w' => e = .returned (.int .i64 (readV s.data.toList)) ∧ w = w' := by
  have hv : readV s.data.toList = wrap64 (-rd s.data.toList.tail) := by
    unfold readV
    rw [if_pos (by rw [head_of s h0, h])]
  have Hv := Lib.hid hv
  have h1 : ((s[0].toNat : Int) == 45) = true := by rw [u8_eq]; simpa using h
  clear hv h
  go_enter Try.func36, Try.ntmps36
  go_wp2
  go_loop [4, 5] (fun n i => ∃ k : Nat, k ≤ s.size - 1 ∧ i = .int .i64 k ∧ n = .int .i64 (rd (s.data.toList.tail.take k))) (fun _ i => s.size - 1 - (intOf i).toNat)
  case atStart => exact ⟨0, Nat.zero_le _, rfl, rfl⟩
  case round =>
    obtain ⟨k, hk, rfl, rfl⟩ := hrel
    by_cases hlt : k < s.size - 1
    · go_wp2
      all_goals
        go_round
        case rel =>
          exact ⟨k + 1, by omega, by go_num, by rw [← cut_one, take_next _ k (by simp; omega), rd_snoc]; rfl⟩
        case measure => simp [intOf]; omega
    · go_wp2
      go_ret
      exact ⟨ret_i64 (by rw [Hv.out, List.take_of_length_le (by simp; omega)]), rfl⟩

set_option maxHeartbeats 400000 in
theorem read_none (s : ByteArray) (w : World) (h0 : s.size = 0) :
    Calls Try.prog 36 #[.string s] w fun e w' => e = .returned (.int .i64 (readV s.data.toList)) ∧ w = w' := by
  have hs : s = ⟨[].toArray⟩ := by
    have : s = ByteArray.empty := by simpa using h0
    rw [this]; rfl
  subst hs
  go_enter Try.func36, Try.ntmps36
  go_wp2
  go_loop [4, 5] (fun n i => i = .int .i64 0 ∧ n = .int .i64 0) (fun _ i => 1)
  case atStart => exact ⟨rfl, rfl⟩
  case round =>
    obtain ⟨rfl, rfl⟩ := hrel
    go_wp2
    go_ret
    exact ⟨rfl, rfl⟩

theorem read_any (s : ByteArray) (w : World) (hs : s.size ≤ 20) :
    Calls Try.prog 36 #[.string s] w fun e w' => e = .returned (.int .i64 (readV s.data.toList)) ∧ w = w' := by
  by_cases h0 : s.size = 0
  · exact read_none s w h0
  · by_cases h : s[0]'(by omega) = 45
    · exact read_neg s w hs (by omega) h
    · exact read_pos s w hs (by omega) h

set_option maxHeartbeats 400000 in
theorem get_any (s : ByteArray) (w : World) (hm : s.size ≤ maxLen) :
    Calls Try.prog 33 #[.string s] w fun e w' => e = .returned (.tuple #[.int .i64 (getV s.data.toList).1, .bool (getV s.data.toList).2]) ∧ Below w.heap.size w w' := by
  unfold maxLen at hm
  by_cases h20 : 20 < s.size
  · have hv : getV s.data.toList = (0, false) := by unfold getV; rw [if_pos (by simpa using h20)]
    rw [hv]
    clear hv
    go_enter Try.func33, Try.ntmps33
    go_wp2
    go_ret2
    exact ⟨rfl, Below.refl _ _⟩
  · by_cases hd : dec (readV s.data.toList) = s.data.toList
    · have hv : getV s.data.toList = (readV s.data.toList, true) := by unfold getV; rw [if_neg (by simpa using h20), if_pos hd]
      rw [hv]
      have hb : (!dec (readV s.data.toList) == s.toList) = false := by rw [ByteArray.toList_eq]; simpa using hd
      clear hv hd
      go_enter Try.func33, Try.ntmps33
      go_wp2_with (first | (go_at_call 36; refine (read_any _ _ (by omega)).mono ?_; rintro e w' ⟨rfl, rfl⟩) | (go_at_call 21; refine (put_any _ _ (in_readV _)).mono ?_; rintro e w' ⟨rfl, hb1⟩))
      go_ret2
      exact ⟨rfl, hb1⟩
    · have hv : getV s.data.toList = (0, false) := by unfold getV; rw [if_neg (by simpa using h20), if_neg hd]
      rw [hv]
      have hb : (!dec (readV s.data.toList) == s.toList) = true := by rw [ByteArray.toList_eq]; simpa using hd
      clear hv hd
      go_enter Try.func33, Try.ntmps33
      go_wp2_with (first | (go_at_call 36; refine (read_any _ _ (by omega)).mono ?_; rintro e w' ⟨rfl, rfl⟩) | (go_at_call 21; refine (put_any _ _ (in_readV _)).mono ?_; rintro e w' ⟨rfl, hb1⟩))
      go_ret2
      exact ⟨rfl, hb1⟩

end Go.Proofs.Ytfihnnfjkhcgkaa
