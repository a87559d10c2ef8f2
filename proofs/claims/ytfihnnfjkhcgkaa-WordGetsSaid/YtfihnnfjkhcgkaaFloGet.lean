/-
  flo.digit, flo.read, flo.Get: a text as a float.
-/
import Derived.Test.YtfihnnfjkhcgkaaFloPut
namespace Go.Proofs.Ytfihnnfjkhcgkaa
open Go.RowKit NumM FloM Mem

theorem ftake_next (s : ByteArray) (k : Nat) (h : k < s.size) : s.data.toList.take (k + 1) = s.data.toList.take k ++ [s[k]] := by
  rw [List.take_succ_eq_append_getElem (by simpa using h)]; rfl

theorem cut_two (s : ByteArray) (h : s.size = 18) : (s.extract 2 18).data.toList = s.data.toList.drop 2 := by
  rw [ByteArray.data_extract, Array.toList_extract]
  simp only [List.extract_eq_take_drop]
  rw [List.take_of_length_le]
  have : s.data.toList.length = 18 := by simpa using h
  simp [this]

set_option maxHeartbeats 400000 in
theorem digit_any (c : UInt8) (w : World) : Calls Try.prog 39 #[.int .u8 (c.toNat : Int)] w fun e w' => e = .returned (.int .i64 (dgV c)) ∧ w = w' := by
  have hc : (c.toNat : Int) < 256 := by have := c.toNat_lt; omega
  have h0 : 0 ≤ (c.toNat : Int) := by omega
  by_cases h : 97 ≤ (c.toNat : Int)
  · have hv : dgV c = (c.toNat : Int) - 97 + 10 := by unfold dgV; rw [if_pos h]; omega
    rw [hv]
    clear hv
    go_enter Try.func39, Try.ntmps39
    go_wp2
    go_ret
    exact ⟨rfl, rfl⟩
  · have hv : dgV c = ((c.toNat : Int) - 48) % 256 := by unfold dgV; rw [if_neg h]
    rw [hv]
    have hd : decide (97 ≤ (c.toNat : Int)) = false := by simpa using h
    clear hv h
    go_enter Try.func39, Try.ntmps39
    go_wp2
    go_ret
    exact ⟨ret_i (by omega), rfl⟩

set_option maxHeartbeats 400000 in
theorem fread_any (s : ByteArray) (w : World) (hs : s.size ≤ 20) :
    Calls Try.prog 38 #[.string s] w fun e w' => e = .returned (.int .i64 (frd s.data.toList)) ∧ w = w' := by
  go_enter Try.func38, Try.ntmps38
  go_wp2
  go_loop [3, 4] (fun n i => ∃ k : Nat, k ≤ s.size ∧ i = .int .i64 k ∧ n = .int .i64 (frd (s.data.toList.take k))) (fun _ i => s.size - (intOf i).toNat)
  case atStart => exact ⟨0, Nat.zero_le _, rfl, rfl⟩
  case round =>
    obtain ⟨k, hk, rfl, rfl⟩ := hrel
    by_cases hlt : k < s.size
    · go_wp2_with (go_at_call 39; refine (digit_any _ _).mono ?_; rintro e w' ⟨rfl, rfl⟩)
      go_round
      case rel => exact ⟨k + 1, by omega, by go_num, by rw [ftake_next s k hlt, frd_snoc]; rfl⟩
      case measure => simp [intOf]; omega
    · go_wp2_with (go_at_call 39; refine (digit_any _ _).mono ?_; rintro e w' ⟨rfl, rfl⟩)
      go_ret
      exact ⟨ret_i (by rw [List.take_of_length_le (by simp; omega)]), rfl⟩

theorem fread_at (s : ByteArray) (v : Int) (w : World) (hs : s.size ≤ 20) (hv : frd s.data.toList = v) :
    Calls Try.prog 38 #[.string s] w fun e w' => e = .returned (.int .i64 v) ∧ w = w' := by
  subst hv; exact fread_any s w hs

set_option maxHeartbeats 400000 in
theorem fget_any (s : ByteArray) (w : World) :
    Calls Try.prog 37 #[.string s] w fun e w' => e = .returned (.tuple #[.int .i64 (fgetV s.data.toList).1, .bool (fgetV s.data.toList).2]) ∧ Below w.heap.size w w' := by
  by_cases h18 : s.size = 18
  · have h1 : ((s.size : Int) != 18) = false := by simp; omega
    have hl : s.data.toList.length = 18 := by simpa using h18
    have hrd : ∃ v, frd (s.data.toList.drop 2) = v ∧ frd (s.extract 2 18).data.toList = v := ⟨_, rfl, by rw [cut_two s h18]⟩
    obtain ⟨v, hv0, hv1⟩ := hrd
    have Hv1 := Lib.hid hv1
    by_cases hd : putV v = s.data.toList
    · have hv : fgetV s.data.toList = (v, true) := by unfold fgetV; rw [if_pos hl, hv0, if_pos hd]
      rw [hv]
      have hb : (!putV v == s.toList) = false := by rw [ByteArray.toList_eq]; simpa using hd
      clear hv hd hl hv0 hv1
      go_enter Try.func37, Try.ntmps37
      go_wp2_with (first | (go_at_call 38; refine (fread_at _ v _ (by simp; omega) Hv1.out).mono ?_; rintro e w' ⟨rfl, rfl⟩) | (go_at_call 22; refine (fput_any _ _).mono ?_; rintro e w' ⟨rfl, hb1⟩))
      go_ret2
      exact ⟨rfl, hb1⟩
    · have hv : fgetV s.data.toList = (0, false) := by unfold fgetV; rw [if_pos hl, hv0, if_neg hd]
      rw [hv]
      have hb : (!putV v == s.toList) = true := by rw [ByteArray.toList_eq]; simpa using hd
      clear hv hd hl hv0 hv1
      go_enter Try.func37, Try.ntmps37
      go_wp2_with (first | (go_at_call 38; refine (fread_at _ v _ (by simp; omega) Hv1.out).mono ?_; rintro e w' ⟨rfl, rfl⟩) | (go_at_call 22; refine (fput_any _ _).mono ?_; rintro e w' ⟨rfl, hb1⟩))
      go_ret2
      exact ⟨rfl, hb1⟩
  · have hv : fgetV s.data.toList = (0, false) := by unfold fgetV; rw [if_neg (by simpa using h18)]
    have h1 : ((s.size : Int) != 18) = true := by simp; omega
    rw [hv]
    clear hv h18
    go_enter Try.func37, Try.ntmps37
    go_wp2
    go_ret2
    exact ⟨rfl, Below.refl _ _⟩

end Go.Proofs.Ytfihnnfjkhcgkaa
