/-
  The document's own Name, Right, Put, Get of layer 3, walked: what the program's do.
-/
import Derived.Test.YtfihnnfjkhcgkaaWordGot
import Derived.Test.YtfihnnfjkhcgkaaRef01T
import Derived.Test.YtfihnnfjkhcgkaaRef02T
namespace Go.Proofs.Ytfihnnfjkhcgkaa.R03
open Go.RowKit NumM FloM WordM Mem

/-- what the document's Name has seen of the bytes ahead of the k-th. -/
def Seen (s : ByteArray) (k : Nat) : Prop := (s.data.toList.take k).all (fun c => letB c || digB c) = true ∧ (0 < k → digB (s.data.toList.headD 0) = false)
theorem dig_not_let {c : UInt8} (h : digB c = true) : letB c = false := by
  simp [digB] at h
  cases hl : letB c
  · rfl
  · have := let_val hl; omega
theorem let_not_dig {c : UInt8} (h : letB c = true) : digB c = false := by
  cases hd : digB c
  · rfl
  · rw [dig_not_let hd] at h; cases h
theorem headD_of (s : ByteArray) (h0 : 0 < s.size) : s.data.toList.headD 0 = s[0] := by
  obtain ⟨t, ht⟩ := head_split s h0
  rw [ht]; rfl
theorem Seen.let {s : ByteArray} {k : Nat} (h : Seen s k) (hk : k < s.size) (hc : letB s[k] = true) : Seen s (k + 1) := by
  refine ⟨by rw [take_next s k hk, List.all_append, h.1]; simp [hc], fun _ => ?_⟩
  by_cases h0 : k = 0
  · subst h0; rw [headD_of s hk]; exact let_not_dig hc
  · exact h.2 (by omega)
theorem Seen.dig {s : ByteArray} {k : Nat} (h : Seen s k) (hk : k < s.size) (h0 : 0 < k) (hc : digB s[k] = true) : Seen s (k + 1) :=
  ⟨by rw [take_next s k hk, List.all_append, h.1]; simp [hc], fun _ => h.2 h0⟩
theorem bad_dig {s : ByteArray} (hk : 0 < s.size) (hc : digB s[0] = true) : nameV s.data.toList = false := by
  obtain ⟨t, ht⟩ := head_split s hk
  rw [ht]; exact nameV_digit hc
theorem bad_any {s : ByteArray} {k : Nat} (hk : k < s.size) (h1 : letB s[k] = false) (h2 : digB s[k] = false) : nameV s.data.toList = false :=
  nameV_bad (c := s[k]) (List.getElem_mem (l := s.data.toList) (n := k) (by rw [Array.length_toList]; exact hk)) (by rw [h1, h2]; rfl)
theorem Seen.end {s : ByteArray} (h : Seen s s.size) (h0 : 1 ≤ s.size) (h16 : s.size ≤ 16) : nameV s.data.toList = ((s.data.toList != nullL) && (s.data.toList != intL) && (s.data.toList != floatL)) := by
  obtain ⟨t, ht⟩ := head_split s h0
  have hl : s.data.toList.length = s.size := by rw [Array.length_toList]; rfl
  have h1 := h.1
  have h2 := h.2 h0
  rw [← hl, List.take_length] at h1
  rw [ht] at h1 h2 hl ⊢
  exact nameV_end (by omega) h2 h1

set_option maxHeartbeats 4000000 in
theorem name_any (s : ByteArray) (w : World) (hm : s.size ≤ 9223372036854775807) : Calls Try.prog 10 #[.string s] w fun e w' => e = .returned (.bool (nameV s.data.toList)) ∧ w = w' := by
  obtain ⟨g, hg⟩ : ∃ g, nameV s.data.toList = g := ⟨_, rfl⟩
  rw [hg]
  have Hg := Lib.hid hg
  clear hg
  go_enter Try.func10, Try.ntmps10
  go_wp2_with fail
  go_loop [3, 4, 5] (fun i _ _ => ∃ k : Nat, k ≤ s.size ∧ i = .int .i64 k ∧ Seen s k) (fun i _ _ => s.size - (intOf i).toNat)
  case atStart => exact ⟨0, Nat.zero_le _, rfl, rfl, fun h => absurd h (by omega)⟩
  case round =>
    obtain ⟨k, hk, rfl, hS⟩ := hrel
    have HS := Lib.hid hS
    clear hS
    by_cases hlt : k < s.size
    · have hcl : (48 ≤ s[k].toNat ∧ s[k].toNat ≤ 57) ∨ s[k].toNat = 95 ∨ (65 ≤ s[k].toNat ∧ s[k].toNat ≤ 90) ∨ (97 ≤ s[k].toNat ∧ s[k].toNat ≤ 122) ∨ s[k].toNat ≤ 47 ∨ (58 ≤ s[k].toNat ∧ s[k].toNat ≤ 64) ∨ (91 ≤ s[k].toNat ∧ s[k].toNat ≤ 94) ∨ s[k].toNat = 96 ∨ 123 ≤ s[k].toNat := by omega
      rcases hcl with hc | hc | hc | hc | hc | hc | hc | hc | hc
      · have t1 : decide (48 ≤ (s[k].toNat : Int)) = true := decide_eq_true (by omega)
        have t2 : decide ((s[k].toNat : Int) ≤ 57) = true := decide_eq_true (by omega)
        have t3 : ((s[k].toNat : Int) != 95) = true := by rw [bne_iff_ne]; omega
        have t4 : decide ((s[k].toNat : Int) < 65) = true := decide_eq_true (by omega)
        have t5 : decide (90 < (s[k].toNat : Int)) = false := decide_eq_false (by omega)
        have t6 : decide ((s[k].toNat : Int) < 97) = true := decide_eq_true (by omega)
        have t7 : decide (122 < (s[k].toNat : Int)) = false := decide_eq_false (by omega)
        have Hd := Lib.hid (show digB s[k] = true by simp only [digB, t1, t2]; rfl)
        clear hc
        by_cases h0 : k = 0
        · obtain rfl : g = false := by
            rw [← Hg.out]
            have h1 := Hd.out
            subst h0
            exact bad_dig hlt h1
          subst h0
          go_wp2_with fail
          go_ret
          exact ⟨rfl, rfl⟩
        · have h1 : decide (0 < (k : Int)) = true := decide_eq_true (by omega)
          have hz : 0 < k := by omega
          go_wp2_with fail
          go_round
          case rel => exact ⟨k + 1, by omega, by go_num, HS.out.dig hlt hz Hd.out⟩
          case measure => simp [intOf]; omega
      · have t1 : decide (48 ≤ (s[k].toNat : Int)) = true := decide_eq_true (by omega)
        have t2 : decide ((s[k].toNat : Int) ≤ 57) = false := decide_eq_false (by omega)
        have t3 : ((s[k].toNat : Int) != 95) = false := by rw [hc]; rfl
        have t4 : decide ((s[k].toNat : Int) < 65) = false := decide_eq_false (by omega)
        have t5 : decide (90 < (s[k].toNat : Int)) = true := decide_eq_true (by omega)
        have t6 : decide ((s[k].toNat : Int) < 97) = true := decide_eq_true (by omega)
        have t7 : decide (122 < (s[k].toNat : Int)) = false := decide_eq_false (by omega)
        have Hd := Lib.hid (show letB s[k] = true by unfold letB; simp; omega)
        clear hc
        go_wp2_with fail
        go_round
        case rel => exact ⟨k + 1, by omega, by go_num, HS.out.let hlt Hd.out⟩
        case measure => simp [intOf]; omega
      · have t1 : decide (48 ≤ (s[k].toNat : Int)) = true := decide_eq_true (by omega)
        have t2 : decide ((s[k].toNat : Int) ≤ 57) = false := decide_eq_false (by omega)
        have t3 : ((s[k].toNat : Int) != 95) = true := by rw [bne_iff_ne]; omega
        have t4 : decide ((s[k].toNat : Int) < 65) = false := decide_eq_false (by omega)
        have t5 : decide (90 < (s[k].toNat : Int)) = false := decide_eq_false (by omega)
        have t6 : decide ((s[k].toNat : Int) < 97) = true := decide_eq_true (by omega)
        have t7 : decide (122 < (s[k].toNat : Int)) = false := decide_eq_false (by omega)
        have Hd := Lib.hid (show letB s[k] = true by unfold letB; simp; omega)
        clear hc
        go_wp2_with fail
        go_round
        case rel => exact ⟨k + 1, by omega, by go_num, HS.out.let hlt Hd.out⟩
        case measure => simp [intOf]; omega
      · have t1 : decide (48 ≤ (s[k].toNat : Int)) = true := decide_eq_true (by omega)
        have t2 : decide ((s[k].toNat : Int) ≤ 57) = false := decide_eq_false (by omega)
        have t3 : ((s[k].toNat : Int) != 95) = true := by rw [bne_iff_ne]; omega
        have t4 : decide ((s[k].toNat : Int) < 65) = false := decide_eq_false (by omega)
        have t5 : decide (90 < (s[k].toNat : Int)) = true := decide_eq_true (by omega)
        have t6 : decide ((s[k].toNat : Int) < 97) = false := decide_eq_false (by omega)
        have t7 : decide (122 < (s[k].toNat : Int)) = false := decide_eq_false (by omega)
        have Hd := Lib.hid (show letB s[k] = true by unfold letB; simp; omega)
        clear hc
        go_wp2_with fail
        go_round
        case rel => exact ⟨k + 1, by omega, by go_num, HS.out.let hlt Hd.out⟩
        case measure => simp [intOf]; omega
      · have t1 : decide (48 ≤ (s[k].toNat : Int)) = false := decide_eq_false (by omega)
        have t2 : decide ((s[k].toNat : Int) ≤ 57) = true := decide_eq_true (by omega)
        have t3 : ((s[k].toNat : Int) != 95) = true := by rw [bne_iff_ne]; omega
        have t4 : decide ((s[k].toNat : Int) < 65) = true := decide_eq_true (by omega)
        have t5 : decide (90 < (s[k].toNat : Int)) = false := decide_eq_false (by omega)
        have t6 : decide ((s[k].toNat : Int) < 97) = true := decide_eq_true (by omega)
        have t7 : decide (122 < (s[k].toNat : Int)) = false := decide_eq_false (by omega)
        obtain rfl : g = false := by
          rw [← Hg.out]
          refine bad_any hlt ?_ ?_
          · cases hl : letB s[k]
            · rfl
            · have := let_val hl; omega
          · simp only [digB, t1, t2]; rfl
        clear hc
        go_wp2_with fail
        go_ret
        exact ⟨rfl, rfl⟩
      · have t1 : decide (48 ≤ (s[k].toNat : Int)) = true := decide_eq_true (by omega)
        have t2 : decide ((s[k].toNat : Int) ≤ 57) = false := decide_eq_false (by omega)
        have t3 : ((s[k].toNat : Int) != 95) = true := by rw [bne_iff_ne]; omega
        have t4 : decide ((s[k].toNat : Int) < 65) = true := decide_eq_true (by omega)
        have t5 : decide (90 < (s[k].toNat : Int)) = false := decide_eq_false (by omega)
        have t6 : decide ((s[k].toNat : Int) < 97) = true := decide_eq_true (by omega)
        have t7 : decide (122 < (s[k].toNat : Int)) = false := decide_eq_false (by omega)
        obtain rfl : g = false := by
          rw [← Hg.out]
          refine bad_any hlt ?_ ?_
          · cases hl : letB s[k]
            · rfl
            · have := let_val hl; omega
          · simp only [digB, t1, t2]; rfl
        clear hc
        go_wp2_with fail
        go_ret
        exact ⟨rfl, rfl⟩
      · have t1 : decide (48 ≤ (s[k].toNat : Int)) = true := decide_eq_true (by omega)
        have t2 : decide ((s[k].toNat : Int) ≤ 57) = false := decide_eq_false (by omega)
        have t3 : ((s[k].toNat : Int) != 95) = true := by rw [bne_iff_ne]; omega
        have t4 : decide ((s[k].toNat : Int) < 65) = false := decide_eq_false (by omega)
        have t5 : decide (90 < (s[k].toNat : Int)) = true := decide_eq_true (by omega)
        have t6 : decide ((s[k].toNat : Int) < 97) = true := decide_eq_true (by omega)
        have t7 : decide (122 < (s[k].toNat : Int)) = false := decide_eq_false (by omega)
        obtain rfl : g = false := by
          rw [← Hg.out]
          refine bad_any hlt ?_ ?_
          · cases hl : letB s[k]
            · rfl
            · have := let_val hl; omega
          · simp only [digB, t1, t2]; rfl
        clear hc
        go_wp2_with fail
        go_ret
        exact ⟨rfl, rfl⟩
      · have t1 : decide (48 ≤ (s[k].toNat : Int)) = true := decide_eq_true (by omega)
        have t2 : decide ((s[k].toNat : Int) ≤ 57) = false := decide_eq_false (by omega)
        have t3 : ((s[k].toNat : Int) != 95) = true := by rw [bne_iff_ne]; omega
        have t4 : decide ((s[k].toNat : Int) < 65) = false := decide_eq_false (by omega)
        have t5 : decide (90 < (s[k].toNat : Int)) = true := decide_eq_true (by omega)
        have t6 : decide ((s[k].toNat : Int) < 97) = true := decide_eq_true (by omega)
        have t7 : decide (122 < (s[k].toNat : Int)) = false := decide_eq_false (by omega)
        obtain rfl : g = false := by
          rw [← Hg.out]
          refine bad_any hlt ?_ ?_
          · cases hl : letB s[k]
            · rfl
            · have := let_val hl; omega
          · simp only [digB, t1, t2]; rfl
        clear hc
        go_wp2_with fail
        go_ret
        exact ⟨rfl, rfl⟩
      · have t1 : decide (48 ≤ (s[k].toNat : Int)) = true := decide_eq_true (by omega)
        have t2 : decide ((s[k].toNat : Int) ≤ 57) = false := decide_eq_false (by omega)
        have t3 : ((s[k].toNat : Int) != 95) = true := by rw [bne_iff_ne]; omega
        have t4 : decide ((s[k].toNat : Int) < 65) = false := decide_eq_false (by omega)
        have t5 : decide (90 < (s[k].toNat : Int)) = true := decide_eq_true (by omega)
        have t6 : decide ((s[k].toNat : Int) < 97) = false := decide_eq_false (by omega)
        have t7 : decide (122 < (s[k].toNat : Int)) = true := decide_eq_true (by omega)
        obtain rfl : g = false := by
          rw [← Hg.out]
          refine bad_any hlt ?_ ?_
          · cases hl : letB s[k]
            · rfl
            · have := let_val hl; omega
          · simp only [digB, t1, t2]; rfl
        clear hc
        go_wp2_with fail
        go_ret
        exact ⟨rfl, rfl⟩
    · obtain rfl : k = s.size := by omega
      have e1 : (s.toList == [110, 117, 108, 108]) = (s.data.toList == nullL) := by rw [ByteArray.toList_eq]; rfl
      by_cases h0 : s.size = 0
      · obtain rfl : g = false := by
          rw [← Hg.out]
          have hs : s.data.toList = [] := by
            have : s = ByteArray.empty := by simpa using h0
            rw [this]; rfl
          rw [hs]; exact nameV_nil
        have t1 : decide (1 ≤ (s.size : Int)) = false := decide_eq_false (by omega)
        clear hk hlt h0 e1
        go_wp2_with fail
        go_ret
        exact ⟨rfl, rfl⟩
      · have t1 : decide (1 ≤ (s.size : Int)) = true := decide_eq_true (by omega)
        by_cases h16 : s.size ≤ 16
        · have t2 : decide ((s.size : Int) ≤ 16) = true := decide_eq_true (by omega)
          have hend := HS.out.end (by omega) h16
          rw [Hg.out] at hend
          subst hend
          clear hk hlt h0 h16 e1 Hg
          rcases Bool.eq_false_or_eq_true (s.toList == [110, 117, 108, 108]) with q1 | q1 <;> rcases Bool.eq_false_or_eq_true (s.toList == [105, 110, 116]) with q2 | q2 <;>
            rcases Bool.eq_false_or_eq_true (s.toList == [102, 108, 111, 97, 116]) with q3 | q3
          all_goals
            go_wp2_with fail
            go_ret
            exact ⟨by unfold nullL intL floatL; rw [← ByteArray.toList_eq]; simp only [bne, q1, q2, q3, Bool.not_true, Bool.not_false, Bool.true_and, Bool.false_and] <;> rfl, rfl⟩
        · obtain rfl : g = false := by
            rw [← Hg.out]
            exact nameV_long (by rw [Array.length_toList]; show 16 < s.size; omega)
          have t2 : decide ((s.size : Int) ≤ 16) = false := decide_eq_false (by omega)
          clear hk hlt h0 h16 e1
          go_wp2_with fail
          go_ret
          exact ⟨rfl, rfl⟩
end Go.Proofs.Ytfihnnfjkhcgkaa.R03
