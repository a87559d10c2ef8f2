/-
  lines.kind, behind, lineEnd, walked.
-/
import Derived.Test.YtdibmmiobmlcbaaLinesMem
import Derived.Test.YtdibmmiobmlcbaaClone
import Derived.Lib.Bytealg
import Derived.Lib.Strings
import Derived.Lib.Walk
import Derived.Deep.QuietTactic
import Derived.BigQuiet
namespace Go.Proofs.Ytdibmmiobmlcbaa
open Go.RowKit LinesM Mem

theorem lkind_any (c r : Int) (Hr : Hid (r = if c = 32 ∨ c = 9 then 1 else if c = 59 then 2 else if 33 ≤ c ∧ c ≤ 126 then 0 else 3)) (w : World) : Calls Try.prog 25 #[.int .u8 c] w fun e w' =>
    e = .returned (.int .i64 r) ∧ w = w' := by
  rcases Bool.eq_false_or_eq_true (c == 32) with h1 | h1 <;> rcases Bool.eq_false_or_eq_true (c == 9) with h2 | h2 <;> rcases Bool.eq_false_or_eq_true (c == 59) with h3 | h3 <;>
    rcases Bool.eq_false_or_eq_true (decide (33 ≤ c)) with h4 | h4 <;> rcases Bool.eq_false_or_eq_true (decide (c ≤ 126)) with h5 | h5
  all_goals
    go_enter Try.func25, Try.ntmps25
    go_wp2
    go_ret
    refine ⟨congrArg (fun x => Ending.returned (Value.int .i64 x)) ?_, rfl⟩
    have := Hr.out
    simp only [beq_iff_eq, beq_eq_false_iff_ne, decide_eq_true_eq, decide_eq_false_iff_not] at h1 h2 h3 h4 h5
    (repeat' split at this) <;> omega
theorem lkind_at (c : UInt8) (k : Int) (h : kindB c = k) (w : World) : Calls Try.prog 25 #[.int .u8 (c.toNat : Int)] w fun e w' => e = .returned (.int .i64 k) ∧ w = w' := by
  have e : kindB c = (if (c.toNat : Int) = 32 ∨ (c.toNat : Int) = 9 then 1 else if (c.toNat : Int) = 59 then 2 else if 33 ≤ (c.toNat : Int) ∧ (c.toNat : Int) ≤ 126 then 0 else 3) := by
    unfold kindB
    have a1 : (c = 32) ↔ (c.toNat : Int) = 32 := ⟨fun h => by subst h; rfl, fun h => by rw [← UInt8.toNat_inj]; show c.toNat = 32; omega⟩
    have a2 : (c = 9) ↔ (c.toNat : Int) = 9 := ⟨fun h => by subst h; rfl, fun h => by rw [← UInt8.toNat_inj]; show c.toNat = 9; omega⟩
    have a3 : (c = 59) ↔ (c.toNat : Int) = 59 := ⟨fun h => by subst h; rfl, fun h => by rw [← UInt8.toNat_inj]; show c.toNat = 59; omega⟩
    have a4 : (33 ≤ c.toNat ∧ c.toNat ≤ 126) ↔ (33 ≤ (c.toNat : Int) ∧ (c.toNat : Int) ≤ 126) := by omega
    simp only [a1, a2, a3, a4]
  exact lkind_any _ _ (Lib.hid (by rw [← h, e])) w

theorem ret_int {k : IntKind} {a b : Int} (h : a = b) : Ending.returned (.int k a) = .returned (.int k b) := by rw [h]
theorem drop_at (s : ByteArray) (k : Nat) (h : k < s.size) : s.data.toList.drop k = s[k] :: s.data.toList.drop (k + 1) := by
  rw [List.drop_eq_getElem_cons (by simpa using h)]; rfl
theorem size_list (s : ByteArray) : s.data.toList.length = s.size := by rw [Array.length_toList]; rfl

set_option maxHeartbeats 1000000 in
theorem behind_any (k : Int) (s : ByteArray) (i : Nat) (w : World) (hi : i ≤ s.size) (hs : s.size ≤ 9223372036854775806) :
    Calls Try.prog 24 #[.int .i64 k, .string s, .int .i64 (i : Int)] w fun e w' => e = .returned (.int .i64 ((i + run k (s.data.toList.drop i) : Nat) : Int)) ∧ w = w' := by
  obtain ⟨r, hr⟩ : ∃ r, i + run k (s.data.toList.drop i) = r := ⟨_, rfl⟩
  rw [hr]
  have Hr := Lib.hid hr
  clear hr
  go_enter Try.func24, Try.ntmps24
  go_wp2
  go_loop [2] (fun a => ∃ j : Nat, j ≤ s.size ∧ a = .int .i64 j ∧ Hid (j + run k (s.data.toList.drop j) = r)) (fun a => s.size - (intOf a).toNat)
  case atStart => exact ⟨i, hi, rfl, Hr⟩
  case round =>
    obtain ⟨j, hj, rfl, hrun⟩ := hrel
    by_cases hlt : j < s.size
    · obtain ⟨q, hq⟩ : ∃ q, kindB s[j] = q := ⟨_, rfl⟩
      have HQ := Lib.hid hq
      rcases Bool.eq_false_or_eq_true (q == k) with hk | hk
      · have HR : Hid (j + 1 + run k (s.data.toList.drop (j + 1)) = r) := by
          have := hrun.out
          rw [drop_at s j hlt, run_cons_yes (by rw [hq]; simpa using hk)] at this
          exact Lib.hid (by omega)
        clear hq
        go_wp2_with (go_at_call 25; refine (lkind_at _ _ HQ.out _).mono ?_; rintro e w1 ⟨rfl, rfl⟩)
        go_round
        case rel => exact ⟨j + 1, by omega, by go_num, HR⟩
        case measure => simp [intOf]; omega
      · have HR : Hid (j = r) := by
          have := hrun.out
          rw [drop_at s j hlt, run_cons_no (by rw [hq]; simpa using hk)] at this
          exact Lib.hid (by omega)
        clear hq hrun
        go_wp2_with (go_at_call 25; refine (lkind_at _ _ HQ.out _).mono ?_; rintro e w1 ⟨rfl, rfl⟩)
        go_ret
        exact ⟨ret_int (by have := HR.out; omega), rfl⟩
    · have HR : Hid (j = r) := by
        have := hrun.out
        rw [List.drop_eq_nil_of_le (by rw [size_list]; omega), run_nil] at this
        exact Lib.hid (by omega)
      clear hrun
      go_wp2
      go_ret
      exact ⟨ret_int (by have := HR.out; omega), rfl⟩

theorem byte_any (s : ByteArray) (c : Int) (w : World) :
    Calls Try.prog 28 #[.string s, .int .u8 c] w fun e w' => e = .returned (.int .i64 (Lib.indexByte s.data.toList c.toNat.toUInt8)) ∧ w = w' := by
  go_enter Try.func28, Try.ntmps28
  go_wp2
  rw [run_callFunc_extern Try.func31 (by kernel_rfl) (by kernel_rfl) (by kernel_rfl) (e := Extern.BytealgIndexByte.indexByte) (by kernel_rfl), Lib.run_indexByteString]
  simp only [Result.andThen]
  rw [Oper.upon_value]
  go_wp2
  go_ret
  exact ⟨rfl, rfl⟩
theorem sbyte_any (s : ByteArray) (c : Int) (w : World) :
    Calls Try.prog 23 #[.string s, .int .u8 c] w fun e w' => e = .returned (.int .i64 (Lib.indexByte s.data.toList c.toNat.toUInt8)) ∧ w = w' := by
  go_enter Try.func23, Try.ntmps23
  go_wp2_with (go_at_call 28; refine (byte_any _ _ _).mono ?_; rintro e w' ⟨rfl, rfl⟩)
  go_ret
  exact ⟨rfl, rfl⟩

theorem index_seg (l : List UInt8) : Lib.indexByte l 10 = if (seg l).length = l.length then -1 else ((seg l).length : Int) := by
  induction l with
  | nil => rfl
  | cons c l ih =>
    unfold Lib.indexByte
    by_cases hc : c = 10
    · subst hc; simp [seg]
    · have e : seg (c :: l) = c :: seg l := by unfold seg; rw [List.takeWhile_cons_of_pos (by simp [hc])]
      have hb : (c == 10) = false := by simpa using hc
      rw [hb, e, ih]
      have := seg_le l
      by_cases h : (seg l).length = l.length
      · rw [if_pos h]; simp [h]
      · rw [if_neg h]
        have h2 : ((((seg l).length : Int)) == -1) = false := by simp
        rw [h2]
        simp [h]

theorem lineEnd_any (s : ByteArray) (i : Nat) (w : World) (hi : i ≤ s.size) (hs : s.size ≤ 9223372036854775806) :
    Calls Try.prog 18 #[.string s, .int .i64 (i : Int)] w fun e w' => e = .returned (.int .i64 ((i + (seg (s.data.toList.drop i)).length : Nat) : Int)) ∧ w = w' := by
  have hd : (s.extract i s.size).data.toList = s.data.toList.drop i := by
    rw [Lib.extract_data, List.take_of_length_le (by rw [List.length_drop, size_list]; exact Nat.le_refl _)]
  have hx := index_seg (s.data.toList.drop i)
  have hle := seg_le (s.data.toList.drop i)
  rw [List.length_drop, size_list] at hx hle
  have Q := Lib.hid (sbyte_any (s.extract i s.size) 10 w)
  obtain ⟨n, hn⟩ : ∃ n, (seg (s.data.toList.drop i)).length = n := ⟨_, rfl⟩
  rw [hn] at hx hle ⊢
  have Q2 : Hid (Calls Try.prog 23 #[.string (s.extract i s.size), .int .u8 10] w fun e w' => e = .returned (.int .i64 (if n = s.size - i then -1 else (n : Int))) ∧ w = w') := by
    have := Q.out
    rw [hd] at this
    rw [← hx]
    exact this
  clear hd hx Q hn
  by_cases h : n = s.size - i
  · rw [if_pos h] at Q2
    have e1 : ((s.size : Nat) : Int) = ((i + n : Nat) : Int) := by omega
    have H := Lib.hid e1
    clear e1 h
    go_enter Try.func18, Try.ntmps18
    go_wp2_with (go_at_call 23; refine Q2.out.mono ?_; rintro e w' ⟨rfl, rfl⟩)
    go_ret
    exact ⟨ret_int H.out, rfl⟩
  · rw [if_neg h] at Q2
    clear h
    go_enter Try.func18, Try.ntmps18
    go_wp2_with (go_at_call 23; refine Q2.out.mono ?_; rintro e w' ⟨rfl, rfl⟩)
    go_ret
    exact ⟨ret_int (by omega), rfl⟩
end Go.Proofs.Ytdibmmiobmlcbaa
