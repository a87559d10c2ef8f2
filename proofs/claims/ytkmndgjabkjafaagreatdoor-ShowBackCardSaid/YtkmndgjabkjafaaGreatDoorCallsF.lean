/-
  What flo.Plain, flo.number, flo.bits, flo.truth and flo.Do do, on whatever they are given. A result that is no number has whatever bits; what is answered hangs on none of them.
  Plain facts on floats and whole numbers, each turned into the other. No program is named here.
  flo.OfInt and flo.ToInt, on whatever they are given.
  flo.Put: 0f, and a float's sixteen digits, laid from the last one on into an array.
  flo.digit, flo.read, flo.Get: a text as a float.
-/
import Derived.Test.YtkmndgjabkjafaaGreatDoorRows
import Derived.Test.YtkmndgjabkjafaaGreatDoorPlainN
import Derived.Laws.Externs
import Derived.WalkKit
import Derived.WalkSpells
import Derived.WalkLawsBesides
import Derived.Below
import Derived.Lib.Hide
import Derived.Test.YtkmndgjabkjafaaGreatDoorMem
import Derived.Laws.IdiomStrings
import Derived.Lib.LazyBuf
import Derived.Lib.SlBuf
namespace Go.Proofs.YtkmndgjabkjafaaGreatDoor
open Go.RowKit NumM FloM

theorem ret_i {k : IntKind} {a b : Int} (h : a = b) : Ending.returned (Value.int k a) = .returned (.int k b) := by rw [h]
set_option maxHeartbeats 400000 in
theorem plain_any (n : Int) (w : World) : Calls Tryz.prog 182 #[.int .i64 n] w fun e w' => e = .returned (.int .i64 (plainV n)) ∧ w = w' := by
  by_cases h : 9218868437227405312 < n % 9223372036854775808
  · have hd : decide (9218868437227405312 < bits .and .i64 n 9223372036854775807) = true := by rw [low63]; simpa using h
    have hv : plainV n = 9221120237041090560 := by unfold plainV; rw [if_pos h]
    rw [hv]
    clear hv h
    go_enter Tryz.func182, Tryz.ntmps182
    go_wp2
    go_ret
    exact ⟨rfl, rfl⟩
  · have hd : decide (9218868437227405312 < bits .and .i64 n 9223372036854775807) = false := by rw [low63]; simpa using h
    have hv : plainV n = n := by unfold plainV; rw [if_neg h]
    rw [hv]
    clear hv h
    go_enter Tryz.func182, Tryz.ntmps182
    go_wp2
    go_ret
    exact ⟨rfl, rfl⟩

end Go.Proofs.YtkmndgjabkjafaaGreatDoor

namespace Go.Proofs.YtkmndgjabkjafaaGreatDoor.FloM
open Go.RowKit NumM

end Go.Proofs.YtkmndgjabkjafaaGreatDoor.FloM

namespace Go.Proofs.YtkmndgjabkjafaaGreatDoor
open Go.RowKit NumM FloM

end Go.Proofs.YtkmndgjabkjafaaGreatDoor

namespace Go.Proofs.YtkmndgjabkjafaaGreatDoor
open Go.RowKit NumM FloM Mem

theorem arr_whole (w : World) (g : Nat) :
    (Instr.sliceAt 235 (.pointer (some ⟨g, 0, none⟩)) none none none).run Tryz.prog w = .ok (.slice (some ⟨g, 0, none⟩) 18 18) w := by kernel_rfl

theorem whole_back (w : World) (g : Nat) (l : List UInt8) (t : TypeId) (ho : Own w g t (l.map fun b => .int .u8 (b.toNat : Int))) (hl : l.length = 18) :
    (convert 108 9 (.slice (some ⟨g, 0, none⟩) 18 18)).run Tryz.prog w = .ok (.string ⟨l.toArray⟩) w := by
  rw [← hl]
  refine run_convert_bytes_back (P := Tryz.prog) w 108 9 5 ⟨g, 0, none⟩ l.length l Tryz.underlying108 Tryz.underlying5 Tryz.underlying9 ?_
  intro j hj
  have e : (⟨g, 0, none⟩ : Addr).add j = ⟨g, j, none⟩ := by
    unfold Addr.add
    by_cases h0 : j = 0
    · subst h0; simp
    · simp [h0]
  rw [e, ho.cell]
  simp [List.getElem?_eq_getElem hj]

theorem low_four (r : Nat) : bits .and .u64 (r : Int) 15 = ((r % 16 : Nat) : Int) := by
  rw [bits_and_u64, wu64, BitVec.toNat_and, BitVec.toNat_ofInt, BitVec.toNat_ofInt]
  rw [show (15 % ((2 ^ 64 : Nat) : Int)).toNat = 2 ^ 4 - 1 from by decide, Nat.and_two_pow_sub_one_eq_mod]
  omega

set_option maxRecDepth 100000 in
theorem digit_of (k : Nat) (h : k < 16) (w : World) : (Instr.index 9 (.string ⟨#[48, 49, 50, 51, 52, 53, 54, 55, 56, 57, 97, 98, 99, 100, 101, 102]⟩) (.int .u64 (k : Int))).run Tryz.prog w = .ok (.int .u8 ((hx k).toNat : Int)) w := by
  match k, h with
  | 0, _ | 1, _ | 2, _ | 3, _ | 4, _ | 5, _ | 6, _ | 7, _ | 8, _ | 9, _ | 10, _ | 11, _ | 12, _ | 13, _ | 14, _ | 15, _ => (show _ = _; kernel_rfl)
  | k + 16, h => omega

theorem digit_at (r : Nat) (w : World) : (Instr.index 9 (.string ⟨#[48, 49, 50, 51, 52, 53, 54, 55, 56, 57, 97, 98, 99, 100, 101, 102]⟩) (.int .u64 (bits .and .u64 (r : Int) 15))).run Tryz.prog w = .ok (.int .u8 ((hx r).toNat : Int)) w := by
  have hh : hx r = hx (r % 16) := by unfold hx; rw [Nat.mod_mod]
  rw [low_four, hh]
  exact digit_of _ (Nat.mod_lt _ (by decide)) w

/-- 'copy(text[:], "0f")' into a new array. -/
theorem copy_head (w : World) (ty : TypeId) (T : TypeId) :
    ∃ w1, (Builtin.copy_ #[108, 9] ty #[.slice (some ⟨w.heap.size, 0, none⟩) 18 18, .string ⟨#[48, 102]⟩]).run Tryz.prog (w.alloc (.cells #[.int .u8 0, .int .u8 0, .int .u8 0, .int .u8 0, .int .u8 0, .int .u8 0, .int .u8 0, .int .u8 0, .int .u8 0, .int .u8 0, .int .u8 0, .int .u8 0, .int .u8 0, .int .u8 0, .int .u8 0, .int .u8 0, .int .u8 0, .int .u8 0] T)) = .ok (.int .i64 2) w1 ∧
      Own w1 w.heap.size T ([.int .u8 48, .int .u8 102] ++ List.replicate 16 (.int .u8 0)) ∧ Below w.heap.size w w1 := by
  have ho : Own (w.alloc (.cells #[.int .u8 0, .int .u8 0, .int .u8 0, .int .u8 0, .int .u8 0, .int .u8 0, .int .u8 0, .int .u8 0, .int .u8 0, .int .u8 0, .int .u8 0, .int .u8 0, .int .u8 0, .int .u8 0, .int .u8 0, .int .u8 0, .int .u8 0, .int .u8 0] T)) w.heap.size T (List.replicate 18 (Value.int .u8 0)) := Own.made w T _
  refine ⟨_, run_copy_string (P := Tryz.prog) _ 108 9 ty 5 w.heap.size 0 18 18 ⟨#[48, 102]⟩ Tryz.underlying108 (fun w => by kernel_rfl) (by decide) ?_ ?_, ?_, ?_⟩
  · intro j hj
    have hj : j < 2 := hj
    rw [ho.cell, List.getElem?_replicate, if_pos (by omega)]; rfl
  · intro j hj; exact ho.thaw _
  · exact (ho.store 0 (.int .u8 48)).store 1 (.int .u8 102)
  · exact (((Below.refl w.heap.size w).alloc (Nat.le_refl _) _).setCell (Nat.le_refl _) _).setCell (Nat.le_refl _) _

theorem set_mid (a : Nat) (ha : 2 ≤ a) (z x : Value) (f t : List Value) (hf : f.length = 2) : (f ++ (List.replicate (a - 1) z ++ t)).set a x = f ++ (List.replicate (a - 2) z ++ x :: t) := by
  obtain ⟨k, rfl⟩ : ∃ k, a = k + 2 := ⟨a - 2, by omega⟩
  have e : List.replicate (k + 2 - 1) z ++ t = List.replicate k z ++ z :: t := by
    rw [show k + 2 - 1 = k + 1 from rfl, List.replicate_succ']; simp
  rw [e, Nat.add_sub_cancel, List.set_append_right _ _ (by omega), hf, Nat.add_sub_cancel, List.set_append_right _ _ (by simp)]
  simp

set_option maxHeartbeats 800000 in
set_option maxRecDepth 20000 in
theorem fput_any (n : Int) (w : World) : Calls Tryz.prog 168 #[.int .i64 n] w fun e w' => e = .returned (.string ⟨(putV n).toArray⟩) ∧ Below w.heap.size w w' := by
  obtain ⟨w1, hcp, ho1, hb1⟩ := copy_head w 3 235
  have Ho := Lib.hid ho1
  have Hb := Lib.hid hb1
  have Hlt : Hid ((fl n : Int) < 18446744073709551616) := by have := fl_lt n; show _ < _; omega
  have Hfl : Hid (Value.int .u64 (IntKind.u64.wrap (plainV n)) = .int .u64 (fl n : Int)) := by
    show _ = _
    rw [wu64]; unfold fl ub; congr 1; omega
  clear ho1 hb1
  go_enter Tryz.func168, Tryz.ntmps168
  go_wp2_with (go_at_call 182; refine (plain_any _ _).mono ?_; rintro e w' ⟨rfl, rfl⟩)
  go_loopw [4, 5] (fun rest at_ wr => ∃ (a r : Nat) (l : List UInt8), at_ = .int .i64 (a : Int) ∧ rest = .int .u64 (r : Int) ∧ 1 ≤ a ∧ a ≤ 17 ∧ (r : Int) < 18446744073709551616 ∧ Hexs (fl n) (a - 1) r l ∧
      Own wr w.heap.size 235 ([.int .u8 48, .int .u8 102] ++ (List.replicate (a - 1) (.int .u8 0) ++ l.map fun b => .int .u8 (b.toNat : Int))) ∧ l.length + a = 17 ∧ Below w.heap.size w wr) (fun _ at_ _ => (intOf at_).toNat)
  case atStart =>
    exact ⟨17, fl n, [], rfl, Hfl.out, by omega, by omega, Hlt.out, Hexs.start _, Ho.out, rfl, Hb.out⟩
  case round =>
    obtain ⟨a, r, l, rfl, rfl, ha, ha', hr, hd, ho, hl, hb⟩ := hrel
    by_cases h1 : a = 1
    · subst h1
      have hcv := whole_back wr w.heap.size ([48, 102] ++ l) _ (by simpa using ho) (by simp; omega)
      have hfin : Ending.returned (.string ⟨([48, 102] ++ l).toArray⟩) = .returned (.string ⟨(putV n).toArray⟩) := by rw [putV, hd.last]
      have Hfin := Lib.hid hfin
      have hsl : ∀ wx, (Instr.sliceAt 235 (.pointer (some ⟨w.heap.size, 0, none⟩)) none none none).run Tryz.prog wx = .ok (.slice (some ⟨w.heap.size, 0, none⟩) 18 18) wx := fun wx => arr_whole wx _
      clear hfin hd ho hl hr
      go_wp2
      go_ret
      exact ⟨Hfin.out, hb⟩
    · have hc : wr.cell? ⟨w.heap.size, a, none⟩ = some (.int .u8 0) := by
        rw [ho.cell, List.getElem?_append_right (by simp; omega)]
        rw [List.getElem?_append_left (by simp; omega), List.getElem?_replicate, if_pos (by simp; omega)]
      have hf := ho.thaw a
      have hix := fun wx => digit_at r wx
      have Ho := Lib.hid ho
      have Hd := Lib.hid hd
      have Hl := Lib.hid hl
      have hd2 : decide (2 ≤ (a : Int)) = true := by simp; omega
      have H2 : Hid (2 ≤ a) := by show _ ≤ _; omega
      clear ho hd hl h1 ha
      go_wp2
      go_roundw
      case rel =>
        have h2 := H2.out
        have ho := Ho.out.store a (.int .u8 ((hx r).toNat : Int))
        rw [set_mid a (by omega) _ _ _ _ rfl] at ho
        refine ⟨a - 1, r / 16, hx r :: l, by go_num, by go_num, by omega, by omega, by omega, ?_, ho, by have := Hl.out; simp; omega, hb.setCell (Nat.le_refl _) _⟩
        have := Hd.out
        rw [show a - 1 = a - 1 - 1 + 1 by omega] at this
        exact this.more
      case measure => have h2 := H2.out; simp [intOf]; omega

end Go.Proofs.YtkmndgjabkjafaaGreatDoor

namespace Go.Proofs.YtkmndgjabkjafaaGreatDoor
open Go.RowKit NumM FloM Mem

theorem ftake_next (s : ByteArray) (k : Nat) (h : k < s.size) : s.data.toList.take (k + 1) = s.data.toList.take k ++ [s[k]] := by
  rw [List.take_succ_eq_append_getElem (by simpa using h)]; rfl

theorem cut_two (s : ByteArray) (h : s.size = 18) : (s.extract 2 18).data.toList = s.data.toList.drop 2 := by
  rw [ByteArray.data_extract, Array.toList_extract]
  simp only [List.extract_eq_take_drop]
  rw [List.take_of_length_le]
  have : s.data.toList.length = 18 := by simpa using h
  simp [this]

set_option maxHeartbeats 400000 in
theorem digit_any (c : UInt8) (w : World) : Calls Tryz.prog 188 #[.int .u8 (c.toNat : Int)] w fun e w' => e = .returned (.int .i64 (dgV c)) ∧ w = w' := by
  have hc : (c.toNat : Int) < 256 := by have := c.toNat_lt; omega
  have h0 : 0 ≤ (c.toNat : Int) := by omega
  by_cases h : 97 ≤ (c.toNat : Int)
  · have hv : dgV c = (c.toNat : Int) - 97 + 10 := by unfold dgV; rw [if_pos h]; omega
    rw [hv]
    clear hv
    go_enter Tryz.func188, Tryz.ntmps188
    go_wp2
    go_ret
    exact ⟨rfl, rfl⟩
  · have hv : dgV c = ((c.toNat : Int) - 48) % 256 := by unfold dgV; rw [if_neg h]
    rw [hv]
    have hd : decide (97 ≤ (c.toNat : Int)) = false := by simpa using h
    clear hv h
    go_enter Tryz.func188, Tryz.ntmps188
    go_wp2
    go_ret
    exact ⟨ret_i (by omega), rfl⟩

set_option maxHeartbeats 400000 in
theorem fread_any (s : ByteArray) (w : World) (hs : s.size ≤ 20) :
    Calls Tryz.prog 187 #[.string s] w fun e w' => e = .returned (.int .i64 (frd s.data.toList)) ∧ w = w' := by
  go_enter Tryz.func187, Tryz.ntmps187
  go_wp2
  go_loop [3, 4] (fun n i => ∃ k : Nat, k ≤ s.size ∧ i = .int .i64 k ∧ n = .int .i64 (frd (s.data.toList.take k))) (fun _ i => s.size - (intOf i).toNat)
  case atStart => exact ⟨0, Nat.zero_le _, rfl, rfl⟩
  case round =>
    obtain ⟨k, hk, rfl, rfl⟩ := hrel
    by_cases hlt : k < s.size
    · go_wp2_with (go_at_call 188; refine (digit_any _ _).mono ?_; rintro e w' ⟨rfl, rfl⟩)
      go_round
      case rel => exact ⟨k + 1, by omega, by go_num, by rw [ftake_next s k hlt, frd_snoc]; rfl⟩
      case measure => simp [intOf]; omega
    · go_wp2_with (go_at_call 188; refine (digit_any _ _).mono ?_; rintro e w' ⟨rfl, rfl⟩)
      go_ret
      exact ⟨ret_i (by rw [List.take_of_length_le (by simp; omega)]), rfl⟩

theorem fread_at (s : ByteArray) (v : Int) (w : World) (hs : s.size ≤ 20) (hv : frd s.data.toList = v) :
    Calls Tryz.prog 187 #[.string s] w fun e w' => e = .returned (.int .i64 v) ∧ w = w' := by
  subst hv; exact fread_any s w hs

set_option maxHeartbeats 400000 in
theorem fget_any (s : ByteArray) (w : World) :
    Calls Tryz.prog 186 #[.string s] w fun e w' => e = .returned (.tuple #[.int .i64 (fgetV s.data.toList).1, .bool (fgetV s.data.toList).2]) ∧ Below w.heap.size w w' := by
  by_cases h18 : s.size = 18
  · have h1 : ((s.size : Int) != 18) = false := by simp; omega
    have hl : s.data.toList.length = 18 := by simpa using h18
    have hrd : ∃ v, frd (s.data.toList.drop 2) = v ∧ frd (s.extract 2 18).data.toList = v := ⟨_, rfl, by rw [cut_two s h18]⟩
    obtain ⟨v, hv0, hv1⟩ := hrd
    have Hv1 := Lib.hid hv1
    by_cases hd : putV v = s.data.toList
    · have hv : fgetV s.data.toList = (v, true) := by unfold fgetV; rw [if_pos hl, hv0, if_pos hd]
      rw [hv]
      have hb : (!putV v == s.toList) = false := by rw [ByteArray.toList_eq]; simpa using hd
      clear hv hd hl hv0 hv1
      go_enter Tryz.func186, Tryz.ntmps186
      go_wp2_with (first | (go_at_call 187; refine (fread_at _ v _ (by simp; omega) Hv1.out).mono ?_; rintro e w' ⟨rfl, rfl⟩) | (go_at_call 168; refine (fput_any _ _).mono ?_; rintro e w' ⟨rfl, hb1⟩))
      go_ret2
      exact ⟨rfl, hb1⟩
    · have hv : fgetV s.data.toList = (0, false) := by unfold fgetV; rw [if_pos hl, hv0, if_neg hd]
      rw [hv]
      have hb : (!putV v == s.toList) = true := by rw [ByteArray.toList_eq]; simpa using hd
      clear hv hd hl hv0 hv1
      go_enter Tryz.func186, Tryz.ntmps186
      go_wp2_with (first | (go_at_call 187; refine (fread_at _ v _ (by simp; omega) Hv1.out).mono ?_; rintro e w' ⟨rfl, rfl⟩) | (go_at_call 168; refine (fput_any _ _).mono ?_; rintro e w' ⟨rfl, hb1⟩))
      go_ret2
      exact ⟨rfl, hb1⟩
  · have hv : fgetV s.data.toList = (0, false) := by unfold fgetV; rw [if_neg (by simpa using h18)]
    have h1 : ((s.size : Int) != 18) = true := by simp; omega
    rw [hv]
    clear hv h18
    go_enter Tryz.func186, Tryz.ntmps186
    go_wp2
    go_ret2
    exact ⟨rfl, Below.refl _ _⟩

end Go.Proofs.YtkmndgjabkjafaaGreatDoor
