/-
  strings.Clone: the same bytes, as new memory.
  What num.lowSix, num.truth, num.size and num.Do do, on whatever they are given: they only compute.
  num.Put: the decimal digits of a number, laid from the last one on into an array.
  num.read, num.Get, num.Is: a text as a number.
-/
import Derived.Test.YtdgmdpphimenjaaDoorProg
import Derived.Lib.Strings
import Derived.Lib.Walk
import Derived.Lib.BufferWrite
import Derived.Lib.UnsafeStr
import Derived.Lib.Hide
import Derived.Laws.MakeOwn
import Derived.WalkKit
import Derived.WalkSpells
import Derived.Laws.IdiomStrings
import Derived.Test.YtdgmdpphimenjaaDoorRows
import Derived.Test.YtdgmdpphimenjaaDoorPlainN
import Derived.WalkLawsBesides
import Derived.Test.YtdgmdpphimenjaaDoorMem
namespace Go.Proofs.YtdgmdpphimenjaaDoor
open Go.RowKit

theorem clone_i5 : (Tryd.prog.info? 5).map (fun i => (i.zero, i.size, i.bytes)) = some (some (.int .u8 0), 1, 1) := by kernel_rfl

set_option maxHeartbeats 4000000 in
set_option maxRecDepth 100000 in
theorem lclone_any (s : ByteArray) (w : World) (hlim : s.size ≤ 281474976710656) :
    Calls Tryd.prog 100 #[.string s] w fun e w' => e = .returned (.string s) ∧ Below w.heap.size w w' := by
  by_cases h0 : s.size = 0
  · have hs : s = ⟨#[]⟩ := by
      apply ByteArray.ext
      exact Array.eq_empty_of_size_eq_zero h0
    subst hs
    go_enter Tryd.func100, Tryd.ntmps100
    go_wp2
    go_ret
    exact ⟨rfl, Below.refl _ _⟩
  · obtain ⟨i0, hi, hz0, hz1, hz2⟩ := info_parts clone_i5
    have hinfo : (Tryd.prog.info? 5).map (·.size) = some 1 := by rw [hi]; simp [hz1]
    have hco : Tryd.prog.cellsOf 5 = 1 := by simp [Program.cellsOf, hi, hz1]
    obtain ⟨M, hM⟩ : ∃ M, M = madeCells (Value.int .u8 0).cells (((s.size : Nat) : Int).toNat * i0.size) := ⟨_, rfl⟩
    have hMs : M.size = s.size := by rw [hM, size_madeCells, hz1]; simp
    have hmk : ∀ W : World, (Instr.makeSlice 53 (.int .i64 (s.size : Int)) (.int .i64 (s.size : Int))).run Tryd.prog W = .ok (.slice (some ⟨W.heap.size, 0, none⟩) s.size s.size) (W.alloc (.cells M 5)) := fun W => by
      have h := run_make (P := Tryd.prog) W 53 5 i0 (.int .u8 0) Tryd.underlying53 hi hz0 .i64 .i64 (s.size : Int) (s.size : Int) (by omega) (by omega) (by rw [hz2]; omega) (by omega)
      rw [← hM] at h
      simpa using h
    clear hM
    have hcp := Lib.run_copy_row_string (P := Tryd.prog) (w.alloc (.cells M 5)) 53 9 3 5 w.heap.size 0 s.size s.size s M 5 Tryd.underlying53 hinfo (heap_alloc_new w _) (Nat.le_refl _) (by omega)
    obtain ⟨Y, hY⟩ : ∃ Y, Y = (M.toList.take 0 ++ Lib.byteCells s.data.toList ++ M.toList.drop (0 + s.size)).toArray := ⟨_, rfl⟩
    rw [← hY] at hcp
    have hYl : Y.toList = Lib.byteCells s.data.toList := by
      rw [hY, List.toList_toArray, List.take_zero, List.nil_append, List.drop_of_length_le (by rw [Array.length_toList]; omega), List.append_nil]
    have hYs : Y.size = s.size := by rw [← Array.length_toList, hYl, Lib.byteCells_length, ← Lib.size_eq]
    have hgY : ((w.alloc (.cells M 5)).setRow w.heap.size Y).heap[w.heap.size]? = some (.cells Y 5 (0, 0)) := setRow_heap _ _ M _ 5 (0, 0) (heap_alloc_new w _)
    have hne : s.data.toList ≠ [] := fun e => h0 (by rw [Lib.size_eq, e]; rfl)
    have hUS := Lib.run_unsafeString_row (P := Tryd.prog) ((w.alloc (.cells M 5)).setRow w.heap.size Y) 160 3 9 5 Tryd.underlying160 hco w.heap.size Y.size (by unfold World.shape?; rw [hgY]) s.data.toList hne (by rw [← Lib.size_eq]; omega) (by rw [← Lib.size_eq]; omega)
      (fun j x hx => Lib.cells_of_row hgY Y.size j _ (by rw [List.take_of_length_le (by rw [Array.length_toList]; exact Nat.le_refl _), hYl]; simp [Lib.byteCells, hx]))
    rw [← Lib.size_eq] at hUS
    clear hY
    go_enter Tryd.func100, Tryd.ntmps100
    go_wp2
    go_ret
    have hb1 : Below w.heap.size w (w.alloc (.cells M 5)) := (Below.refl _ w).alloc (Nat.le_refl _) _
    have hb2 : Below w.heap.size (w.alloc (.cells M 5)) ((w.alloc (.cells M 5)).setRow w.heap.size Y) := ⟨rfl, rfl, rfl, by simp, fun k hk => setRow_other _ _ _ _ (by omega)⟩
    exact ⟨rfl, Lib.below_freeze (hb1.trans hb2) (p := ⟨w.heap.size, 0, none⟩) (Nat.le_refl _) _⟩

theorem clone_any (s : ByteArray) (w : World) (hlim : s.size ≤ 281474976710656) :
    Calls Tryd.prog 69 #[.string s] w fun e w' => e = .returned (.string s) ∧ Below w.heap.size w w' := by
  have Hl := Lib.hid hlim
  clear hlim
  go_enter Tryd.func69, Tryd.ntmps69
  go_wp2_with (go_at_call 100; refine (lclone_any _ _ Hl.out).mono ?_; rintro e w1 ⟨rfl, hb⟩)
  go_ret
  exact ⟨rfl, hb⟩
end Go.Proofs.YtdgmdpphimenjaaDoor

namespace Go.Proofs.YtdgmdpphimenjaaDoor
open Go.RowKit NumM

theorem ret_pair {a b : Int} {x y : Bool} (h : a = b) (h' : x = y) : Ending.returned (.tuple #[.int .i64 a, .bool x]) = .returned (.tuple #[.int .i64 b, .bool y]) := by rw [h, h']

end Go.Proofs.YtdgmdpphimenjaaDoor

namespace Go.Proofs.YtdgmdpphimenjaaDoor
open Go.RowKit NumM Mem

set_option maxHeartbeats 400000 in
theorem size_any (n : Int) (w : World) (h : In n) : Calls Tryd.prog 103 #[.int .i64 n] w fun e w' => e = .returned (.int .u64 (n.natAbs : Int)) ∧ w = w' := by
  have h1 := h.1
  have h2 := h.2
  have hw : IntKind.u64.wrap (-IntKind.u64.wrap n) = -n ∨ 0 ≤ n := by rw [wu64, wu64]; omega
  have hw2 : IntKind.u64.wrap n = n ∨ n < 0 := by rw [wu64]; omega
  clear h
  by_cases hn : n < 0
  all_goals
    go_enter Tryd.func103, Tryd.ntmps103
    go_wp2
    go_ret
    exact ⟨congrArg (fun x => Ending.returned (Value.int IntKind.u64 x)) (by omega), rfl⟩

theorem arr_slice (w : World) (g k : Nat) (i : Int) (hi : i = (k : Int)) (hk : k < 20) :
    (Instr.sliceAt 178 (.pointer (some ⟨g, 0, none⟩)) (some (.int .i64 i)) none none).run Tryd.prog w = .ok (.slice (some ⟨g, k, none⟩) (20 - k) (20 - k)) w := by
  subst hi
  have hl : Tryd.prog.arrayLen 178 = 20 := by kernel_rfl
  have hs : (sizeOf (Tryd.prog.elem 178)).run Tryd.prog w = .ok 1 w := by kernel_rfl
  rw [run_sliceAt_array_l (P := Tryd.prog) w 178 ⟨g, 0, none⟩ (by kernel_rfl) .i64 k (by omega) (by rw [hl]; omega), hs, hl]
  simp only [Result.andThen, slicedAt, Int.toNat_natCast]
  rw [if_neg (by omega)]
  have e : (⟨g, 0, none⟩ : Addr).add (k * 1) = ⟨g, k, none⟩ := by
    unfold Addr.add
    by_cases h0 : k = 0
    · subst h0; simp
    · simp [h0]
  rw [e]

theorem bytes_back (w : World) (g k : Nat) (cs : List Value) (l : List UInt8) (t : TypeId) (ho : Own w g t cs) (hl : l.length = 20 - k) (hc : cs.drop k = l.map fun b => .int .u8 (b.toNat : Int)) :
    (convert 53 9 (.slice (some ⟨g, k, none⟩) (20 - k) (20 - k))).run Tryd.prog w = .ok (.string ⟨l.toArray⟩) w := by
  rw [← hl]
  refine run_convert_bytes_back (P := Tryd.prog) w 53 9 5 ⟨g, k, none⟩ l.length l Tryd.underlying53 Tryd.underlying5 Tryd.underlying9 ?_
  intro j hj
  have e : (⟨g, k, none⟩ : Addr).add j = ⟨g, k + j, none⟩ := by
    unfold Addr.add
    by_cases h0 : j = 0
    · subst h0; simp
    · simp [h0]
  rw [e, ho.cell, ← List.getElem?_drop, hc]
  simp [List.getElem?_eq_getElem hj]

theorem set_front (a : Nat) (ha : 1 ≤ a) (z x : Value) (t : List Value) : (List.replicate a z ++ t).set (a - 1) x = List.replicate (a - 1) z ++ x :: t := by
  obtain ⟨k, rfl⟩ : ∃ k, a = k + 1 := ⟨a - 1, by omega⟩
  have e : List.replicate (k + 1) z ++ t = List.replicate k z ++ z :: t := by rw [List.replicate_succ']; simp
  rw [e, Nat.add_sub_cancel, List.set_append_right _ _ (by simp)]
  simp

theorem ten_le {a : Nat} (h : a ≤ 20) : 10 ^ (a - 1) ≤ 10000000000000000000 := by
  have := Nat.pow_le_pow_right (n := 10) (by decide) (show a - 1 ≤ 19 by omega)
  omega

set_option maxHeartbeats 800000 in
theorem put_any (n : Int) (w : World) (h : In n) : Calls Tryd.prog 74 #[.int .i64 n] w fun e w' => e = .returned (.string ⟨(dec n).toArray⟩) ∧ Below w.heap.size w w' := by
  have hs : n.natAbs < 10 ^ (20 - 1) := by have h1 := h.1; have h2 := h.2; omega
  go_enter Tryd.func74, Tryd.ntmps74
  go_wp2_with (go_at_call 103; refine (size_any _ _ h).mono ?_; rintro e w' ⟨rfl, rfl⟩)
  go_loopw [4, 5] (fun at_ rest wr => ∃ (a r : Nat) (l : List UInt8), at_ = .int .i64 (a : Int) ∧ rest = .int .u64 (r : Int) ∧ 2 ≤ a ∧ a ≤ 20 ∧ r < 10 ^ (a - 1) ∧ Digs n.natAbs r l ∧
      Own wr w.heap.size 178 (List.replicate a (.int .u8 0) ++ l.map fun b => .int .u8 (b.toNat : Int)) ∧ l.length + a = 20 ∧ Below w.heap.size w wr) (fun at_ _ _ => (intOf at_).toNat)
  case atStart =>
    refine ⟨20, n.natAbs, [], rfl, rfl, by omega, by omega, hs, Digs.start _, ?_, rfl, (Below.refl _ _).alloc (Nat.le_refl _) _⟩
    exact Own.made w 178 _
  case round =>
    obtain ⟨a, r, l, rfl, rfl, ha, ha', hr, hd, ho, hl, hb⟩ := hrel
    have hc1 : wr.cell? ⟨w.heap.size, a - 1, none⟩ = some (.int .u8 0) := by rw [ho.cell, List.getElem?_append_left (by simp; omega), List.getElem?_replicate, if_pos (by omega)]
    have hc2 : wr.cell? ⟨w.heap.size, a - 1 - 1, none⟩ = some (.int .u8 0) := by rw [ho.cell, List.getElem?_append_left (by simp; omega), List.getElem?_replicate, if_pos (by omega)]
    have hf1 := ho.thaw (a - 1)
    have hf2 := ho.thaw (a - 1 - 1)
    have hr64 : (r : Int) < 18446744073709551616 := by have := ten_le ha'; omega
    have Ho := Lib.hid ho
    have Hd := Lib.hid hd
    have Hl := Lib.hid hl
    have Hr := Lib.hid hr
    clear ho hd hl hs hr
    by_cases hz : r / 10 = 0
    · have hz1 : ((r : Int) / 10 == 0) = true := by simp; omega
      by_cases hn : n < 0
      · have hsl : ∀ wx, (Instr.sliceAt 178 (.pointer (some ⟨w.heap.size, 0, none⟩)) (some (.int .i64 ((a : Int) - 1 - 1))) none none).run Tryd.prog wx = .ok (.slice (some ⟨w.heap.size, a - 1 - 1, none⟩) (20 - (a - 1 - 1)) (20 - (a - 1 - 1))) wx :=
          fun wx => arr_slice wx _ _ _ (by omega) (by omega)
        have hcv := bytes_back ((wr.setCell ⟨w.heap.size, a - 1, none⟩ (.int .u8 (48 + (r : Int) % 10))).setCell ⟨w.heap.size, a - 1 - 1, none⟩ (.int .u8 45)) w.heap.size (a - 1 - 1) _ (45 :: dig r :: l) _
          ((Ho.out.store _ _).store _ _) (by simp; have := Hl.out; omega) (by
            rw [set_front a (by omega), set_front (a - 1) (by omega), List.drop_left' (by simp)]; simp [dig_val])
        have hfin : Ending.returned (.string ⟨(45 :: dig r :: l).toArray⟩) = .returned (.string ⟨(dec n).toArray⟩) := by rw [dec, if_pos hn, Hd.out.last hz]
        have Hfin := Lib.hid hfin
        clear hfin
        go_wp2
        go_ret
        exact ⟨Hfin.out, (hb.setCell (Nat.le_refl _) _).setCell (Nat.le_refl _) _⟩
      · have hsl : ∀ wx, (Instr.sliceAt 178 (.pointer (some ⟨w.heap.size, 0, none⟩)) (some (.int .i64 ((a : Int) - 1))) none none).run Tryd.prog wx = .ok (.slice (some ⟨w.heap.size, a - 1, none⟩) (20 - (a - 1)) (20 - (a - 1))) wx :=
          fun wx => arr_slice wx _ _ _ (by omega) (by omega)
        have hcv := bytes_back (wr.setCell ⟨w.heap.size, a - 1, none⟩ (.int .u8 (48 + (r : Int) % 10))) w.heap.size (a - 1) _ (dig r :: l) _
          (Ho.out.store _ _) (by simp; have := Hl.out; omega) (by
            rw [set_front a (by omega), List.drop_left' (by simp)]; simp [dig_val])
        have hfin : Ending.returned (.string ⟨(dig r :: l).toArray⟩) = .returned (.string ⟨(dec n).toArray⟩) := by rw [dec, if_neg hn, Hd.out.last hz]
        have Hfin := Lib.hid hfin
        clear hfin
        go_wp2
        go_ret
        exact ⟨Hfin.out, hb.setCell (Nat.le_refl _) _⟩
    · have hz1 : ((r : Int) / 10 == 0) = false := by simp; omega
      have Hz := Lib.hid hz
      clear hz
      go_wp2
      go_roundw
      case rel =>
        have hp : 10 ^ (a - 1) = 10 ^ (a - 1 - 1) * 10 := by rw [← Nat.pow_succ]; congr 1; omega
        have hlt : r / 10 < 10 ^ (a - 1 - 1) := by have := Hr.out; omega
        have h3 : 2 ≤ a - 1 := by
          by_cases h4 : a - 1 = 1
          · have := Hr.out; rw [h4] at this; have := Hz.out; omega
          · omega
        have ho := Ho.out.store (a - 1) (.int .u8 (48 + (r : Int) % 10))
        rw [set_front a (by omega)] at ho
        exact ⟨a - 1, r / 10, dig r :: l, by go_num, by go_num, h3, by omega, hlt, Hd.out.more Hz.out, by simpa [dig_val] using ho, by have := Hl.out; simp; omega, hb.setCell (Nat.le_refl _) _⟩
      case measure => simp [intOf]; omega
end Go.Proofs.YtdgmdpphimenjaaDoor

namespace Go.Proofs.YtdgmdpphimenjaaDoor
open Go.RowKit NumM Mem

theorem take_next (s : ByteArray) (k : Nat) (h : k < s.size) : s.data.toList.take (k + 1) = s.data.toList.take k ++ [s[k]] := by
  rw [List.take_succ_eq_append_getElem (by simpa using h)]; rfl

theorem ret_i64 {a b : Int} (h : a = b) : Ending.returned (Value.int IntKind.i64 a) = .returned (.int .i64 b) := by rw [h]

theorem head_of (s : ByteArray) (h0 : 0 < s.size) : s.data.toList.head? = some s[0] := by
  rw [List.head?_eq_getElem?, List.getElem?_eq_getElem (by simpa using h0)]
  rfl

theorem cut_one (s : ByteArray) : (s.extract 1 s.size).data.toList = s.data.toList.tail := by
  rw [ByteArray.data_extract, Array.toList_extract]
  simp [List.extract, List.drop_one]
  rw [List.take_of_length_le]
  simp

theorem u8_eq (c : UInt8) : ((c.toNat : Int) == 45) = decide (c = 45) := by
  rw [Bool.eq_iff_iff, beq_iff_eq, decide_eq_true_iff]
  constructor
  · intro h
    have h2 : c.toNat = (45 : UInt8).toNat := by
      have : (45 : UInt8).toNat = 45 := rfl
      omega
    exact UInt8.toNat_inj.1 h2
  · rintro rfl; rfl

end Go.Proofs.YtdgmdpphimenjaaDoor
