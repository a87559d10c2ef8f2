/-
  strings.Clone: the same bytes, as new memory.
  What num.lowSix, num.truth, num.size and num.Do do, on whatever they are given: they only compute.
  num.Put: the decimal digits of a number, laid from the last one on into an array.
  num.read, num.Get, num.Is: a text as a number.
-/
import Derived.Test.YtikfncgdjnljiaaDoorProg
import Derived.Lib.Strings
import Derived.Lib.Walk
import Derived.Lib.BufferWrite
import Derived.Lib.UnsafeStr
import Derived.Lib.Hide
import Derived.Laws.MakeOwn
import Derived.WalkKit
import Derived.WalkSpells
import Derived.Laws.IdiomStrings
import Derived.Test.YtikfncgdjnljiaaDoorRows
import Derived.Test.YtikfncgdjnljiaaDoorPlainN
import Derived.WalkLawsBesides
import Derived.Test.YtikfncgdjnljiaaDoorMem
namespace Go.Proofs.YtikfncgdjnljiaaDoor
open Go.RowKit

theorem clone_i5 : (Tryd.prog.info? 5).map (fun i => (i.zero, i.size, i.bytes)) = some (some (.int .u8 0), 1, 1) := by kernel_rfl

set_option maxHeartbeats 4000000 in
set_option maxRecDepth 100000 in
theorem lclone_any (s : ByteArray) (w : World) (hlim : s.size ≤ 281474976710656) :
    Calls Tryd.prog 75 #[.string s] w fun e w' => e = .returned (.string s) ∧ Below w.heap.size w w' := by
  by_cases h0 : s.size = 0
  · have hs : s = ⟨#[]⟩ := by
      apply ByteArray.ext
      exact Array.eq_empty_of_size_eq_zero h0
    subst hs
    go_enter Tryd.func75, Tryd.ntmps75
    go_wp2
    go_ret
    exact ⟨rfl, Below.refl _ _⟩
  · obtain ⟨i0, hi, hz0, hz1, hz2⟩ := info_parts clone_i5
    have hinfo : (Tryd.prog.info? 5).map (·.size) = some 1 := by rw [hi]; simp [hz1]
    have hco : Tryd.prog.cellsOf 5 = 1 := by simp [Program.cellsOf, hi, hz1]
    obtain ⟨M, hM⟩ : ∃ M, M = madeCells (Value.int .u8 0).cells (((s.size : Nat) : Int).toNat * i0.size) := ⟨_, rfl⟩
    have hMs : M.size = s.size := by rw [hM, size_madeCells, hz1]; simp
    have hmk : ∀ W : World, (Instr.makeSlice 148 (.int .i64 (s.size : Int)) (.int .i64 (s.size : Int))).run Tryd.prog W = .ok (.slice (some ⟨W.heap.size, 0, none⟩) s.size s.size) (W.alloc (.cells M 5)) := fun W => by
      have h := run_make (P := Tryd.prog) W 148 5 i0 (.int .u8 0) Tryd.underlying148 hi hz0 .i64 .i64 (s.size : Int) (s.size : Int) (by omega) (by omega) (by rw [hz2]; omega) (by omega)
      rw [← hM] at h
      simpa using h
    clear hM
    have hcp := Lib.run_copy_row_string (P := Tryd.prog) (w.alloc (.cells M 5)) 148 9 3 5 w.heap.size 0 s.size s.size s M 5 Tryd.underlying148 hinfo (heap_alloc_new w _) (Nat.le_refl _) (by omega)
    obtain ⟨Y, hY⟩ : ∃ Y, Y = (M.toList.take 0 ++ Lib.byteCells s.data.toList ++ M.toList.drop (0 + s.size)).toArray := ⟨_, rfl⟩
    rw [← hY] at hcp
    have hYl : Y.toList = Lib.byteCells s.data.toList := by
      rw [hY, List.toList_toArray, List.take_zero, List.nil_append, List.drop_of_length_le (by rw [Array.length_toList]; omega), List.append_nil]
    have hYs : Y.size = s.size := by rw [← Array.length_toList, hYl, Lib.byteCells_length, ← Lib.size_eq]
    have hgY : ((w.alloc (.cells M 5)).setRow w.heap.size Y).heap[w.heap.size]? = some (.cells Y 5 (0, 0)) := setRow_heap _ _ M _ 5 (0, 0) (heap_alloc_new w _)
    have hne : s.data.toList ≠ [] := fun e => h0 (by rw [Lib.size_eq, e]; rfl)
    have hUS := Lib.run_unsafeString_row (P := Tryd.prog) ((w.alloc (.cells M 5)).setRow w.heap.size Y) 149 3 9 5 Tryd.underlying149 hco w.heap.size Y.size (by unfold World.shape?; rw [hgY]) s.data.toList hne (by rw [← Lib.size_eq]; omega) (by rw [← Lib.size_eq]; omega)
      (fun j x hx => Lib.cells_of_row hgY Y.size j _ (by rw [List.take_of_length_le (by rw [Array.length_toList]; exact Nat.le_refl _), hYl]; simp [Lib.byteCells, hx]))
    rw [← Lib.size_eq] at hUS
    clear hY
    go_enter Tryd.func75, Tryd.ntmps75
    go_wp2
    go_ret
    have hb1 : Below w.heap.size w (w.alloc (.cells M 5)) := (Below.refl _ w).alloc (Nat.le_refl _) _
    have hb2 : Below w.heap.size (w.alloc (.cells M 5)) ((w.alloc (.cells M 5)).setRow w.heap.size Y) := ⟨rfl, rfl, rfl, by simp, fun k hk => setRow_other _ _ _ _ (by omega)⟩
    exact ⟨rfl, Lib.below_freeze (hb1.trans hb2) (p := ⟨w.heap.size, 0, none⟩) (Nat.le_refl _) _⟩

theorem clone_any (s : ByteArray) (w : World) (hlim : s.size ≤ 281474976710656) :
    Calls Tryd.prog 49 #[.string s] w fun e w' => e = .returned (.string s) ∧ Below w.heap.size w w' := by
  have Hl := Lib.hid hlim
  clear hlim
  go_enter Tryd.func49, Tryd.ntmps49
  go_wp2_with (go_at_call 75; refine (lclone_any _ _ Hl.out).mono ?_; rintro e w1 ⟨rfl, hb⟩)
  go_ret
  exact ⟨rfl, hb⟩
end Go.Proofs.YtikfncgdjnljiaaDoor

namespace Go.Proofs.YtikfncgdjnljiaaDoor
open Go.RowKit NumM

theorem ret_pair {a b : Int} {x y : Bool} (h : a = b) (h' : x = y) : Ending.returned (.tuple #[.int .i64 a, .bool x]) = .returned (.tuple #[.int .i64 b, .bool y]) := by rw [h, h']

end Go.Proofs.YtikfncgdjnljiaaDoor

namespace Go.Proofs.YtikfncgdjnljiaaDoor
open Go.RowKit NumM Mem

theorem bytes_back (w : World) (g k : Nat) (cs : List Value) (l : List UInt8) (t : TypeId) (ho : Own w g t cs) (hl : l.length = 20 - k) (hc : cs.drop k = l.map fun b => .int .u8 (b.toNat : Int)) :
    (convert 148 9 (.slice (some ⟨g, k, none⟩) (20 - k) (20 - k))).run Tryd.prog w = .ok (.string ⟨l.toArray⟩) w := by
  rw [← hl]
  refine run_convert_bytes_back (P := Tryd.prog) w 148 9 5 ⟨g, k, none⟩ l.length l Tryd.underlying148 Tryd.underlying5 Tryd.underlying9 ?_
  intro j hj
  have e : (⟨g, k, none⟩ : Addr).add j = ⟨g, k + j, none⟩ := by
    unfold Addr.add
    by_cases h0 : j = 0
    · subst h0; simp
    · simp [h0]
  rw [e, ho.cell, ← List.getElem?_drop, hc]
  simp [List.getElem?_eq_getElem hj]

theorem set_front (a : Nat) (ha : 1 ≤ a) (z x : Value) (t : List Value) : (List.replicate a z ++ t).set (a - 1) x = List.replicate (a - 1) z ++ x :: t := by
  obtain ⟨k, rfl⟩ : ∃ k, a = k + 1 := ⟨a - 1, by omega⟩
  have e : List.replicate (k + 1) z ++ t = List.replicate k z ++ z :: t := by rw [List.replicate_succ']; simp
  rw [e, Nat.add_sub_cancel, List.set_append_right _ _ (by simp)]
  simp

theorem ten_le {a : Nat} (h : a ≤ 20) : 10 ^ (a - 1) ≤ 10000000000000000000 := by
  have := Nat.pow_le_pow_right (n := 10) (by decide) (show a - 1 ≤ 19 by omega)
  omega

end Go.Proofs.YtikfncgdjnljiaaDoor

namespace Go.Proofs.YtikfncgdjnljiaaDoor
open Go.RowKit NumM Mem

theorem take_next (s : ByteArray) (k : Nat) (h : k < s.size) : s.data.toList.take (k + 1) = s.data.toList.take k ++ [s[k]] := by
  rw [List.take_succ_eq_append_getElem (by simpa using h)]; rfl

theorem ret_i64 {a b : Int} (h : a = b) : Ending.returned (Value.int IntKind.i64 a) = .returned (.int .i64 b) := by rw [h]

theorem head_of (s : ByteArray) (h0 : 0 < s.size) : s.data.toList.head? = some s[0] := by
  rw [List.head?_eq_getElem?, List.getElem?_eq_getElem (by simpa using h0)]
  rfl

theorem cut_one (s : ByteArray) : (s.extract 1 s.size).data.toList = s.data.toList.tail := by
  rw [ByteArray.data_extract, Array.toList_extract]
  simp [List.extract, List.drop_one]
  rw [List.take_of_length_le]
  simp

theorem u8_eq (c : UInt8) : ((c.toNat : Int) == 45) = decide (c = 45) := by
  rw [Bool.eq_iff_iff, beq_iff_eq, decide_eq_true_iff]
  constructor
  · intro h
    have h2 : c.toNat = (45 : UInt8).toNat := by
      have : (45 : UInt8).toNat = 45 := rfl
      omega
    exact UInt8.toNat_inj.1 h2
  · rintro rfl; rfl

end Go.Proofs.YtikfncgdjnljiaaDoor
