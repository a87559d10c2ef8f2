/-
  flo.Put: 0f, and a float's sixteen digits, laid from the last one on into an array.
-/
import Derived.Test.YtfihnnfjkhcgkaaFloWalks
import Derived.Test.YtfihnnfjkhcgkaaFloHex
import Derived.Test.YtfihnnfjkhcgkaaMem
import Derived.Laws.IdiomStrings
import Derived.Lib.LazyBuf
import Derived.Lib.SlBuf
namespace Go.Proofs.Ytfihnnfjkhcgkaa
open Go.RowKit NumM FloM Mem

theorem arr_whole (w : World) (g : Nat) :
    (Instr.sliceAt 44 (.pointer (some ⟨g, 0, none⟩)) none none none).run Try.prog w = .ok (.slice (some ⟨g, 0, none⟩) 18 18) w := by kernel_rfl

theorem whole_back (w : World) (g : Nat) (l : List UInt8) (t : TypeId) (ho : Own w g t (l.map fun b => .int .u8 (b.toNat : Int))) (hl : l.length = 18) :
    (convert 43 9 (.slice (some ⟨g, 0, none⟩) 18 18)).run Try.prog w = .ok (.string ⟨l.toArray⟩) w := by
  rw [← hl]
  refine run_convert_bytes_back (P := Try.prog) w 43 9 5 ⟨g, 0, none⟩ l.length l Try.underlying43 Try.underlying5 Try.underlying9 ?_
  intro j hj
  have e : (⟨g, 0, none⟩ : Addr).add j = ⟨g, j, none⟩ := by
    unfold Addr.add
    by_cases h0 : j = 0
    · subst h0; simp
    · simp [h0]
  rw [e, ho.cell]
  simp [List.getElem?_eq_getElem hj]

theorem low_four (r : Nat) : bits .and .u64 (r : Int) 15 = ((r % 16 : Nat) : Int) := by
  rw [bits_and_u64, wu64, BitVec.toNat_and, BitVec.toNat_ofInt, BitVec.toNat_ofInt]
  rw [show (15 % ((2 ^ 64 : Nat) : Int)).toNat = 2 ^ 4 - 1 from by decide, Nat.and_two_pow_sub_one_eq_mod]
  omega

theorem digit_of (k : Nat) (h : k < 16) (w : World) : (Instr.index 9 (.string ⟨#[48, 49, 50, 51, 52, 53, 54, 55, 56, 57, 97, 98, 99, 100, 101, 102]⟩) (.int .u64 (k : Int))).run Try.prog w = .ok (.int .u8 ((hx k).toNat : Int)) w := by
  match k, h with
  | 0, _ | 1, _ | 2, _ | 3, _ | 4, _ | 5, _ | 6, _ | 7, _ | 8, _ | 9, _ | 10, _ | 11, _ | 12, _ | 13, _ | 14, _ | 15, _ => rfl
  | k + 16, h => omega

theorem digit_at (r : Nat) (w : World) : (Instr.index 9 (.string ⟨#[48, 49, 50, 51, 52, 53, 54, 55, 56, 57, 97, 98, 99, 100, 101, 102]⟩) (.int .u64 (bits .and .u64 (r : Int) 15))).run Try.prog w = .ok (.int .u8 ((hx r).toNat : Int)) w := by
  have hh : hx r = hx (r % 16) := by unfold hx; rw [Nat.mod_mod]
  rw [low_four, hh]
  exact digit_of _ (Nat.mod_lt _ (by decide)) w

/-- 'copy(text[:], "0f")' into a new array. -/
theorem copy_head (w : World) (ty : TypeId) (T : TypeId) :
    ∃ w1, (Builtin.copy_ #[43, 9] ty #[.slice (some ⟨w.heap.size, 0, none⟩) 18 18, .string ⟨#[48, 102]⟩]).run Try.prog (w.alloc (.cells #[.int .u8 0, .int .u8 0, .int .u8 0, .int .u8 0, .int .u8 0, .int .u8 0, .int .u8 0, .int .u8 0, .int .u8 0, .int .u8 0, .int .u8 0, .int .u8 0, .int .u8 0, .int .u8 0, .int .u8 0, .int .u8 0, .int .u8 0, .int .u8 0] T)) = .ok (.int .i64 2) w1 ∧
      Own w1 w.heap.size T ([.int .u8 48, .int .u8 102] ++ List.replicate 16 (.int .u8 0)) ∧ Below w.heap.size w w1 := by
  have ho : Own (w.alloc (.cells #[.int .u8 0, .int .u8 0, .int .u8 0, .int .u8 0, .int .u8 0, .int .u8 0, .int .u8 0, .int .u8 0, .int .u8 0, .int .u8 0, .int .u8 0, .int .u8 0, .int .u8 0, .int .u8 0, .int .u8 0, .int .u8 0, .int .u8 0, .int .u8 0] T)) w.heap.size T (List.replicate 18 (Value.int .u8 0)) := Own.made w T _
  refine ⟨_, run_copy_string (P := Try.prog) _ 43 9 ty 5 w.heap.size 0 18 18 ⟨#[48, 102]⟩ Try.underlying43 (fun w => by kernel_rfl) (by decide) ?_ ?_, ?_, ?_⟩
  · intro j hj
    have hj : j < 2 := hj
    rw [ho.cell, List.getElem?_replicate, if_pos (by omega)]; rfl
  · intro j hj; exact ho.thaw _
  · exact (ho.store 0 (.int .u8 48)).store 1 (.int .u8 102)
  · exact (((Below.refl w.heap.size w).alloc (Nat.le_refl _) _).setCell (Nat.le_refl _) _).setCell (Nat.le_refl _) _

theorem set_mid (a : Nat) (ha : 2 ≤ a) (z x : Value) (f t : List Value) (hf : f.length = 2) : (f ++ (List.replicate (a - 1) z ++ t)).set a x = f ++ (List.replicate (a - 2) z ++ x :: t) := by
  obtain ⟨k, rfl⟩ : ∃ k, a = k + 2 := ⟨a - 2, by omega⟩
  have e : List.replicate (k + 2 - 1) z ++ t = List.replicate k z ++ z :: t := by
    rw [show k + 2 - 1 = k + 1 from rfl, List.replicate_succ']; simp
  rw [e, Nat.add_sub_cancel, List.set_append_right _ _ (by omega), hf, Nat.add_sub_cancel, List.set_append_right _ _ (by simp)]
  simp

set_option maxHeartbeats 800000 in
set_option maxRecDepth 20000 in
theorem fput_any (n : Int) (w : World) : Calls Try.prog 22 #[.int .i64 n] w fun e w' => e = .returned (.string ⟨(putV n).toArray⟩) ∧ Below w.heap.size w w' := by
  obtain ⟨w1, hcp, ho1, hb1⟩ := copy_head w 3 44
  have Ho := Lib.hid ho1
  have Hb := Lib.hid hb1
  have Hlt : Hid ((fl n : Int) < 18446744073709551616) := by have := fl_lt n; show _ < _; omega
  have Hfl : Hid (Value.int .u64 (IntKind.u64.wrap (plainV n)) = .int .u64 (fl n : Int)) := by
    show _ = _
    rw [wu64]; unfold fl ub; congr 1; omega
  clear ho1 hb1
  go_enter Try.func22, Try.ntmps22
  go_wp2_with (go_at_call 19; refine (plain_any _ _).mono ?_; rintro e w' ⟨rfl, rfl⟩)
  go_loopw [4, 5] (fun rest at_ wr => ∃ (a r : Nat) (l : List UInt8), at_ = .int .i64 (a : Int) ∧ rest = .int .u64 (r : Int) ∧ 1 ≤ a ∧ a ≤ 17 ∧ (r : Int) < 18446744073709551616 ∧ Hexs (fl n) (a - 1) r l ∧
      Own wr w.heap.size 44 ([.int .u8 48, .int .u8 102] ++ (List.replicate (a - 1) (.int .u8 0) ++ l.map fun b => .int .u8 (b.toNat : Int))) ∧ l.length + a = 17 ∧ Below w.heap.size w wr) (fun _ at_ _ => (intOf at_).toNat)
  case atStart =>
    exact ⟨17, fl n, [], rfl, Hfl.out, by omega, by omega, Hlt.out, Hexs.start _, Ho.out, rfl, Hb.out⟩
  case round =>
    obtain ⟨a, r, l, rfl, rfl, ha, ha', hr, hd, ho, hl, hb⟩ := hrel
    by_cases h1 : a = 1
    · subst h1
      have hcv := whole_back wr w.heap.size ([48, 102] ++ l) _ (by simpa using ho) (by simp; omega)
      have hfin : Ending.returned (.string ⟨([48, 102] ++ l).toArray⟩) = .returned (.string ⟨(putV n).toArray⟩) := by rw [putV, hd.last]
      have Hfin := Lib.hid hfin
      have hsl : ∀ wx, (Instr.sliceAt 44 (.pointer (some ⟨w.heap.size, 0, none⟩)) none none none).run Try.prog wx = .ok (.slice (some ⟨w.heap.size, 0, none⟩) 18 18) wx := fun wx => arr_whole wx _
      clear hfin hd ho hl hr
      go_wp2
      go_ret
      exact ⟨Hfin.out, hb⟩
    · have hc : wr.cell? ⟨w.heap.size, a, none⟩ = some (.int .u8 0) := by
        rw [ho.cell, List.getElem?_append_right (by simp; omega)]
        rw [List.getElem?_append_left (by simp; omega), List.getElem?_replicate, if_pos (by simp; omega)]
      have hf := ho.thaw a
      have hix := fun wx => digit_at r wx
      have Ho := Lib.hid ho
      have Hd := Lib.hid hd
      have Hl := Lib.hid hl
      have hd2 : decide (2 ≤ (a : Int)) = true := by simp; omega
      have H2 : Hid (2 ≤ a) := by show _ ≤ _; omega
      clear ho hd hl h1 ha
      go_wp2
      go_roundw
      case rel =>
        have h2 := H2.out
        have ho := Ho.out.store a (.int .u8 ((hx r).toNat : Int))
        rw [set_mid a (by omega) _ _ _ _ rfl] at ho
        refine ⟨a - 1, r / 16, hx r :: l, by go_num, by go_num, by omega, by omega, by omega, ?_, ho, by have := Hl.out; simp; omega, hb.setCell (Nat.le_refl _) _⟩
        have := Hd.out
        rw [show a - 1 = a - 1 - 1 + 1 by omega] at this
        exact this.more
      case measure => have h2 := H2.out; simp [intOf]; omega

end Go.Proofs.Ytfihnnfjkhcgkaa
