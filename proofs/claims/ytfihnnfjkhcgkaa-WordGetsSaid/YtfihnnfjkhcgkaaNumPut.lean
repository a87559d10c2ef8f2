/-
  num.Put: the decimal digits of a number, laid from the last one on into an array.
-/
import Derived.Test.YtfihnnfjkhcgkaaNumWalks
import Derived.Test.YtfihnnfjkhcgkaaMem
import Derived.Laws.IdiomStrings
import Derived.Lib.Hide
namespace Go.Proofs.Ytfihnnfjkhcgkaa
open Go.RowKit NumM Mem

set_option maxHeartbeats 400000 in
theorem size_any (n : Int) (w : World) (h : In n) : Calls Try.prog 30 #[.int .i64 n] w fun e w' => e = .returned (.int .u64 (n.natAbs : Int)) ∧ w = w' := by
  have h1 := h.1
  have h2 := h.2
  have hw : IntKind.u64.wrap (-IntKind.u64.wrap n) = -n ∨ 0 ≤ n := by rw [wu64, wu64]; omega
  have hw2 : IntKind.u64.wrap n = n ∨ n < 0 := by rw [wu64]; omega
  clear h
  by_cases hn : n < 0
  all_goals
    go_enter Try.func30, Try.ntmps30
    go_wp2
    go_ret
    exact ⟨congrArg (fun x => Ending.returned (Value.int IntKind.u64 x)) (by omega), rfl⟩

theorem arr_slice (w : World) (g k : Nat) (i : Int) (hi : i = (k : Int)) (hk : k < 20) :
    (Instr.sliceAt 40 (.pointer (some ⟨g, 0, none⟩)) (some (.int .i64 i)) none none).run Try.prog w = .ok (.slice (some ⟨g, k, none⟩) (20 - k) (20 - k)) w := by
  subst hi
  have hl : Try.prog.arrayLen 40 = 20 := by kernel_rfl
  have hs : (sizeOf (Try.prog.elem 40)).run Try.prog w = .ok 1 w := by kernel_rfl
  rw [run_sliceAt_array_l (P := Try.prog) w 40 ⟨g, 0, none⟩ (by kernel_rfl) .i64 k (by omega) (by rw [hl]; omega), hs, hl]
  simp only [Result.andThen, slicedAt, Int.toNat_natCast]
  rw [if_neg (by omega)]
  have e : (⟨g, 0, none⟩ : Addr).add (k * 1) = ⟨g, k, none⟩ := by
    unfold Addr.add
    by_cases h0 : k = 0
    · subst h0; simp
    · simp [h0]
  rw [e]

theorem bytes_back (w : World) (g k : Nat) (cs : List Value) (l : List UInt8) (t : TypeId) (ho : Own w g t cs) (hl : l.length = 20 - k) (hc : cs.drop k = l.map fun b => .int .u8 (b.toNat : Int)) :
    (convert 43 9 (.slice (some ⟨g, k, none⟩) (20 - k) (20 - k))).run Try.prog w = .ok (.string ⟨l.toArray⟩) w := by
  rw [← hl]
  refine run_convert_bytes_back (P := Try.prog) w 43 9 5 ⟨g, k, none⟩ l.length l Try.underlying43 Try.underlying5 Try.underlying9 ?_
  intro j hj
  have e : (⟨g, k, none⟩ : Addr).add j = ⟨g, k + j, none⟩ := by
    unfold Addr.add
    by_cases h0 : j = 0
    · subst h0; simp
    · simp [h0]
  rw [e, ho.cell, ← List.getElem?_drop, hc]
  simp [List.getElem?_eq_getElem hj]

theorem set_front (a : Nat) (ha : 1 ≤ a) (z x : Value) (t : List Value) : (List.replicate a z ++ t).set (a - 1) x = List.replicate (a - 1) z ++ x :: t := by
  obtain ⟨k, rfl⟩ : ∃ k, a = k + 1 := ⟨a - 1, by omega⟩
  have e : List.replicate (k + 1) z ++ t = List.replicate k z ++ z :: t := by rw [List.replicate_succ']; simp
  rw [e, Nat.add_sub_cancel, List.set_append_right _ _ (by simp)]
  simp

theorem ten_le {a : Nat} (h : a ≤ 20) : 10 ^ (a - 1) ≤ 10000000000000000000 := by
  have := Nat.pow_le_pow_right (n := 10) (by decide) (show a - 1 ≤ 19 by omega)
  omega

set_option maxHeartbeats 800000 in
theorem put_any (n : Int) (w : World) (h : In n) : Calls Try.prog 21 #[.int .i64 n] w fun e w' => e = .returned (.string ⟨(dec n).toArray⟩) ∧ Below w.heap.size w w' := by
  have hs : n.natAbs < 10 ^ (20 - 1) := by have h1 := h.1; have h2 := h.2; omega
  go_enter Try.func21, Try.ntmps21
  go_wp2_with (go_at_call 30; refine (size_any _ _ h).mono ?_; rintro e w' ⟨rfl, rfl⟩)
  go_loopw [4, 5] (fun at_ rest wr => ∃ (a r : Nat) (l : List UInt8), at_ = .int .i64 (a : Int) ∧ rest = .int .u64 (r : Int) ∧ 2 ≤ a ∧ a ≤ 20 ∧ r < 10 ^ (a - 1) ∧ Digs n.natAbs r l ∧
      Own wr w.heap.size 40 (List.replicate a (.int .u8 0) ++ l.map fun b => .int .u8 (b.toNat : Int)) ∧ l.length + a = 20 ∧ Below w.heap.size w wr) (fun at_ _ _ => (intOf at_).toNat)
  case atStart =>
    refine ⟨20, n.natAbs, [], rfl, rfl, by omega, by omega, hs, Digs.start _, ?_, rfl, (Below.refl _ _).alloc (Nat.le_refl _) _⟩
    exact Own.made w 40 _
  case round =>
    obtain ⟨a, r, l, rfl, rfl, ha, ha', hr, hd, ho, hl, hb⟩ := hrel
    have hc1 : wr.cell? ⟨w.heap.size, a - 1, none⟩ = some (.int .u8 0) := by rw [ho.cell, List.getElem?_append_left (by simp; omega), List.getElem?_replicate, if_pos (by omega)]
    have hc2 : wr.cell? ⟨w.heap.size, a - 1 - 1, none⟩ = some (.int .u8 0) := by rw [ho.cell, List.getElem?_append_left (by simp; omega), List.getElem?_replicate, if_pos (by omega)]
    have hf1 := ho.thaw (a - 1)
    have hf2 := ho.thaw (a - 1 - 1)
    have hr64 : (r : Int) < 18446744073709551616 := by have := ten_le ha'; omega
    have Ho := Lib.hid ho
    have Hd := Lib.hid hd
    have Hl := Lib.hid hl
    have Hr := Lib.hid hr
    clear ho hd hl hs hr
    by_cases hz : r / 10 = 0
    · have hz1 : ((r : Int) / 10 == 0) = true := by simp; omega
      by_cases hn : n < 0
      · have hsl : ∀ wx, (Instr.sliceAt 40 (.pointer (some ⟨w.heap.size, 0, none⟩)) (some (.int .i64 ((a : Int) - 1 - 1))) none none).run Try.prog wx = .ok (.slice (some ⟨w.heap.size, a - 1 - 1, none⟩) (20 - (a - 1 - 1)) (20 - (a - 1 - 1))) wx :=
          fun wx => arr_slice wx _ _ _ (by omega) (by omega)
        have hcv := bytes_back ((wr.setCell ⟨w.heap.size, a - 1, none⟩ (.int .u8 (48 + (r : Int) % 10))).setCell ⟨w.heap.size, a - 1 - 1, none⟩ (.int .u8 45)) w.heap.size (a - 1 - 1) _ (45 :: dig r :: l) _
          ((Ho.out.store _ _).store _ _) (by simp; have := Hl.out; omega) (by
            rw [set_front a (by omega), set_front (a - 1) (by omega), List.drop_left' (by simp)]; simp [dig_val])
        have hfin : Ending.returned (.string ⟨(45 :: dig r :: l).toArray⟩) = .returned (.string ⟨(dec n).toArray⟩) := by rw [dec, if_pos hn, Hd.out.last hz]
        have Hfin := Lib.hid hfin
        clear hfin
        go_wp2
        go_ret
        exact ⟨Hfin.out, (hb.setCell (Nat.le_refl _) _).setCell (Nat.le_refl _) _⟩
      · have hsl : ∀ wx, (Instr.sliceAt 40 (.pointer (some ⟨w.heap.size, 0, none⟩)) (some (.int .i64 ((a : Int) - 1))) none none).run Try.prog wx = .ok (.slice (some ⟨w.heap.size, a - 1, none⟩) (20 - (a - 1)) (20 - (a - 1))) wx :=
          fun wx => arr_slice wx _ _ _ (by omega) (by omega)
        have hcv := bytes_back (wr.setCell ⟨w.heap.size, a - 1, none⟩ (.int .u8 (48 + (r : Int) % 10))) w.heap.size (a - 1) _ (dig r :: l) _
          (Ho.out.store _ _) (by simp; have := Hl.out; omega) (by
            rw [set_front a (by omega), List.drop_left' (by simp)]; simp [dig_val])
        have hfin : Ending.returned (.string ⟨(dig r :: l).toArray⟩) = .returned (.string ⟨(dec n).toArray⟩) := by rw [dec, if_neg hn, Hd.out.last hz]
        have Hfin := Lib.hid hfin
        clear hfin
        go_wp2
        go_ret
        exact ⟨Hfin.out, hb.setCell (Nat.le_refl _) _⟩
    · have hz1 : ((r : Int) / 10 == 0) = false := by simp; omega
      have Hz := Lib.hid hz
      clear hz
      go_wp2
      go_roundw
      case rel =>
        have hp : 10 ^ (a - 1) = 10 ^ (a - 1 - 1) * 10 := by rw [← Nat.pow_succ]; congr 1; omega
        have hlt : r / 10 < 10 ^ (a - 1 - 1) := by have := Hr.out; omega
        have h3 : 2 ≤ a - 1 := by
          by_cases h4 : a - 1 = 1
          · have := Hr.out; rw [h4] at this; have := Hz.out; omega
          · omega
        have ho := Ho.out.store (a - 1) (.int .u8 (48 + (r : Int) % 10))
        rw [set_front a (by omega)] at ho
        exact ⟨a - 1, r / 10, dig r :: l, by go_num, by go_num, h3, by omega, hlt, Hd.out.more Hz.out, by simpa [dig_val] using ho, by have := Hl.out; simp; omega, hb.setCell (Nat.le_refl _) _⟩
      case measure => simp [intOf]; omega
end Go.Proofs.Ytfihnnfjkhcgkaa
