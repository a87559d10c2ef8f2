/-
  A strings.Builder that the call has made: a byte, or a string, written behind what it holds; and what it holds, told.
-/
import Derived.Test.YtdibmmiobmlcbaaProg
import Derived.Test.YtdibmmiobmlcbaaLinesMem
import Derived.Lib.Builder
import Derived.Lib.AppendStr
import Derived.Lib.UnsafeStr
import Derived.Lib.Hide
import Derived.Lib.Walk
import Derived.Laws.Externs
import Derived.Deep.QuietTactic
import Derived.BigQuiet
namespace Go.Proofs.Ytdibmmiobmlcbaa.Build
open Go.RowKit LinesM Mem

/-- The bytes l, held by the builder in block b. -/
abbrev Holds (B b : Nat) (l : List UInt8) (w : World) : Prop := Lib.IsBuilder 49 5 B b (Lib.byteCells l) w
abbrev HoldsAt (B b : Nat) (p : Value) (l : List UInt8) (w : World) : Prop := Lib.BuilderAt 49 5 B b p (Lib.byteCells l) w

theorem b_info : (Try.prog.info? 5).map (fun i => (i.zero, i.size, i.bytes)) = some (some (.int .u8 0), 1, 1) := by kernel_rfl
theorem t_info : (Try.prog.info? 49).map (fun i => i.size) = some 2 := by kernel_rfl

set_option maxHeartbeats 1000000 in
set_option maxRecDepth 100000 in
theorem check_any (B b : Nat) (l : List UInt8) (w : World) (h : Holds B b l w) :
    Calls Try.prog 27 #[.pointer (some ⟨b, 0, none⟩)] w fun e w' => e = .returned (.tuple #[]) ∧ HoldsAt B b (.pointer (some ⟨b, 0, none⟩)) l w' ∧ Below B w w' := by
  obtain ⟨j, hj, hjs⟩ := Option.map_eq_some_iff.1 t_info
  rcases h with h | h
  · have h0 := h.cell0
    have hf := h.frozen0
    have HS := Lib.hid h.shape
    have HW := Lib.hid h
    have HJ := Lib.hid hj
    have HJ2 := Lib.hid hjs
    clear h hj hjs
    go_enter Try.func27, Try.ntmps27
    go_wp2
    rw [Lib.run_to_unsafe w ⟨b, 0, none⟩ Try.underlying47 Try.underlying61 HJ.out (by rw [HJ2.out]; decide) HS.out (Nat.zero_lt_succ 1)]
    simp only [Result.andThen]
    rw [Oper.upon_value]
    go_wp2
    rw [run_callFunc_extern Try.func30 (by kernel_rfl) (by kernel_rfl) (by kernel_rfl) (e := Extern.AbiNoEscape.same) (by kernel_rfl)]
    rw [Lib.run_noEscape]
    simp only [Result.andThen]
    rw [Oper.upon_value]
    go_wp2
    rw [Lib.run_from_unsafe w ⟨b, 0, none⟩ Try.underlying61 Try.underlying47 HJ.out HS.out (by kernel_rfl)]
    simp only [Result.andThen]
    rw [Oper.upon_value]
    go_wp2
    go_end0
    exact ⟨rfl, HW.out.used _, (Below.refl B w).setCell (p := ⟨b, 0, none⟩) HW.out.1 _⟩
  · have h0 := h.cell0
    have HW := Lib.hid h
    have HJ := Lib.hid hj
    clear h hj hjs
    go_enter Try.func27, Try.ntmps27
    go_wp2
    rw [Lib.run_neq_ptr_same w _ Try.underlying47 HJ.out]
    go_wp2
    go_end0
    exact ⟨rfl, HW.out, Below.refl B _⟩

theorem Holds.below {B b : Nat} {l : List UInt8} {w w' : World} (h : Holds B b l w) (hb : Below w.heap.size w w') : Holds B b l w' := by
  rcases h with ⟨h1, v, h2, h3, h4⟩ | ⟨h1, v, h2, h3, h4⟩
  · exact .inl ⟨h1, v, (hb.block b (Array.getElem?_eq_some_iff.1 h2).1).trans h2, own_below h3 hb, h4⟩
  · exact .inr ⟨h1, v, (hb.block b (Array.getElem?_eq_some_iff.1 h2).1).trans h2, own_below h3 hb, h4⟩

theorem block_kept {w w' : World} {b : Nat} {p v : Value} (hbk : w.heap[b]? = some (.cells #[p, v] 49 (0, 0))) (hne : v.ownBlock ≠ some b) (hg : w.grownBy w' v.ownBlock) :
    w'.heap[b]? = some (.cells #[p, v] 49 (0, 0)) := by
  have hlt : b < w.heap.size := (Array.getElem?_eq_some_iff.1 hbk).1
  rw [hg.block b hlt (fun e => hne e.symm)]
  exact hbk

set_option maxHeartbeats 2000000 in
set_option maxRecDepth 100000 in
theorem byte_any (B b : Nat) (l : List UInt8) (c : UInt8) (w : World) (h : Holds B b l w) (hlen : l.length + 1 ≤ 140737488355328) (hB : B ≤ w.heap.size) :
    Calls Try.prog 20 #[.pointer (some ⟨b, 0, none⟩), .int .u8 (c.toNat : Int)] w fun e w' => e = .returned .nilIface ∧ Holds B b (l ++ [c]) w' ∧ Below B w w' := by
  obtain ⟨i0, hi, hz0, hz1, hz2⟩ := info_parts b_info
  have Hi := Lib.hid hi
  have Hz0 := Lib.hid hz0
  have Hz1 := Lib.hid hz1
  have Hz2 := Lib.hid hz2
  clear hi hz0 hz1 hz2
  have HH := Lib.hid h
  clear h
  go_enter Try.func20, Try.ntmps20
  go_wp2_with (go_at_call 27; refine (check_any B b l _ HH.out).mono ?_)
  rintro e w1 ⟨rfl, ⟨hBb, v, hbk, hown, hne⟩, hb1⟩
  rw [Lib.byteCells_length] at hown
  obtain ⟨A, cap, rfl⟩ := own_form hown
  have c1 : w1.cell? ⟨b, 1, none⟩ = some (.slice A l.length cap) := by rw [Lib.cell_of_heap hbk]; rfl
  have HO := Lib.hid hown
  have HK := Lib.hid hbk
  have HN := Lib.hid hne
  have HB := Lib.hid hb1
  clear hbk hown hne hb1
  go_wp2_with (at_builtin; refine wpList_push rfl _ _ 46 rfl B 5 i0 (.int .u8 0) 1 1 Try.underlying46 Hi.out Hz0.out Hz1.out Hz2.out rfl (by decide) _ l.length (Lib.byteCells l) rfl HO.out [.int .u8 (c.toNat : Int)] rfl rfl (by intro u hu; rw [List.mem_singleton] at hu; subst hu; rfl) (by unfold maxLen; omega) (by omega) (Nat.le_trans hB HB.out.size) ?_)
  intro v' w2 hown2 hg2
  have hk2 := block_kept HK.out HN.out hg2
  obtain ⟨A2, cap2, rfl⟩ := own_form hown2
  have d1 : w2.cell? ⟨b, 1, none⟩ = some (.slice A l.length cap) := by rw [Lib.cell_of_heap hk2]; rfl
  have f1 : w2.frozen? ⟨b, 1, none⟩ = false := Lib.frozen_of_heap hk2 1
  have HO2 := Lib.hid hown2
  have HK2 := Lib.hid hk2
  have HB2 := Lib.hid (below_grown HB.out HO.out hg2 (Nat.le_trans hB HB.out.size) (Nat.le_refl _))
  clear hown2 hg2 hk2
  go_wp2
  go_ret
  refine ⟨rfl, .inr ?_, HB2.out.setCell (p := ⟨b, 1, none⟩) hBb _⟩
  have e : Lib.byteCells (l ++ [c]) = Lib.byteCells l ++ [.int .u8 (c.toNat : Int)] := by simp [Lib.byteCells]
  refine Lib.BuilderAt.put hBb HK2.out ?_ (by decide)
  rw [Lib.byteCells_length, List.length_append, e]
  exact HO2.out

theorem strCells_eq (x : List UInt8) : Lib.strCells ⟨x.toArray⟩ = Lib.byteCells x := by simp [Lib.strCells, Lib.byteCells]

set_option maxHeartbeats 2000000 in
set_option maxRecDepth 100000 in
theorem text_any (B b : Nat) (l x : List UInt8) (w : World) (h : Holds B b l w) (hlen : l.length + x.length ≤ 140737488355328) (hB : B ≤ w.heap.size) :
    Calls Try.prog 21 #[.pointer (some ⟨b, 0, none⟩), .string ⟨x.toArray⟩] w fun e w' => e = .returned (.tuple #[.int .i64 (x.length : Int), .nilIface]) ∧ Holds B b (l ++ x) w' ∧ Below B w w' := by
  obtain ⟨i0, hi, hz0, hz1, hz2⟩ := info_parts b_info
  have Hi := Lib.hid hi
  have Hz0 := Lib.hid hz0
  have Hz1 := Lib.hid hz1
  have Hz2 := Lib.hid hz2
  clear hi hz0 hz1 hz2
  have HH := Lib.hid h
  clear h
  obtain ⟨s, hs⟩ : ∃ s : ByteArray, s = ⟨x.toArray⟩ := ⟨_, rfl⟩
  have hsz : s.size = x.length := by rw [hs]; show x.toArray.size = _; simp
  have hsc : Lib.strCells s = Lib.byteCells x := by rw [hs]; exact strCells_eq x
  rw [← hs, ← hsz]
  rw [← hsz] at hlen
  have HS := Lib.hid hsc
  have HZ := Lib.hid hsz
  clear hs hsc hsz
  go_enter Try.func21, Try.ntmps21
  go_wp2_with (go_at_call 27; refine (check_any B b l _ HH.out).mono ?_)
  rintro e w1 ⟨rfl, ⟨hBb, v, hbk, hown, hne⟩, hb1⟩
  rw [Lib.byteCells_length] at hown
  obtain ⟨A, cap, rfl⟩ := own_form hown
  have c1 : w1.cell? ⟨b, 1, none⟩ = some (.slice A l.length cap) := by rw [Lib.cell_of_heap hbk]; rfl
  have HO := Lib.hid hown
  have HK := Lib.hid hbk
  have HN := Lib.hid hne
  have HB := Lib.hid hb1
  clear hbk hown hne hb1
  go_wp2_with (at_builtin; refine Lib.wpList_append_own_string _ rfl _ _ 46 9 rfl B 5 i0 Try.underlying46 Try.underlying9 Hi.out Hz0.out Hz1.out Hz2.out _ l.length (Lib.byteCells l) rfl HO.out s rfl (by unfold maxLen; omega) (by omega) (Nat.le_trans hB HB.out.size) ?_)
  intro v' w2 hown2 hg2 _
  have hk2 := block_kept HK.out HN.out hg2
  obtain ⟨A2, cap2, rfl⟩ := own_form hown2
  have d1 : w2.cell? ⟨b, 1, none⟩ = some (.slice A l.length cap) := by rw [Lib.cell_of_heap hk2]; rfl
  have f1 : w2.frozen? ⟨b, 1, none⟩ = false := Lib.frozen_of_heap hk2 1
  have HO2 := Lib.hid hown2
  have HK2 := Lib.hid hk2
  have HB2 := Lib.hid (below_grown HB.out HO.out hg2 (Nat.le_trans hB HB.out.size) (Nat.le_refl _))
  clear hown2 hg2 hk2
  go_wp2
  go_ret2
  refine ⟨rfl, .inr ?_, HB2.out.setCell (p := ⟨b, 1, none⟩) hBb _⟩
  have e : Lib.byteCells (l ++ x) = Lib.byteCells l ++ Lib.strCells s := by rw [HS.out]; simp [Lib.byteCells]
  refine Lib.BuilderAt.put hBb HK2.out ?_ (by decide)
  rw [Lib.byteCells_length, List.length_append, e, ← HZ.out]
  exact HO2.out

set_option maxHeartbeats 2000000 in
set_option maxRecDepth 100000 in
theorem told_any (B b : Nat) (l : List UInt8) (w : World) (h : Holds B b l w) (h0 : l ≠ []) :
    Calls Try.prog 22 #[.pointer (some ⟨b, 0, none⟩)] w fun e w' => e = .returned (.string ⟨l.toArray⟩) ∧ Below B w w' := by
  obtain ⟨p, hB, v, hbk, hown, hne⟩ : ∃ p, HoldsAt B b p l w := by
    rcases h with h | h
    · exact ⟨_, h⟩
    · exact ⟨_, h⟩
  have hl0 : l.length ≠ 0 := by simpa using h0
  rw [Lib.byteCells_length] at hown
  obtain ⟨g, cap, cur, rfl, hbg, hg, hnc, hcm, hcs, _⟩ : ∃ g cap cur, v = .slice (some ⟨g, 0, none⟩) l.length cap ∧ B ≤ g ∧ w.heap[g]? = some (.cells cur 5 (0, 0)) ∧ l.length ≤ cap ∧ cap ≤ maxLen ∧ cur.size = cap * 1 ∧ cur.toList.take (l.length * 1) = Lib.byteCells l := by
    rcases hown.2 with ⟨_, hz⟩ | ⟨g, cap, cur, hv, r⟩
    · exact absurd hz hl0
    · exact ⟨g, cap, cur, hv, r⟩
  have c1 : w.drew.cell? ⟨b, 1, none⟩ = some (.slice (some ⟨g, 0, none⟩) l.length cap) := by
    have : w.drew.heap[b]? = some (.cells #[p, .slice (some ⟨g, 0, none⟩) l.length cap] 49 (0, 0)) := hbk
    rw [Lib.cell_of_heap this]; rfl
  have hSD : (Builtin.unsafeSliceData_ #[46] 60 #[.slice (some ⟨g, 0, none⟩) l.length cap]).run Try.prog w.drew = .ok (.pointer (some ⟨g, 0, none⟩)) w.drew :=
    Lib.run_unsafeSliceData_row _ _ _ _ _ _ (by omega)
  have hUS : (Builtin.unsafeString_ #[60, 3] 9 #[.pointer (some ⟨g, 0, none⟩), .int .i64 l.length]).run Try.prog w.drew = .ok (.string ⟨l.toArray⟩) (w.drew.freeze ⟨g, 0, none⟩ l.length) := by
    refine Lib.run_unsafeString_row w.drew 60 3 9 5 Try.underlying60 (by kernel_rfl) g cur.size (by have hg' : w.drew.heap[g]? = some (.cells cur 5 (0, 0)) := hg; simp [World.shape?, hg']) l h0 (by omega) (by unfold maxLen at hcm; omega) ?_
    intro j x hx
    exact hown.cells (g := g) rfl j (.int .u8 x.toNat) (by simp [Lib.byteCells, hx])
  clear hown hne hg hcs h h0 hl0 hbk
  go_enter Try.func22, Try.ntmps22
  go_wp2
  go_region
  all_goals (go_wp2; go_ret; exact ⟨rfl, Lib.below_freeze (Below.drew (Below.refl B w)) (p := ⟨g, 0, none⟩) hbg _⟩)

set_option maxHeartbeats 2000000 in
set_option maxRecDepth 100000 in
theorem none_any (B b : Nat) (p : Value) (w : World) (hbk : w.heap[b]? = some (.cells #[p, .slice none 0 0] 49 (0, 0))) :
    Calls Try.prog 22 #[.pointer (some ⟨b, 0, none⟩)] w fun e w' => e = .returned (.string ⟨#[]⟩) ∧ Below B w w' := by
  have hUS : ∀ (W : World) (q : Option Addr), (Builtin.unsafeString_ #[60, 3] 9 #[.pointer q, .int .i64 0]).run Try.prog W = .ok (.string .empty) W := fun W q => Lib.run_unsafeString_none W _ _ _ q
  have c1 : w.drew.cell? ⟨b, 1, none⟩ = some (.slice none 0 0) := by
    have : w.drew.heap[b]? = some (.cells #[p, .slice none 0 0] 49 (0, 0)) := hbk
    rw [Lib.cell_of_heap this]; rfl
  have hSD : (Builtin.unsafeSliceData_ #[46] 60 #[.slice none 0 0]).run Try.prog w.drew = .ok (.pointer none) w.drew := rfl
  clear hbk
  go_enter Try.func22, Try.ntmps22
  go_wp2
  go_region
  all_goals (go_wp2; go_ret; exact ⟨rfl, Below.drew (Below.refl B w)⟩)
end Go.Proofs.Ytdibmmiobmlcbaa.Build
