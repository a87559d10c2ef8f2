/-
  A strings.Builder that the call has made: a byte, or a string, written behind what it holds; and what it holds, told.
  lines.Join, walked.
-/
import Derived.Test.YtkmndgjabkjafaaGreatDoorProg
import Derived.Test.YtkmndgjabkjafaaGreatDoorCallsL
import Derived.Lib.Builder
import Derived.Lib.AppendStr
import Derived.Lib.UnsafeStr
import Derived.Lib.Hide
import Derived.Lib.Walk
import Derived.Laws.Externs
import Derived.Deep.QuietTactic
import Derived.BigQuiet
import Derived.Test.YtkmndgjabkjafaaGreatDoorPlainN
namespace Go.Proofs.YtkmndgjabkjafaaGreatDoor.Build
open Go.RowKit LinesM Mem

/-- The bytes l, held by the builder in block b. -/
abbrev Holds (B b : Nat) (l : List UInt8) (w : World) : Prop := Lib.IsBuilder 119 5 B b (Lib.byteCells l) w
abbrev HoldsAt (B b : Nat) (p : Value) (l : List UInt8) (w : World) : Prop := Lib.BuilderAt 119 5 B b p (Lib.byteCells l) w

theorem b_info : (Tryz.prog.info? 5).map (fun i => (i.zero, i.size, i.bytes)) = some (some (.int .u8 0), 1, 1) := by kernel_rfl
theorem t_info : (Tryz.prog.info? 119).map (fun i => i.size) = some 2 := by kernel_rfl

set_option maxHeartbeats 1000000 in
set_option maxRecDepth 100000 in
theorem check_any (B b : Nat) (l : List UInt8) (w : World) (h : Holds B b l w) :
    Calls Tryz.prog 108 #[.pointer (some ⟨b, 0, none⟩)] w fun e w' => e = .returned (.tuple #[]) ∧ HoldsAt B b (.pointer (some ⟨b, 0, none⟩)) l w' ∧ Below B w w' := by
  obtain ⟨j, hj, hjs⟩ := Option.map_eq_some_iff.1 t_info
  rcases h with h | h
  · have h0 := h.cell0
    have hf := h.frozen0
    have HS := Lib.hid h.shape
    have HW := Lib.hid h
    have HJ := Lib.hid hj
    have HJ2 := Lib.hid hjs
    clear h hj hjs
    go_enter Tryz.func108, Tryz.ntmps108
    go_wp2
    rw [Lib.run_to_unsafe w ⟨b, 0, none⟩ Tryz.underlying117 Tryz.underlying211 HJ.out (by rw [HJ2.out]; decide) HS.out (Nat.zero_lt_succ 1)]
    simp only [Result.andThen]
    rw [Oper.upon_value]
    go_wp2
    rw [run_callFunc_extern Tryz.func149 (by kernel_rfl) (by kernel_rfl) (by kernel_rfl) (e := Extern.AbiNoEscape.same) (by kernel_rfl)]
    rw [Lib.run_noEscape]
    simp only [Result.andThen]
    rw [Oper.upon_value]
    go_wp2
    rw [Lib.run_from_unsafe w ⟨b, 0, none⟩ Tryz.underlying211 Tryz.underlying117 HJ.out HS.out (by kernel_rfl)]
    simp only [Result.andThen]
    rw [Oper.upon_value]
    go_wp2
    go_end0
    exact ⟨rfl, HW.out.used _, (Below.refl B w).setCell (p := ⟨b, 0, none⟩) HW.out.1 _⟩
  · have h0 := h.cell0
    have HW := Lib.hid h
    have HJ := Lib.hid hj
    clear h hj hjs
    go_enter Tryz.func108, Tryz.ntmps108
    go_wp2
    rw [Lib.run_neq_ptr_same w _ Tryz.underlying117 HJ.out]
    go_wp2
    go_end0
    exact ⟨rfl, HW.out, Below.refl B _⟩

theorem Holds.below {B b : Nat} {l : List UInt8} {w w' : World} (h : Holds B b l w) (hb : Below w.heap.size w w') : Holds B b l w' := by
  rcases h with ⟨h1, v, h2, h3, h4⟩ | ⟨h1, v, h2, h3, h4⟩
  · exact .inl ⟨h1, v, (hb.block b (Array.getElem?_eq_some_iff.1 h2).1).trans h2, own_below h3 hb, h4⟩
  · exact .inr ⟨h1, v, (hb.block b (Array.getElem?_eq_some_iff.1 h2).1).trans h2, own_below h3 hb, h4⟩

theorem block_kept {w w' : World} {b : Nat} {p v : Value} (hbk : w.heap[b]? = some (.cells #[p, v] 119 (0, 0))) (hne : v.ownBlock ≠ some b) (hg : w.grownBy w' v.ownBlock) :
    w'.heap[b]? = some (.cells #[p, v] 119 (0, 0)) := by
  have hlt : b < w.heap.size := (Array.getElem?_eq_some_iff.1 hbk).1
  rw [hg.block b hlt (fun e => hne e.symm)]
  exact hbk

set_option maxHeartbeats 2000000 in
set_option maxRecDepth 100000 in
theorem byte_any (B b : Nat) (l : List UInt8) (c : UInt8) (w : World) (h : Holds B b l w) (hlen : l.length + 1 ≤ 140737488355328) (hB : B ≤ w.heap.size) :
    Calls Tryz.prog 54 #[.pointer (some ⟨b, 0, none⟩), .int .u8 (c.toNat : Int)] w fun e w' => e = .returned .nilIface ∧ Holds B b (l ++ [c]) w' ∧ Below B w w' := by
  obtain ⟨i0, hi, hz0, hz1, hz2⟩ := info_parts b_info
  have Hi := Lib.hid hi
  have Hz0 := Lib.hid hz0
  have Hz1 := Lib.hid hz1
  have Hz2 := Lib.hid hz2
  clear hi hz0 hz1 hz2
  have HH := Lib.hid h
  clear h
  go_enter Tryz.func54, Tryz.ntmps54
  go_wp2_with (go_at_call 108; refine (check_any B b l _ HH.out).mono ?_)
  rintro e w1 ⟨rfl, ⟨hBb, v, hbk, hown, hne⟩, hb1⟩
  rw [Lib.byteCells_length] at hown
  obtain ⟨A, cap, rfl⟩ := own_form hown
  have c1 : w1.cell? ⟨b, 1, none⟩ = some (.slice A l.length cap) := by rw [Lib.cell_of_heap hbk]; rfl
  have HO := Lib.hid hown
  have HK := Lib.hid hbk
  have HN := Lib.hid hne
  have HB := Lib.hid hb1
  clear hbk hown hne hb1
  go_wp2_with (at_builtin; refine wpList_push rfl _ _ 108 rfl B 5 i0 (.int .u8 0) 1 1 Tryz.underlying108 Hi.out Hz0.out Hz1.out Hz2.out rfl (by decide) _ l.length (Lib.byteCells l) rfl HO.out [.int .u8 (c.toNat : Int)] rfl rfl (by intro u hu; rw [List.mem_singleton] at hu; subst hu; rfl) (by unfold maxLen; omega) (by omega) (Nat.le_trans hB HB.out.size) ?_)
  intro v' w2 hown2 hg2
  have hk2 := block_kept HK.out HN.out hg2
  obtain ⟨A2, cap2, rfl⟩ := own_form hown2
  have d1 : w2.cell? ⟨b, 1, none⟩ = some (.slice A l.length cap) := by rw [Lib.cell_of_heap hk2]; rfl
  have f1 : w2.frozen? ⟨b, 1, none⟩ = false := Lib.frozen_of_heap hk2 1
  have HO2 := Lib.hid hown2
  have HK2 := Lib.hid hk2
  have HB2 := Lib.hid (below_grown HB.out HO.out hg2 (Nat.le_trans hB HB.out.size) (Nat.le_refl _))
  clear hown2 hg2 hk2
  go_wp2
  go_ret
  refine ⟨rfl, .inr ?_, HB2.out.setCell (p := ⟨b, 1, none⟩) hBb _⟩
  have e : Lib.byteCells (l ++ [c]) = Lib.byteCells l ++ [.int .u8 (c.toNat : Int)] := by simp [Lib.byteCells]
  refine Lib.BuilderAt.put hBb HK2.out ?_ (by decide)
  rw [Lib.byteCells_length, List.length_append, e]
  exact HO2.out

theorem strCells_eq (x : List UInt8) : Lib.strCells ⟨x.toArray⟩ = Lib.byteCells x := by simp [Lib.strCells, Lib.byteCells]

set_option maxHeartbeats 2000000 in
set_option maxRecDepth 100000 in
theorem text_any (B b : Nat) (l x : List UInt8) (w : World) (h : Holds B b l w) (hlen : l.length + x.length ≤ 140737488355328) (hB : B ≤ w.heap.size) :
    Calls Tryz.prog 55 #[.pointer (some ⟨b, 0, none⟩), .string ⟨x.toArray⟩] w fun e w' => e = .returned (.tuple #[.int .i64 (x.length : Int), .nilIface]) ∧ Holds B b (l ++ x) w' ∧ Below B w w' := by
  obtain ⟨i0, hi, hz0, hz1, hz2⟩ := info_parts b_info
  have Hi := Lib.hid hi
  have Hz0 := Lib.hid hz0
  have Hz1 := Lib.hid hz1
  have Hz2 := Lib.hid hz2
  clear hi hz0 hz1 hz2
  have HH := Lib.hid h
  clear h
  obtain ⟨s, hs⟩ : ∃ s : ByteArray, s = ⟨x.toArray⟩ := ⟨_, rfl⟩
  have hsz : s.size = x.length := by rw [hs]; show x.toArray.size = _; simp
  have hsc : Lib.strCells s = Lib.byteCells x := by rw [hs]; exact strCells_eq x
  rw [← hs, ← hsz]
  rw [← hsz] at hlen
  have HS := Lib.hid hsc
  have HZ := Lib.hid hsz
  clear hs hsc hsz
  go_enter Tryz.func55, Tryz.ntmps55
  go_wp2_with (go_at_call 108; refine (check_any B b l _ HH.out).mono ?_)
  rintro e w1 ⟨rfl, ⟨hBb, v, hbk, hown, hne⟩, hb1⟩
  rw [Lib.byteCells_length] at hown
  obtain ⟨A, cap, rfl⟩ := own_form hown
  have c1 : w1.cell? ⟨b, 1, none⟩ = some (.slice A l.length cap) := by rw [Lib.cell_of_heap hbk]; rfl
  have HO := Lib.hid hown
  have HK := Lib.hid hbk
  have HN := Lib.hid hne
  have HB := Lib.hid hb1
  clear hbk hown hne hb1
  go_wp2_with (at_builtin; refine Lib.wpList_append_own_string _ rfl _ _ 108 9 rfl B 5 i0 Tryz.underlying108 Tryz.underlying9 Hi.out Hz0.out Hz1.out Hz2.out _ l.length (Lib.byteCells l) rfl HO.out s rfl (by unfold maxLen; omega) (by omega) (Nat.le_trans hB HB.out.size) ?_)
  intro v' w2 hown2 hg2 _
  have hk2 := block_kept HK.out HN.out hg2
  obtain ⟨A2, cap2, rfl⟩ := own_form hown2
  have d1 : w2.cell? ⟨b, 1, none⟩ = some (.slice A l.length cap) := by rw [Lib.cell_of_heap hk2]; rfl
  have f1 : w2.frozen? ⟨b, 1, none⟩ = false := Lib.frozen_of_heap hk2 1
  have HO2 := Lib.hid hown2
  have HK2 := Lib.hid hk2
  have HB2 := Lib.hid (below_grown HB.out HO.out hg2 (Nat.le_trans hB HB.out.size) (Nat.le_refl _))
  clear hown2 hg2 hk2
  go_wp2
  go_ret2
  refine ⟨rfl, .inr ?_, HB2.out.setCell (p := ⟨b, 1, none⟩) hBb _⟩
  have e : Lib.byteCells (l ++ x) = Lib.byteCells l ++ Lib.strCells s := by rw [HS.out]; simp [Lib.byteCells]
  refine Lib.BuilderAt.put hBb HK2.out ?_ (by decide)
  rw [Lib.byteCells_length, List.length_append, e, ← HZ.out]
  exact HO2.out

set_option maxHeartbeats 2000000 in
set_option maxRecDepth 100000 in
theorem told_any (B b : Nat) (l : List UInt8) (w : World) (h : Holds B b l w) (h0 : l ≠ []) :
    Calls Tryz.prog 56 #[.pointer (some ⟨b, 0, none⟩)] w fun e w' => e = .returned (.string ⟨l.toArray⟩) ∧ Below B w w' := by
  obtain ⟨p, hB, v, hbk, hown, hne⟩ : ∃ p, HoldsAt B b p l w := by
    rcases h with h | h
    · exact ⟨_, h⟩
    · exact ⟨_, h⟩
  have hl0 : l.length ≠ 0 := by simpa using h0
  rw [Lib.byteCells_length] at hown
  obtain ⟨g, cap, cur, rfl, hbg, hg, hnc, hcm, hcs, _⟩ : ∃ g cap cur, v = .slice (some ⟨g, 0, none⟩) l.length cap ∧ B ≤ g ∧ w.heap[g]? = some (.cells cur 5 (0, 0)) ∧ l.length ≤ cap ∧ cap ≤ maxLen ∧ cur.size = cap * 1 ∧ cur.toList.take (l.length * 1) = Lib.byteCells l := by
    rcases hown.2 with ⟨_, hz⟩ | ⟨g, cap, cur, hv, r⟩
    · exact absurd hz hl0
    · exact ⟨g, cap, cur, hv, r⟩
  have c1 : w.drew.cell? ⟨b, 1, none⟩ = some (.slice (some ⟨g, 0, none⟩) l.length cap) := by
    have : w.drew.heap[b]? = some (.cells #[p, .slice (some ⟨g, 0, none⟩) l.length cap] 119 (0, 0)) := hbk
    rw [Lib.cell_of_heap this]; rfl
  have hSD : (Builtin.unsafeSliceData_ #[108] 178 #[.slice (some ⟨g, 0, none⟩) l.length cap]).run Tryz.prog w.drew = .ok (.pointer (some ⟨g, 0, none⟩)) w.drew :=
    Lib.run_unsafeSliceData_row _ _ _ _ _ _ (by omega)
  have hUS : (Builtin.unsafeString_ #[178, 3] 9 #[.pointer (some ⟨g, 0, none⟩), .int .i64 l.length]).run Tryz.prog w.drew = .ok (.string ⟨l.toArray⟩) (w.drew.freeze ⟨g, 0, none⟩ l.length) := by
    refine Lib.run_unsafeString_row w.drew 178 3 9 5 Tryz.underlying178 (by kernel_rfl) g cur.size (by have hg' : w.drew.heap[g]? = some (.cells cur 5 (0, 0)) := hg; simp [World.shape?, hg']) l h0 (by omega) (by unfold maxLen at hcm; omega) ?_
    intro j x hx
    exact hown.cells (g := g) rfl j (.int .u8 x.toNat) (by simp [Lib.byteCells, hx])
  clear hown hne hg hcs h h0 hl0 hbk
  go_enter Tryz.func56, Tryz.ntmps56
  go_wp2
  go_region
  all_goals (go_wp2; go_ret; exact ⟨rfl, Lib.below_freeze (Below.drew (Below.refl B w)) (p := ⟨g, 0, none⟩) hbg _⟩)

set_option maxHeartbeats 2000000 in
set_option maxRecDepth 100000 in
theorem none_any (B b : Nat) (p : Value) (w : World) (hbk : w.heap[b]? = some (.cells #[p, .slice none 0 0] 119 (0, 0))) :
    Calls Tryz.prog 56 #[.pointer (some ⟨b, 0, none⟩)] w fun e w' => e = .returned (.string ⟨#[]⟩) ∧ Below B w w' := by
  have hUS : ∀ (W : World) (q : Option Addr), (Builtin.unsafeString_ #[178, 3] 9 #[.pointer q, .int .i64 0]).run Tryz.prog W = .ok (.string .empty) W := fun W q => Lib.run_unsafeString_none W _ _ _ q
  have c1 : w.drew.cell? ⟨b, 1, none⟩ = some (.slice none 0 0) := by
    have : w.drew.heap[b]? = some (.cells #[p, .slice none 0 0] 119 (0, 0)) := hbk
    rw [Lib.cell_of_heap this]; rfl
  have hSD : (Builtin.unsafeSliceData_ #[108] 178 #[.slice none 0 0]).run Tryz.prog w.drew = .ok (.pointer none) w.drew := rfl
  clear hbk
  go_enter Tryz.func56, Tryz.ntmps56
  go_wp2
  go_region
  all_goals (go_wp2; go_ret; exact ⟨rfl, Below.drew (Below.refl B w)⟩)
end Go.Proofs.YtkmndgjabkjafaaGreatDoor.Build

namespace Go.Proofs.YtkmndgjabkjafaaGreatDoor
open Go.RowKit LinesM Mem Build

def wordsOf (xs : List ML) : List (List Wd) := xs.map fun x => x.2.2
theorem wordsOf_at {xs : List ML} {k : Nat} {x : ML} (h : xs[k]? = some x) : (wordsOf xs)[k]? = some x.2.2 := by unfold wordsOf; rw [List.getElem?_map, h]; rfl

theorem blank_any (B b : Nat) (l : List UInt8) (w : World) (h : Holds B b l w) (hlen : l.length + 1 ≤ 140737488355328) (hB : B ≤ w.heap.size) :
    Calls Tryz.prog 54 #[.pointer (some ⟨b, 0, none⟩), .int .u8 32] w fun e w' => e = .returned .nilIface ∧ Holds B b (l ++ [32]) w' ∧ Below B w w' := Build.byte_any B b l 32 w h hlen hB
theorem feed_any (B b : Nat) (l : List UInt8) (w : World) (h : Holds B b l w) (hlen : l.length + 1 ≤ 140737488355328) (hB : B ≤ w.heap.size) :
    Calls Tryz.prog 54 #[.pointer (some ⟨b, 0, none⟩), .int .u8 10] w fun e w' => e = .returned .nilIface ∧ Holds B b (l ++ [10]) w' ∧ Below B w w' := Build.byte_any B b l 10 w h hlen hB

set_option maxHeartbeats 4000000 in
theorem join_any (lo hi : Nat) (w : World) (v : Value) (xs : List ML) (h : Lins lo hi w v xs) (hh : hi ≤ w.heap.size) (hT : (joinV (wordsOf xs)).length ≤ 1099511627776) :
    Calls Tryz.prog 27 #[v] w fun e w' => e = .returned (.string ⟨(joinV (wordsOf xs)).toArray⟩) ∧ Below w.heap.size w w' := by
  obtain ⟨A, n, cap, b, off, rfl, hn, hm, ha, hc⟩ := h
  obtain ⟨T, hTT⟩ : ∃ T, (joinV (wordsOf xs)) = T := ⟨_, rfl⟩
  rw [hTT] at hT ⊢
  have HTT := Lib.hid hTT
  have HT := Lib.hid hT
  have HC := Lib.hid hc
  have HA := Lib.hid ha
  have HN := Lib.hid hn
  clear hc ha hn hT hTT
  go_enter Tryz.func27, Tryz.ntmps27
  go_wp2
  go_loopw [10] (fun i wr => ∃ k : Nat, k ≤ n ∧ i = .int .i64 k ∧ Hid (Holds w.heap.size w.heap.size (joinV ((wordsOf xs).take k)) wr) ∧ Hid (Below w.heap.size w wr) ∧ Hid (k = 0 → wr = w.alloc (.cells #[.pointer none, .slice none 0 0] 119))) (fun i _ => n - (intOf i).toNat)
  case atStart => exact ⟨0, Nat.zero_le _, rfl, Lib.hid (Lib.fresh_isBuilder _ _ w), Lib.hid ((Below.refl _ _).alloc (Nat.le_refl _) _), Lib.hid fun _ => rfl⟩
  case round =>
    obtain ⟨k, hk, rfl, HH, HB, HZ⟩ := hrel
    by_cases hlt : k < n
    · obtain ⟨⟨N, u, ws⟩, hx⟩ : ∃ x, xs[k]? = some x := ⟨_, List.getElem?_eq_getElem (by have := HN.out; omega)⟩
      obtain ⟨rfl, _, hb⟩ := HA.out (by omega)
      obtain ⟨c1, c2, c3⟩ := HC.out k _ hx
      simp only at c1 c2 c3
      obtain ⟨A1, p1, rfl⟩ := c3.form
      obtain ⟨s1, o1, _, hm1, a1, j1⟩ := c3.get
      have hb2 : b < w.heap.size := by omega
      have d1 := (HB.out.cell (p := ⟨b, off + k * 2, none⟩) hb2).trans c1
      have d2 := (HB.out.cell (p := ⟨b, off + k * 2 + 1, none⟩) hb2).trans c2
      have A1h := Lib.hid a1
      have J1h := Lib.hid j1
      have HX := Lib.hid (wordsOf_at hx)
      have HZn : Hid True := Lib.hid trivial
      clear c1 c2 c3 a1 j1 hx HZ
      obtain ⟨wo, rfl⟩ : ∃ wo : World, wo = wr := ⟨_, rfl⟩
      go_wp2
      go_loopw [17] (fun j wq => ∃ q : Nat, q ≤ ws.length ∧ j = .int .i64 q ∧ Hid (Holds w.heap.size w.heap.size (joinV ((wordsOf xs).take k) ++ lineJ (ws.take q)) wq) ∧ Hid (Below w.heap.size w wq)) (fun j _ => ws.length - (intOf j).toNat)
      case atStart =>
        refine ⟨0, Nat.zero_le _, rfl, Lib.hid ?_, Lib.hid (HB.out.alloc HB.out.size _)⟩
        have e : joinV ((wordsOf xs).take k) ++ lineJ (ws.take 0) = joinV ((wordsOf xs).take k) := by rw [List.take_zero]; exact List.append_nil _
        rw [e]
        exact HH.out.below ((Below.refl _ _).alloc (Nat.le_refl _) _)
      case round =>
        obtain ⟨q, hq, rfl, HH2, HB2⟩ := hrel
        by_cases hqt : q < ws.length
        · obtain ⟨x, hx⟩ : ∃ x, ws[q]? = some x := ⟨_, List.getElem?_eq_getElem hqt⟩
          obtain ⟨rfl, _, hs1⟩ := A1h.out (by omega)
          have d7 := (HB2.out.cell (p := ⟨s1, o1 + q, none⟩) (by show s1 < _; omega)).trans (J1h.out q x hx)
          have hp := part_le (q := q + 1) HX.out
          have hT2 := HT.out
          rw [HTT.out] at hp
          by_cases hq0 : q = 0
          · subst hq0
            rw [Nat.add_zero] at d7
            have hst := lineJ_step0 hx
            rw [hst] at hp
            simp only [List.length_append] at hp
            have HST := Lib.hid hst
            have hle : (joinV ((wordsOf xs).take k) ++ lineJ (ws.take 0)).length + x.length ≤ 140737488355328 := by rw [List.length_append]; omega
            have HLE := Lib.hid hle
            clear hx hst hp hT2 hle
            go_wp2_with (go_at_call 55; (with_reducible refine (text_any _ _ _ x _ HH2.out HLE.out HB2.out.size).mono ?_); rintro e w1 ⟨rfl, hh1, hb1⟩; have HH3 := Lib.hid hh1; have HB3 := Lib.hid (HB2.out.trans hb1); clear hh1 hb1)
            go_roundw
            case rel => exact ⟨0 + 1, by omega, by go_num, Lib.hid (by rw [HST.out, ← List.append_assoc]; exact HH3.out), HB3⟩
            case measure => simp [intOf]; omega
          · have hq1 : 0 < q := by omega
            have hst := lineJ_step hx hq1
            rw [hst] at hp
            simp only [List.length_append, List.length_singleton] at hp
            have HST := Lib.hid hst
            have hle1 : (joinV ((wordsOf xs).take k) ++ lineJ (ws.take q)).length + 1 ≤ 140737488355328 := by rw [List.length_append]; omega
            have hle2 : (joinV ((wordsOf xs).take k) ++ lineJ (ws.take q) ++ [32]).length + x.length ≤ 140737488355328 := by rw [List.length_append, List.length_append, List.length_singleton]; omega
            have HLE1 := Lib.hid hle1
            have HLE2 := Lib.hid hle2
            have g1 : decide (0 < q) = true := decide_eq_true hq1
            clear hx hst hp hT2 hle1 hle2
            go_wp2_with (first
              | (go_at_call 54; (with_reducible refine (blank_any _ _ _ _ HH2.out HLE1.out HB2.out.size).mono ?_); rintro e w1 ⟨rfl, hh1, hb1⟩; have HH3 := Lib.hid hh1; have HB3 := Lib.hid (HB2.out.trans hb1); clear hh1 hb1)
              | (go_at_call 55; (with_reducible refine (text_any _ _ _ x _ HH3.out HLE2.out HB3.out.size).mono ?_); rintro e w2 ⟨rfl, hh1, hb1⟩; have HH4 := Lib.hid hh1; have HB4 := Lib.hid (HB3.out.trans hb1); clear hh1 hb1))
            go_roundw
            case rel => exact ⟨q + 1, by omega, by go_num, Lib.hid (by rw [HST.out, ← List.append_assoc, ← List.append_assoc]; exact HH4.out), HB4⟩
            case measure => simp [intOf]; omega
        · have hp := part_le (q := ws.length) HX.out
          have hT2 := HT.out
          rw [HTT.out] at hp
          obtain rfl : q = ws.length := by omega
          have hle : (joinV ((wordsOf xs).take k) ++ lineJ (ws.take ws.length)).length + 1 ≤ 140737488355328 := by rw [List.length_append]; omega
          have HLE := Lib.hid hle
          have HE : Hid (joinV ((wordsOf xs).take k) ++ lineJ (ws.take ws.length) ++ [10] = joinV ((wordsOf xs).take (k + 1))) := Lib.hid (by rw [joinV_next HX.out, List.take_length])
          clear hp hT2 hle
          go_wp2_with (go_at_call 54; (with_reducible refine (feed_any _ _ _ _ HH2.out HLE.out HB2.out.size).mono ?_); rintro e w1 ⟨rfl, hh1, hb1⟩; have HH3 := Lib.hid hh1; have HB3 := Lib.hid (HB2.out.trans hb1); clear hh1 hb1)
          go_roundw
          case rel => exact ⟨k + 1, by omega, by go_num, Lib.hid (by rw [← HE.out]; exact HH3.out), HB3, Lib.hid fun h0 => by omega⟩
          case measure => simp [intOf]; omega
    · obtain rfl : k = n := by omega
      have hnl : (wordsOf xs).length = k := by unfold wordsOf; rw [List.length_map]; exact HN.out.symm
      by_cases hk0 : k = 0
      · obtain rfl := HZ.out hk0
        have hT0 : T = [] := by rw [← HTT.out, List.eq_nil_of_length_eq_zero (hnl.trans hk0)]; rfl
        subst hT0
        have Q := Lib.hid (none_any w.heap.size w.heap.size (.pointer none) (w.alloc (.cells #[.pointer none, .slice none 0 0] 119)) (heap_alloc_new w _))
        clear hnl hk0
        go_wp2_with (go_at_call 56; (with_reducible refine (Q.out).mono ?_); rintro e w1 ⟨rfl, hb1⟩; have HB3 := Lib.hid (HB.out.trans hb1); clear hb1)
        go_ret
        exact ⟨rfl, HB3.out⟩
      · have hT0 : T ≠ [] := by
          intro e
          have h1 := HTT.out
          rw [e] at h1
          have h2 := part_le (L := wordsOf xs) (k := 0) (q := 0) (List.getElem?_eq_getElem (by omega))
          rw [h1] at h2
          simp at h2
        have hh2 := HH.out
        rw [List.take_of_length_le (by omega), HTT.out] at hh2
        have Q := Lib.hid (told_any _ _ _ _ hh2 hT0)
        clear hnl hk0 hh2 hT0
        go_wp2_with (go_at_call 56; (with_reducible refine (Q.out).mono ?_); rintro e w1 ⟨rfl, hb1⟩; have HB3 := Lib.hid (HB.out.trans hb1); clear hb1)
        go_ret
        exact ⟨rfl, HB3.out⟩
end Go.Proofs.YtkmndgjabkjafaaGreatDoor
