/-
  CallsJ Round BackP Lay Lay2 Words8 Lay3 Lay4
-/
import Derived.Test.YtdgmdpphimenjaaDoorProg
import Derived.Test.YtdgmdpphimenjaaDoorCallsL
import Derived.Lib.Builder
import Derived.Lib.AppendStr
import Derived.Lib.UnsafeStr
import Derived.Lib.Hide
import Derived.Lib.Walk
import Derived.Laws.Externs
import Derived.Deep.QuietTactic
import Derived.BigQuiet
import Derived.Test.YtdgmdpphimenjaaDoorPlainN
import Derived.Test.YtdgmdpphimenjaaDoorText
import Derived.Test.YtdgmdpphimenjaaDoorW1
/-
  A strings.Builder that the call has made: a byte, or a string, written behind what it holds; and what it holds, told.
  lines.Join, walked.
-/
namespace Go.Proofs.YtdgmdpphimenjaaDoor.Build
open Go.RowKit LinesM Mem

/-- The bytes l, held by the builder in block b. -/
abbrev Holds (B b : Nat) (l : List UInt8) (w : World) : Prop := Lib.IsBuilder 121 5 B b (Lib.byteCells l) w
abbrev HoldsAt (B b : Nat) (p : Value) (l : List UInt8) (w : World) : Prop := Lib.BuilderAt 121 5 B b p (Lib.byteCells l) w

theorem b_info : (Tryd.prog.info? 5).map (fun i => (i.zero, i.size, i.bytes)) = some (some (.int .u8 0), 1, 1) := by kernel_rfl
theorem t_info : (Tryd.prog.info? 121).map (fun i => i.size) = some 2 := by kernel_rfl

set_option maxHeartbeats 1000000 in
set_option maxRecDepth 100000 in
theorem check_any (B b : Nat) (l : List UInt8) (w : World) (h : Holds B b l w) :
    Calls Tryd.prog 78 #[.pointer (some ⟨b, 0, none⟩)] w fun e w' => e = .returned (.tuple #[]) ∧ HoldsAt B b (.pointer (some ⟨b, 0, none⟩)) l w' ∧ Below B w w' := by
  obtain ⟨j, hj, hjs⟩ := Option.map_eq_some_iff.1 t_info
  rcases h with h | h
  · have h0 := h.cell0
    have hf := h.frozen0
    have HS := Lib.hid h.shape
    have HW := Lib.hid h
    have HJ := Lib.hid hj
    have HJ2 := Lib.hid hjs
    clear h hj hjs
    go_enter Tryd.func78, Tryd.ntmps78
    go_wp2
    rw [Lib.run_to_unsafe w ⟨b, 0, none⟩ Tryd.underlying119 Tryd.underlying182 HJ.out (by rw [HJ2.out]; decide) HS.out (Nat.zero_lt_succ 1)]
    simp only [Result.andThen]
    rw [Oper.upon_value]
    go_wp2
    rw [run_callFunc_extern Tryd.func108 (by kernel_rfl) (by kernel_rfl) (by kernel_rfl) (e := Extern.AbiNoEscape.same) (by kernel_rfl)]
    rw [Lib.run_noEscape]
    simp only [Result.andThen]
    rw [Oper.upon_value]
    go_wp2
    rw [Lib.run_from_unsafe w ⟨b, 0, none⟩ Tryd.underlying182 Tryd.underlying119 HJ.out HS.out (by kernel_rfl)]
    simp only [Result.andThen]
    rw [Oper.upon_value]
    go_wp2
    go_end0
    exact ⟨rfl, HW.out.used _, (Below.refl B w).setCell (p := ⟨b, 0, none⟩) HW.out.1 _⟩
  · have h0 := h.cell0
    have HW := Lib.hid h
    have HJ := Lib.hid hj
    clear h hj hjs
    go_enter Tryd.func78, Tryd.ntmps78
    go_wp2
    rw [Lib.run_neq_ptr_same w _ Tryd.underlying119 HJ.out]
    go_wp2
    go_end0
    exact ⟨rfl, HW.out, Below.refl B _⟩

theorem Holds.below {B b : Nat} {l : List UInt8} {w w' : World} (h : Holds B b l w) (hb : Below w.heap.size w w') : Holds B b l w' := by
  rcases h with ⟨h1, v, h2, h3, h4⟩ | ⟨h1, v, h2, h3, h4⟩
  · exact .inl ⟨h1, v, (hb.block b (Array.getElem?_eq_some_iff.1 h2).1).trans h2, own_below h3 hb, h4⟩
  · exact .inr ⟨h1, v, (hb.block b (Array.getElem?_eq_some_iff.1 h2).1).trans h2, own_below h3 hb, h4⟩

theorem block_kept {w w' : World} {b : Nat} {p v : Value} (hbk : w.heap[b]? = some (.cells #[p, v] 121 (0, 0))) (hne : v.ownBlock ≠ some b) (hg : w.grownBy w' v.ownBlock) :
    w'.heap[b]? = some (.cells #[p, v] 121 (0, 0)) := by
  have hlt : b < w.heap.size := (Array.getElem?_eq_some_iff.1 hbk).1
  rw [hg.block b hlt (fun e => hne e.symm)]
  exact hbk

set_option maxHeartbeats 2000000 in
set_option maxRecDepth 100000 in
theorem byte_any (B b : Nat) (l : List UInt8) (c : UInt8) (w : World) (h : Holds B b l w) (hlen : l.length + 1 ≤ 140737488355328) (hB : B ≤ w.heap.size) :
    Calls Tryd.prog 49 #[.pointer (some ⟨b, 0, none⟩), .int .u8 (c.toNat : Int)] w fun e w' => e = .returned .nilIface ∧ Holds B b (l ++ [c]) w' ∧ Below B w w' := by
  obtain ⟨i0, hi, hz0, hz1, hz2⟩ := info_parts b_info
  have Hi := Lib.hid hi
  have Hz0 := Lib.hid hz0
  have Hz1 := Lib.hid hz1
  have Hz2 := Lib.hid hz2
  clear hi hz0 hz1 hz2
  have HH := Lib.hid h
  clear h
  go_enter Tryd.func49, Tryd.ntmps49
  go_wp2_with (go_at_call 78; refine (check_any B b l _ HH.out).mono ?_)
  rintro e w1 ⟨rfl, ⟨hBb, v, hbk, hown, hne⟩, hb1⟩
  rw [Lib.byteCells_length] at hown
  obtain ⟨A, cap, rfl⟩ := own_form hown
  have c1 : w1.cell? ⟨b, 1, none⟩ = some (.slice A l.length cap) := by rw [Lib.cell_of_heap hbk]; rfl
  have HO := Lib.hid hown
  have HK := Lib.hid hbk
  have HN := Lib.hid hne
  have HB := Lib.hid hb1
  clear hbk hown hne hb1
  go_wp2_with (at_builtin; refine wpList_push rfl _ _ 53 rfl B 5 i0 (.int .u8 0) 1 1 Tryd.underlying53 Hi.out Hz0.out Hz1.out Hz2.out rfl (by decide) _ l.length (Lib.byteCells l) rfl HO.out [.int .u8 (c.toNat : Int)] rfl rfl (by intro u hu; rw [List.mem_singleton] at hu; subst hu; rfl) (by unfold maxLen; omega) (by omega) (Nat.le_trans hB HB.out.size) ?_)
  intro v' w2 hown2 hg2
  have hk2 := block_kept HK.out HN.out hg2
  obtain ⟨A2, cap2, rfl⟩ := own_form hown2
  have d1 : w2.cell? ⟨b, 1, none⟩ = some (.slice A l.length cap) := by rw [Lib.cell_of_heap hk2]; rfl
  have f1 : w2.frozen? ⟨b, 1, none⟩ = false := Lib.frozen_of_heap hk2 1
  have HO2 := Lib.hid hown2
  have HK2 := Lib.hid hk2
  have HB2 := Lib.hid (below_grown HB.out HO.out hg2 (Nat.le_trans hB HB.out.size) (Nat.le_refl _))
  clear hown2 hg2 hk2
  go_wp2
  go_ret
  refine ⟨rfl, .inr ?_, HB2.out.setCell (p := ⟨b, 1, none⟩) hBb _⟩
  have e : Lib.byteCells (l ++ [c]) = Lib.byteCells l ++ [.int .u8 (c.toNat : Int)] := by simp [Lib.byteCells]
  refine Lib.BuilderAt.put hBb HK2.out ?_ (by decide)
  rw [Lib.byteCells_length, List.length_append, e]
  exact HO2.out

theorem strCells_eq (x : List UInt8) : Lib.strCells ⟨x.toArray⟩ = Lib.byteCells x := by simp [Lib.strCells, Lib.byteCells]

set_option maxHeartbeats 2000000 in
set_option maxRecDepth 100000 in
theorem text_any (B b : Nat) (l x : List UInt8) (w : World) (h : Holds B b l w) (hlen : l.length + x.length ≤ 140737488355328) (hB : B ≤ w.heap.size) :
    Calls Tryd.prog 50 #[.pointer (some ⟨b, 0, none⟩), .string ⟨x.toArray⟩] w fun e w' => e = .returned (.tuple #[.int .i64 (x.length : Int), .nilIface]) ∧ Holds B b (l ++ x) w' ∧ Below B w w' := by
  obtain ⟨i0, hi, hz0, hz1, hz2⟩ := info_parts b_info
  have Hi := Lib.hid hi
  have Hz0 := Lib.hid hz0
  have Hz1 := Lib.hid hz1
  have Hz2 := Lib.hid hz2
  clear hi hz0 hz1 hz2
  have HH := Lib.hid h
  clear h
  obtain ⟨s, hs⟩ : ∃ s : ByteArray, s = ⟨x.toArray⟩ := ⟨_, rfl⟩
  have hsz : s.size = x.length := by rw [hs]; show x.toArray.size = _; simp
  have hsc : Lib.strCells s = Lib.byteCells x := by rw [hs]; exact strCells_eq x
  rw [← hs, ← hsz]
  rw [← hsz] at hlen
  have HS := Lib.hid hsc
  have HZ := Lib.hid hsz
  clear hs hsc hsz
  go_enter Tryd.func50, Tryd.ntmps50
  go_wp2_with (go_at_call 78; refine (check_any B b l _ HH.out).mono ?_)
  rintro e w1 ⟨rfl, ⟨hBb, v, hbk, hown, hne⟩, hb1⟩
  rw [Lib.byteCells_length] at hown
  obtain ⟨A, cap, rfl⟩ := own_form hown
  have c1 : w1.cell? ⟨b, 1, none⟩ = some (.slice A l.length cap) := by rw [Lib.cell_of_heap hbk]; rfl
  have HO := Lib.hid hown
  have HK := Lib.hid hbk
  have HN := Lib.hid hne
  have HB := Lib.hid hb1
  clear hbk hown hne hb1
  go_wp2_with (at_builtin; refine Lib.wpList_append_own_string _ rfl _ _ 53 9 rfl B 5 i0 Tryd.underlying53 Tryd.underlying9 Hi.out Hz0.out Hz1.out Hz2.out _ l.length (Lib.byteCells l) rfl HO.out s rfl (by unfold maxLen; omega) (by omega) (Nat.le_trans hB HB.out.size) ?_)
  intro v' w2 hown2 hg2 _
  have hk2 := block_kept HK.out HN.out hg2
  obtain ⟨A2, cap2, rfl⟩ := own_form hown2
  have d1 : w2.cell? ⟨b, 1, none⟩ = some (.slice A l.length cap) := by rw [Lib.cell_of_heap hk2]; rfl
  have f1 : w2.frozen? ⟨b, 1, none⟩ = false := Lib.frozen_of_heap hk2 1
  have HO2 := Lib.hid hown2
  have HK2 := Lib.hid hk2
  have HB2 := Lib.hid (below_grown HB.out HO.out hg2 (Nat.le_trans hB HB.out.size) (Nat.le_refl _))
  clear hown2 hg2 hk2
  go_wp2
  go_ret2
  refine ⟨rfl, .inr ?_, HB2.out.setCell (p := ⟨b, 1, none⟩) hBb _⟩
  have e : Lib.byteCells (l ++ x) = Lib.byteCells l ++ Lib.strCells s := by rw [HS.out]; simp [Lib.byteCells]
  refine Lib.BuilderAt.put hBb HK2.out ?_ (by decide)
  rw [Lib.byteCells_length, List.length_append, e, ← HZ.out]
  exact HO2.out

set_option maxHeartbeats 2000000 in
set_option maxRecDepth 100000 in
theorem told_any (B b : Nat) (l : List UInt8) (w : World) (h : Holds B b l w) (h0 : l ≠ []) :
    Calls Tryd.prog 51 #[.pointer (some ⟨b, 0, none⟩)] w fun e w' => e = .returned (.string ⟨l.toArray⟩) ∧ Below B w w' := by
  obtain ⟨p, hB, v, hbk, hown, hne⟩ : ∃ p, HoldsAt B b p l w := by
    rcases h with h | h
    · exact ⟨_, h⟩
    · exact ⟨_, h⟩
  have hl0 : l.length ≠ 0 := by simpa using h0
  rw [Lib.byteCells_length] at hown
  obtain ⟨g, cap, cur, rfl, hbg, hg, hnc, hcm, hcs, _⟩ : ∃ g cap cur, v = .slice (some ⟨g, 0, none⟩) l.length cap ∧ B ≤ g ∧ w.heap[g]? = some (.cells cur 5 (0, 0)) ∧ l.length ≤ cap ∧ cap ≤ maxLen ∧ cur.size = cap * 1 ∧ cur.toList.take (l.length * 1) = Lib.byteCells l := by
    rcases hown.2 with ⟨_, hz⟩ | ⟨g, cap, cur, hv, r⟩
    · exact absurd hz hl0
    · exact ⟨g, cap, cur, hv, r⟩
  have c1 : w.drew.cell? ⟨b, 1, none⟩ = some (.slice (some ⟨g, 0, none⟩) l.length cap) := by
    have : w.drew.heap[b]? = some (.cells #[p, .slice (some ⟨g, 0, none⟩) l.length cap] 121 (0, 0)) := hbk
    rw [Lib.cell_of_heap this]; rfl
  have hSD : (Builtin.unsafeSliceData_ #[53] 160 #[.slice (some ⟨g, 0, none⟩) l.length cap]).run Tryd.prog w.drew = .ok (.pointer (some ⟨g, 0, none⟩)) w.drew :=
    Lib.run_unsafeSliceData_row _ _ _ _ _ _ (by omega)
  have hUS : (Builtin.unsafeString_ #[160, 3] 9 #[.pointer (some ⟨g, 0, none⟩), .int .i64 l.length]).run Tryd.prog w.drew = .ok (.string ⟨l.toArray⟩) (w.drew.freeze ⟨g, 0, none⟩ l.length) := by
    refine Lib.run_unsafeString_row w.drew 160 3 9 5 Tryd.underlying160 (by kernel_rfl) g cur.size (by have hg' : w.drew.heap[g]? = some (.cells cur 5 (0, 0)) := hg; simp [World.shape?, hg']) l h0 (by omega) (by unfold maxLen at hcm; omega) ?_
    intro j x hx
    exact hown.cells (g := g) rfl j (.int .u8 x.toNat) (by simp [Lib.byteCells, hx])
  clear hown hne hg hcs h h0 hl0 hbk
  go_enter Tryd.func51, Tryd.ntmps51
  go_wp2
  go_region
  all_goals (go_wp2; go_ret; exact ⟨rfl, Lib.below_freeze (Below.drew (Below.refl B w)) (p := ⟨g, 0, none⟩) hbg _⟩)

set_option maxHeartbeats 2000000 in
set_option maxRecDepth 100000 in
theorem none_any (B b : Nat) (p : Value) (w : World) (hbk : w.heap[b]? = some (.cells #[p, .slice none 0 0] 121 (0, 0))) :
    Calls Tryd.prog 51 #[.pointer (some ⟨b, 0, none⟩)] w fun e w' => e = .returned (.string ⟨#[]⟩) ∧ Below B w w' := by
  have hUS : ∀ (W : World) (q : Option Addr), (Builtin.unsafeString_ #[160, 3] 9 #[.pointer q, .int .i64 0]).run Tryd.prog W = .ok (.string .empty) W := fun W q => Lib.run_unsafeString_none W _ _ _ q
  have c1 : w.drew.cell? ⟨b, 1, none⟩ = some (.slice none 0 0) := by
    have : w.drew.heap[b]? = some (.cells #[p, .slice none 0 0] 121 (0, 0)) := hbk
    rw [Lib.cell_of_heap this]; rfl
  have hSD : (Builtin.unsafeSliceData_ #[53] 160 #[.slice none 0 0]).run Tryd.prog w.drew = .ok (.pointer none) w.drew := rfl
  clear hbk
  go_enter Tryd.func51, Tryd.ntmps51
  go_wp2
  go_region
  all_goals (go_wp2; go_ret; exact ⟨rfl, Below.drew (Below.refl B w)⟩)
end Go.Proofs.YtdgmdpphimenjaaDoor.Build

namespace Go.Proofs.YtdgmdpphimenjaaDoor
open Go.RowKit LinesM Mem Build

def wordsOf (xs : List ML) : List (List Wd) := xs.map fun x => x.2.2
theorem wordsOf_at {xs : List ML} {k : Nat} {x : ML} (h : xs[k]? = some x) : (wordsOf xs)[k]? = some x.2.2 := by unfold wordsOf; rw [List.getElem?_map, h]; rfl

theorem blank_any (B b : Nat) (l : List UInt8) (w : World) (h : Holds B b l w) (hlen : l.length + 1 ≤ 140737488355328) (hB : B ≤ w.heap.size) :
    Calls Tryd.prog 49 #[.pointer (some ⟨b, 0, none⟩), .int .u8 32] w fun e w' => e = .returned .nilIface ∧ Holds B b (l ++ [32]) w' ∧ Below B w w' := Build.byte_any B b l 32 w h hlen hB
theorem feed_any (B b : Nat) (l : List UInt8) (w : World) (h : Holds B b l w) (hlen : l.length + 1 ≤ 140737488355328) (hB : B ≤ w.heap.size) :
    Calls Tryd.prog 49 #[.pointer (some ⟨b, 0, none⟩), .int .u8 10] w fun e w' => e = .returned .nilIface ∧ Holds B b (l ++ [10]) w' ∧ Below B w w' := Build.byte_any B b l 10 w h hlen hB

set_option maxHeartbeats 4000000 in
theorem join_any (lo hi : Nat) (w : World) (v : Value) (xs : List ML) (h : Lins lo hi w v xs) (hh : hi ≤ w.heap.size) (hT : (joinV (wordsOf xs)).length ≤ 1099511627776) :
    Calls Tryd.prog 23 #[v] w fun e w' => e = .returned (.string ⟨(joinV (wordsOf xs)).toArray⟩) ∧ Below w.heap.size w w' := by
  obtain ⟨A, n, cap, b, off, rfl, hn, hm, ha, hc⟩ := h
  obtain ⟨T, hTT⟩ : ∃ T, (joinV (wordsOf xs)) = T := ⟨_, rfl⟩
  rw [hTT] at hT ⊢
  have HTT := Lib.hid hTT
  have HT := Lib.hid hT
  have HC := Lib.hid hc
  have HA := Lib.hid ha
  have HN := Lib.hid hn
  clear hc ha hn hT hTT
  go_enter Tryd.func23, Tryd.ntmps23
  go_wp2
  go_loopw [10] (fun i wr => ∃ k : Nat, k ≤ n ∧ i = .int .i64 k ∧ Hid (Holds w.heap.size w.heap.size (joinV ((wordsOf xs).take k)) wr) ∧ Hid (Below w.heap.size w wr) ∧ Hid (k = 0 → wr = w.alloc (.cells #[.pointer none, .slice none 0 0] 121))) (fun i _ => n - (intOf i).toNat)
  case atStart => exact ⟨0, Nat.zero_le _, rfl, Lib.hid (Lib.fresh_isBuilder _ _ w), Lib.hid ((Below.refl _ _).alloc (Nat.le_refl _) _), Lib.hid fun _ => rfl⟩
  case round =>
    obtain ⟨k, hk, rfl, HH, HB, HZ⟩ := hrel
    by_cases hlt : k < n
    · obtain ⟨⟨N, u, ws⟩, hx⟩ : ∃ x, xs[k]? = some x := ⟨_, List.getElem?_eq_getElem (by have := HN.out; omega)⟩
      obtain ⟨rfl, _, hb⟩ := HA.out (by omega)
      obtain ⟨c1, c2, c3⟩ := HC.out k _ hx
      simp only at c1 c2 c3
      obtain ⟨A1, p1, rfl⟩ := c3.form
      obtain ⟨s1, o1, _, hm1, a1, j1⟩ := c3.get
      have hb2 : b < w.heap.size := by omega
      have d1 := (HB.out.cell (p := ⟨b, off + k * 2, none⟩) hb2).trans c1
      have d2 := (HB.out.cell (p := ⟨b, off + k * 2 + 1, none⟩) hb2).trans c2
      have A1h := Lib.hid a1
      have J1h := Lib.hid j1
      have HX := Lib.hid (wordsOf_at hx)
      have HZn : Hid True := Lib.hid trivial
      clear c1 c2 c3 a1 j1 hx HZ
      obtain ⟨wo, rfl⟩ : ∃ wo : World, wo = wr := ⟨_, rfl⟩
      go_wp2
      go_loopw [17] (fun j wq => ∃ q : Nat, q ≤ ws.length ∧ j = .int .i64 q ∧ Hid (Holds w.heap.size w.heap.size (joinV ((wordsOf xs).take k) ++ lineJ (ws.take q)) wq) ∧ Hid (Below w.heap.size w wq)) (fun j _ => ws.length - (intOf j).toNat)
      case atStart =>
        refine ⟨0, Nat.zero_le _, rfl, Lib.hid ?_, Lib.hid (HB.out.alloc HB.out.size _)⟩
        have e : joinV ((wordsOf xs).take k) ++ lineJ (ws.take 0) = joinV ((wordsOf xs).take k) := by rw [List.take_zero]; exact List.append_nil _
        rw [e]
        exact HH.out.below ((Below.refl _ _).alloc (Nat.le_refl _) _)
      case round =>
        obtain ⟨q, hq, rfl, HH2, HB2⟩ := hrel
        by_cases hqt : q < ws.length
        · obtain ⟨x, hx⟩ : ∃ x, ws[q]? = some x := ⟨_, List.getElem?_eq_getElem hqt⟩
          obtain ⟨rfl, _, hs1⟩ := A1h.out (by omega)
          have d7 := (HB2.out.cell (p := ⟨s1, o1 + q, none⟩) (by show s1 < _; omega)).trans (J1h.out q x hx)
          have hp := part_le (q := q + 1) HX.out
          have hT2 := HT.out
          rw [HTT.out] at hp
          by_cases hq0 : q = 0
          · subst hq0
            rw [Nat.add_zero] at d7
            have hst := lineJ_step0 hx
            rw [hst] at hp
            simp only [List.length_append] at hp
            have HST := Lib.hid hst
            have hle : (joinV ((wordsOf xs).take k) ++ lineJ (ws.take 0)).length + x.length ≤ 140737488355328 := by rw [List.length_append]; omega
            have HLE := Lib.hid hle
            clear hx hst hp hT2 hle
            go_wp2_with (go_at_call 50; (with_reducible refine (text_any _ _ _ x _ HH2.out HLE.out HB2.out.size).mono ?_); rintro e w1 ⟨rfl, hh1, hb1⟩; have HH3 := Lib.hid hh1; have HB3 := Lib.hid (HB2.out.trans hb1); clear hh1 hb1)
            go_roundw
            case rel => exact ⟨0 + 1, by omega, by go_num, Lib.hid (by rw [HST.out, ← List.append_assoc]; exact HH3.out), HB3⟩
            case measure => simp [intOf]; omega
          · have hq1 : 0 < q := by omega
            have hst := lineJ_step hx hq1
            rw [hst] at hp
            simp only [List.length_append, List.length_singleton] at hp
            have HST := Lib.hid hst
            have hle1 : (joinV ((wordsOf xs).take k) ++ lineJ (ws.take q)).length + 1 ≤ 140737488355328 := by rw [List.length_append]; omega
            have hle2 : (joinV ((wordsOf xs).take k) ++ lineJ (ws.take q) ++ [32]).length + x.length ≤ 140737488355328 := by rw [List.length_append, List.length_append, List.length_singleton]; omega
            have HLE1 := Lib.hid hle1
            have HLE2 := Lib.hid hle2
            have g1 : decide (0 < q) = true := decide_eq_true hq1
            clear hx hst hp hT2 hle1 hle2
            go_wp2_with (first
              | (go_at_call 49; (with_reducible refine (blank_any _ _ _ _ HH2.out HLE1.out HB2.out.size).mono ?_); rintro e w1 ⟨rfl, hh1, hb1⟩; have HH3 := Lib.hid hh1; have HB3 := Lib.hid (HB2.out.trans hb1); clear hh1 hb1)
              | (go_at_call 50; (with_reducible refine (text_any _ _ _ x _ HH3.out HLE2.out HB3.out.size).mono ?_); rintro e w2 ⟨rfl, hh1, hb1⟩; have HH4 := Lib.hid hh1; have HB4 := Lib.hid (HB3.out.trans hb1); clear hh1 hb1))
            go_roundw
            case rel => exact ⟨q + 1, by omega, by go_num, Lib.hid (by rw [HST.out, ← List.append_assoc, ← List.append_assoc]; exact HH4.out), HB4⟩
            case measure => simp [intOf]; omega
        · have hp := part_le (q := ws.length) HX.out
          have hT2 := HT.out
          rw [HTT.out] at hp
          obtain rfl : q = ws.length := by omega
          have hle : (joinV ((wordsOf xs).take k) ++ lineJ (ws.take ws.length)).length + 1 ≤ 140737488355328 := by rw [List.length_append]; omega
          have HLE := Lib.hid hle
          have HE : Hid (joinV ((wordsOf xs).take k) ++ lineJ (ws.take ws.length) ++ [10] = joinV ((wordsOf xs).take (k + 1))) := Lib.hid (by rw [joinV_next HX.out, List.take_length])
          clear hp hT2 hle
          go_wp2_with (go_at_call 49; (with_reducible refine (feed_any _ _ _ _ HH2.out HLE.out HB2.out.size).mono ?_); rintro e w1 ⟨rfl, hh1, hb1⟩; have HH3 := Lib.hid hh1; have HB3 := Lib.hid (HB2.out.trans hb1); clear hh1 hb1)
          go_roundw
          case rel => exact ⟨k + 1, by omega, by go_num, Lib.hid (by rw [← HE.out]; exact HH3.out), HB3, Lib.hid fun h0 => by omega⟩
          case measure => simp [intOf]; omega
    · obtain rfl : k = n := by omega
      have hnl : (wordsOf xs).length = k := by unfold wordsOf; rw [List.length_map]; exact HN.out.symm
      by_cases hk0 : k = 0
      · obtain rfl := HZ.out hk0
        have hT0 : T = [] := by rw [← HTT.out, List.eq_nil_of_length_eq_zero (hnl.trans hk0)]; rfl
        subst hT0
        have Q := Lib.hid (none_any w.heap.size w.heap.size (.pointer none) (w.alloc (.cells #[.pointer none, .slice none 0 0] 121)) (heap_alloc_new w _))
        clear hnl hk0
        go_wp2_with (go_at_call 51; (with_reducible refine (Q.out).mono ?_); rintro e w1 ⟨rfl, hb1⟩; have HB3 := Lib.hid (HB.out.trans hb1); clear hb1)
        go_ret
        exact ⟨rfl, HB3.out⟩
      · have hT0 : T ≠ [] := by
          intro e
          have h1 := HTT.out
          rw [e] at h1
          have h2 := part_le (L := wordsOf xs) (k := 0) (q := 0) (List.getElem?_eq_getElem (by omega))
          rw [h1] at h2
          simp at h2
        have hh2 := HH.out
        rw [List.take_of_length_le (by omega), HTT.out] at hh2
        have Q := Lib.hid (told_any _ _ _ _ hh2 hT0)
        clear hnl hk0 hh2 hT0
        go_wp2_with (go_at_call 51; (with_reducible refine (Q.out).mono ?_); rintro e w1 ⟨rfl, hb1⟩; have HB3 := Lib.hid (HB.out.trans hb1); clear hb1)
        go_ret
        exact ⟨rfl, HB3.out⟩
end Go.Proofs.YtdgmdpphimenjaaDoor

/-
  A right program's lines are read as it.
-/
namespace Go.Proofs.YtdgmdpphimenjaaDoor.Rd5
open Go.RowKit Api Syn WordM Tree

variable {p p2 : Prog} {pl lg pl2 lg2 : Int} {l : List Wd}
/-! ### words -/
theorem name_eq {x : Wd} (h : nameV x = true) : x ≠ [61] := by rintro rfl; revert h; decide
theorem take_name {x : Wd} (h : nameV x = true) (l : List Wd) : takeName (x :: l) = some (x, l) := by simp [takeName, h]
theorem take_kind {x : Wd} (h : kindV x = true) (l : List Wd) : takeKind (x :: l) = some (x, l) := by simp [takeKind, h]
theorem take_var {v : Var} (h : varR v = true) (l : List Wd) : takeVar (v.name :: v.type :: l) = some (v, l) := by
  simp only [varR, Bool.and_eq_true] at h
  simp [takeVar, take_name h.1, take_kind h.2]
theorem put_read {a : Arg} (hI : argI a) (h : argR a = true) : argV (putA a) = (a, true) := by
  have e : wget ⟨(wput (ofA a)).toArray⟩ = (ofA a, true) := wget_of hI h rfl
  unfold argV putA
  rw [e]
  rfl
theorem x_of {a : Arg} (h : argX a = true) : argR a = true ∧ a.kind ≠ 5 := by
  simp only [argX, Bool.and_eq_true, bne_iff_ne, ne_eq] at h
  exact ⟨h.2, h.1⟩
theorem take_val {a : Arg} (hI : argI a) (h : argR a = true) (l : List Wd) : takeVal (putA a :: l) = some (a, l) := by
  simp only [takeVal]
  rw [put_read hI h, if_pos rfl]
theorem take_arg {a : Arg} (hI : argI a) (h : argX a = true) (l : List Wd) : takeArg (putA a :: l) = some (a, l) := by
  unfold takeArg
  rw [take_val hI (x_of h).1]
  simp only
  rw [if_neg (x_of h).2]
theorem put_eq {a : Arg} (hI : argI a) (h : argR a = true) : putA a ≠ [61] := by
  intro e
  have := put_read hI h
  rw [e] at this
  have h2 : (argV [61]).2 = true := congrArg Prod.snd this
  exact absurd h2 (by decide +kernel)
theorem dec_eq {n : Int} (hI : NumM.In n) : NumM.dec n ≠ [61] := by
  intro e
  have := NumM.get_dec n hI
  rw [e] at this
  have h2 : (NumM.getV [61]).2 = true := congrArg Prod.snd this
  exact absurd h2 (by decide +kernel)
theorem take_num {n : Int} (hI : NumM.In n) (l : List Wd) : takeNum (NumM.dec n :: l) = some (n, l) := by
  simp only [takeNum]
  rw [NumM.get_dec n hI, if_pos rfl]
theorem take_count {n m : Int} (h0 : 0 ≤ n) (h1 : n ≤ m) (hm : m ≤ 1024) (l : List Wd) : takeCount m (NumM.dec n :: l) = some (n, l) := by
  unfold takeCount
  rw [take_num (by unfold NumM.In; omega)]
  simp only
  rw [if_neg (by omega)]
theorem take_bind {b : Bind} (hI : argI b.a) (h : bindR b = true) (l : List Wd) : takeBind (bindL b ++ l) = some (b, l) := by
  simp only [bindR, Bool.and_eq_true] at h
  show takeBind (b.name :: putA b.a :: l) = _
  unfold takeBind
  rw [take_name h.1]
  simp only
  rw [take_val hI h.2]
theorem take_in {b : Bind} (hI : argI b.a) (h : inR b = true) (l : List Wd) : takeIn (bindL b ++ l) = some (b, l) := by
  simp only [inR, Bool.and_eq_true] at h
  show takeIn (b.name :: putA b.a :: l) = _
  unfold takeIn
  rw [take_name h.1]
  simp only
  rw [take_arg hI h.2]
theorem take_all {β : Type} {take : List Wd → Option (β × List Wd)} {put : β → List Wd} {ys : List β} (h : ∀ y ∈ ys, ∀ l, take (put y ++ l) = some (y, l)) (hne : ∀ y ∈ ys, put y ≠ []) :
    ∀ n, (ys.flatMap put).length ≤ n → takeAll take n (ys.flatMap put) = some ys := by
  induction ys with
  | nil => intro n _; cases n <;> rfl
  | cons y ys ih =>
    intro n hn
    rw [List.flatMap_cons] at hn ⊢
    have hy := hne y (by simp)
    have ht := h y (by simp) (ys.flatMap put)
    obtain ⟨x, t, e⟩ : ∃ x t, put y = x :: t := by
      cases hp : put y with
      | nil => exact absurd hp hy
      | cons x t => exact ⟨x, t, rfl⟩
    have hi := ih (fun z hz => h z (by simp [hz])) (fun z hz => hne z (by simp [hz]))
    rw [e, List.cons_append] at hn ht ⊢
    cases n with
    | zero => simp at hn
    | succ n =>
      simp only [takeAll]
      rw [ht]
      simp only
      rw [hi n (by rw [List.length_cons, List.length_append] at hn; omega)]
      rfl
theorem take_each {take : List Wd → Option (Arg × List Wd)} {ys : List Arg} (h : ∀ y ∈ ys, ∀ l, take (putA y :: l) = some (y, l)) : takeAll take (ys.map putA).length (ys.map putA) = some ys := by
  have e : ys.map putA = ys.flatMap fun a => [putA a] := by rw [← List.flatMap_singleton' (ys.map putA), List.flatMap_map]
  rw [e]
  exact take_all (put := fun a => [putA a]) h (by simp) _ (Nat.le_refl _)

/-! ### lines -/
theorem step_of {x : Wd} (hl : l.head? ≠ some [61]) (hd : dispD p pl lg x l = some (p2, pl2, lg2, false, [])) : step (p, pl, lg) (x :: l) = some (p2, pl2, lg2) := by
  have e : lineE (lineO p pl lg x l) = .ok (p2, pl2, lg2) := by
    unfold lineO
    rw [if_neg hl, hd]
    rfl
  show (match lineE (lineO p pl lg x l) with | .ok s' => some s' | .error _ => none) = _
  rw [e]
theorem step_set {x : Wd} (hd : setD p pl lg false x (kEq :: l) = some (p2, pl2, lg2, false, [])) : step (p, pl, lg) (x :: kEq :: l) = some (p2, pl2, lg2) := by
  have e : lineE (lineO p pl lg x (kEq :: l)) = .ok (p2, pl2, lg2) := by
    unfold lineO
    rw [if_pos (by rfl), hd]
    rfl
  show (match lineE (lineO p pl lg x (kEq :: l)) with | .ok s' => some s' | .error _ => none) = _
  rw [e]
theorem disp_trap : dispD p pl lg kTrap l = trapD p pl lg false l := rfl
theorem disp_ret : dispD p pl lg kRet l = retD p pl lg false l := rfl
theorem disp_branch : dispD p pl lg kBranch l = branchD p pl lg false l := rfl
theorem disp_jump : dispD p pl lg kJump l = jumpD p pl lg false l := rfl
theorem disp_obj : dispD p pl lg kObj l = objD p pl lg false l := rfl
theorem disp_at : dispD p pl lg kAt l = frmD p pl lg false l := rfl
theorem disp_phi : dispD p pl lg kPhi l = phiD p pl lg false l := rfl
theorem disp_block : dispD p pl lg kBlock l = blockD p pl lg l := rfl
theorem disp_var : dispD p pl lg kVar l = varD p pl lg l := rfl
theorem disp_param : dispD p pl lg kParam l = paramD p pl lg l := rfl
theorem disp_func : dispD p pl lg kFunc l = funcD p pl lg l := rfl
theorem disp_extern : dispD p pl lg kExtern l = externD p pl lg l := rfl
theorem disp_global : dispD p pl lg kGlobal l = globalD p pl lg l := rfl
theorem disp_field : dispD p pl lg kField l = fieldD p pl lg l := rfl
theorem disp_class : dispD p pl lg kClass l = classD p pl lg l := rfl
theorem disp_ssa : dispD p pl lg kSsa l = ssaD p pl lg false l := rfl
theorem head_name {x : Wd} (h : nameV x = true) (l : List Wd) : (x :: l).head? ≠ some [61] := fun e => name_eq h (Option.some.inj e)
theorem no_more {a b : Int} (h : b ≤ a) : decide (a < b) = false := by simp; omega

theorem step_ssa : step (⟨false, [], [], [], []⟩, 1, 0) [kSsa] = some (⟨true, [], [], [], []⟩, 2, 0) := rfl
theorem step_class {n : Wd} (h : stB pl 519 = true) (hn : nameV n = true) (hl : p.classes.length < 8) : step (p, pl, lg) [kClass, n] = some ({ p with classes := p.classes ++ [⟨n, []⟩] }, 4, lg) := by
  refine step_of (head_name hn _) ?_
  rw [disp_class]
  unfold classD
  rw [if_neg (by simp [h]), take_name hn]
  simp only
  rw [no_more (by omega)]
theorem step_global {v : Var} (h : stB pl 519 = true) (hv : varR v = true) (hl : p.globals.length < 8) : step (p, pl, lg) (varL kGlobal v) = some ({ p with globals := p.globals ++ [v] }, 2, lg) := by
  have hn : nameV v.name = true := by simp only [varR, Bool.and_eq_true] at hv; exact hv.1
  refine step_of (head_name hn _) ?_
  rw [disp_global]
  unfold globalD
  rw [if_neg (by simp [h]), take_var hv]
  simp only
  rw [no_more (by omega)]
theorem step_extern {e : Extern} (h : stB pl 519 = true) (hv : externR e = true) (hl : p.externs.length < 8) : step (p, pl, lg) (externL e) = some ({ p with externs := p.externs ++ [e] }, 2, lg) := by
  simp only [externR, Bool.and_eq_true, decide_eq_true_eq] at hv
  refine step_of (head_name hv.1 _) ?_
  rw [disp_extern]
  unfold externD
  rw [if_neg (by simp [h]), take_name hv.1]
  simp only
  rw [take_count hv.2.1 hv.2.2 (by decide)]
  simp only
  rw [no_more (by omega)]
theorem step_func {n r : Wd} (h : stB pl 519 = true) (hn : nameV n = true) (hr : kindV r = true) (hl : p.funcs.length < 8) : step (p, pl, lg) [kFunc, n, r] = some ({ p with funcs := p.funcs ++ [⟨n, r, [], [], []⟩] }, 8, 0) := by
  refine step_of (head_name hn _) ?_
  rw [disp_func]
  unfold funcD
  rw [if_neg (by simp [h]), take_name hn]
  simp only
  rw [take_kind hr]
  simp only
  rw [no_more (by omega)]
theorem getD_snoc {α : Type} (l : List α) (x z : α) : (l ++ [x]).getLast?.getD z = x := by simp
section
variable {s : Bool} {c : List Class} {g : List Var} {e : List Extern} {u : List Api.Func}
theorem step_field {n : Wd} {d : List Var} {v : Var} (hv : varR v = true) (hl : d.length < 8) : step (⟨s, c ++ [⟨n, d⟩], g, e, u⟩, 4, lg) (varL kField v) = some (⟨s, c ++ [⟨n, d ++ [v]⟩], g, e, u⟩, 4, lg) := by
  have hn : nameV v.name = true := by simp only [varR, Bool.and_eq_true] at hv; exact hv.1
  refine step_of (head_name hn _) ?_
  rw [disp_field]
  unfold fieldD
  rw [if_neg (by decide), take_var hv]
  simp only
  rw [getD_snoc, last_snoc, no_more (by simp only; omega)]
theorem step_param {n r : Wd} {ps vs : List Var} {b : List Api.Block} {v : Var} (hv : varR v = true) (hl : ps.length < 6) : step (⟨s, c, g, e, u ++ [⟨n, r, ps, vs, b⟩]⟩, 8, lg) (varL kParam v) = some (⟨s, c, g, e, u ++ [⟨n, r, ps ++ [v], vs, b⟩]⟩, 8, lg) := by
  have hn : nameV v.name = true := by simp only [varR, Bool.and_eq_true] at hv; exact hv.1
  refine step_of (head_name hn _) ?_
  rw [disp_param]
  unfold paramD
  rw [if_neg (by decide), take_var hv]
  simp only
  rw [getD_snoc, last_snoc, no_more (by simp only; omega)]
theorem step_var {n r : Wd} {ps vs : List Var} {b : List Api.Block} {v : Var} (h : stB pl 24 = true) (hv : varR v = true) (hl : vs.length < 1024) : step (⟨s, c, g, e, u ++ [⟨n, r, ps, vs, b⟩]⟩, pl, lg) (varL kVar v) = some (⟨s, c, g, e, u ++ [⟨n, r, ps, vs ++ [v], b⟩]⟩, 16, lg) := by
  have hn : nameV v.name = true := by simp only [varR, Bool.and_eq_true] at hv; exact hv.1
  refine step_of (head_name hn _) ?_
  rw [disp_var]
  unfold varD
  rw [if_neg (by simp [h]), take_var hv]
  simp only
  rw [getD_snoc, last_snoc, no_more (by simp only; omega)]
theorem step_block {n r : Wd} {ps vs : List Var} {b : List Api.Block} {x : Wd} (h : stB pl 536 = true) (hx : nameV x = true) (hl : b.length < 256) : step (⟨s, c, g, e, u ++ [⟨n, r, ps, vs, b⟩]⟩, pl, lg) [kBlock, x] = some (⟨s, c, g, e, u ++ [⟨n, r, ps, vs, b ++ [⟨x, [], [], termZ⟩]⟩]⟩, 32, lg) := by
  refine step_of (head_name hx _) ?_
  rw [disp_block]
  unfold blockD
  rw [if_neg (by simp [h]), take_name hx]
  simp only
  rw [getD_snoc, last_snoc, no_more (by simp only; omega)]
variable {n r : Wd} {ps vs : List Var} {bs : List Api.Block} {b : Api.Block}
/-- The program of whose last function the last block is being read. -/
abbrev cur (s : Bool) (c : List Class) (g : List Var) (e : List Extern) (u : List Api.Func) (n r : Wd) (ps vs : List Var) (bs : List Api.Block) (b : Api.Block) : Prog := ⟨s, c, g, e, u ++ [⟨n, r, ps, vs, bs ++ [b]⟩]⟩
theorem inB_cur (f : Api.Block → Api.Block) : inB (cur s c g e u n r ps vs bs b) f = cur s c g e u n r ps vs bs (f b) := by
  unfold inB
  simp only
  rw [last_snoc]
  simp only
  rw [last_snoc]
theorem theB_cur : theB (cur s c g e u n r ps vs bs b) = b := by
  show ((u ++ [_]).getLast?.getD funcZ).blocks.getLast?.getD blockZ = b
  rw [getD_snoc]
  simp only
  rw [getD_snoc]
theorem step_phi {x : Phi} (hI : phiI x) (h : phiR x = true) (hl : lg < 1024) : step (cur s c g e u n r ps vs bs b, 32, lg) (phiL x) = some (cur s c g e u n r ps vs bs { b with phis := b.phis ++ [x] }, 32, lg + 1) := by
  simp only [phiR, allR, Bool.and_eq_true, decide_eq_true_eq] at h
  obtain ⟨hn, h0, hm, ha⟩ := h
  obtain ⟨d, ins⟩ := x
  simp only at hn h0 hm ha
  cases ins with
  | nil => simp at h0
  | cons y ins =>
    have hy : inR y = true := List.all_eq_true.1 ha y (by simp)
    refine step_of (head_name hn _) ?_
    rw [disp_phi]
    unfold phiD
    rw [if_neg (by decide), take_name hn]
    simp only [List.flatMap_cons]
    rw [take_in (hI y (by simp)) hy]
    simp only
    rw [take_all (put := bindL) (fun z hz l => take_in (hI z (by simp [hz])) (List.all_eq_true.1 ha z (by simp [hz])) l) (fun z _ => by simp [bindL]) _ (Nat.le_refl _)]
    simp only
    rw [no_more (by omega), no_more (by omega), phiP, inB_cur]
    rfl
theorem step_fin {t : Api.Term} (h : stB pl 480 = true) (hI : finI t) (hR : finR t = true) : step (cur s c g e u n r ps vs bs b, pl, lg) (endL t) = some (cur s c g e u n r ps vs bs { b with fin := t }, 512, lg) := by
  have hfin : ∀ t : Api.Term, finP (cur s c g e u n r ps vs bs b) t = cur s c g e u n r ps vs bs { b with fin := t } := fun t => inB_cur fun b => { b with fin := t }
  obtain ⟨k, a, d, m⟩ := t
  obtain ⟨hI1, hI2⟩ := hI
  unfold finR at hR
  unfold endL
  simp only at hR hI1 hI2 ⊢
  have hargN : argN a = true → a = argZ := by
    intro h
    obtain ⟨k, x, n⟩ := a
    simp only [argN, Bool.and_eq_true, beq_iff_eq] at h
    obtain ⟨rfl, rfl, rfl⟩ := h
    rfl
  split at hR
  · rename_i hk
    subst hk
    rw [if_pos rfl]
    simp only [Bool.and_eq_true, destsR, decide_eq_true_eq, beq_iff_eq, List.all_eq_true] at hR
    obtain ⟨ha, ⟨hd, hn⟩, rfl⟩ := hR
    obtain rfl := hargN ha
    match d, hd, hn with
    | [x], _, hn =>
      have hx := hn x (by simp)
      refine step_of (head_name hx _) ?_
      rw [disp_jump]
      unfold jumpD
      rw [take_name hx]
      simp only
      unfold endD
      rw [if_neg (by simp [h]), hfin]
  · rename_i hk1
    rw [if_neg hk1]
    split at hR
    · rename_i hk
      subst hk
      rw [if_pos rfl]
      simp only [Bool.and_eq_true, destsR, decide_eq_true_eq, beq_iff_eq, List.all_eq_true] at hR
      obtain ⟨ha, ⟨hd, hn⟩, rfl⟩ := hR
      match d, hd, hn with
      | [x, y], _, hn =>
        have hx := hn x (by simp)
        have hy := hn y (by simp)
        refine step_of (fun e => put_eq hI1 (x_of ha).1 (Option.some.inj e)) ?_
        rw [disp_branch]
        unfold branchD
        rw [take_arg hI1 ha]
        simp only
        rw [take_name hx]
        simp only
        rw [take_name hy]
        simp only
        unfold endD
        rw [if_neg (by simp [h]), hfin]
    · rename_i hk2
      rw [if_neg hk2]
      split at hR
      · rename_i hk
        subst hk
        rw [if_pos rfl]
        simp only [Bool.and_eq_true, destsR, decide_eq_true_eq, beq_iff_eq, List.all_eq_true] at hR
        obtain ⟨ha, ⟨hd, hn⟩, rfl⟩ := hR
        obtain rfl := List.eq_nil_of_length_eq_zero hd
        refine step_of (fun e => put_eq hI1 (x_of ha).1 (Option.some.inj e)) ?_
        rw [disp_ret]
        unfold retD
        rw [take_arg hI1 ha]
        simp only
        unfold endD
        rw [if_neg (by simp [h]), hfin]
      · rename_i hk3
        rw [if_neg hk3]
        split at hR
        · rename_i hk
          subst hk
          simp only [Bool.and_eq_true, destsR, decide_eq_true_eq, List.all_eq_true] at hR
          obtain ⟨ha, hd, hn⟩ := hR
          obtain rfl := hargN ha
          obtain rfl := List.eq_nil_of_length_eq_zero hd
          refine step_of (fun e => dec_eq hI2 (Option.some.inj e)) ?_
          rw [disp_trap]
          unfold trapD
          rw [take_num hI2]
          simp only
          unfold endD
          rw [if_neg (by simp [h]), hfin]
        · simp at hR
theorem op_range {op : Int} (h : (formV op).2 = true) : ∃ k : Nat, op = (k : Int) ∧ 1 ≤ k ∧ k ≤ 34 := by
  unfold formV at h
  split at h
  · simp at h
  · exact ⟨op.toNat, by omega, by omega, by omega⟩
theorem op_back {op : Int} (h : (formV op).2 = true) : opV (opWords.getD op.toNat []) = (op.toNat, true) := by
  obtain ⟨k, rfl, h1, h2⟩ := op_range h
  have hall : ∀ k ∈ List.range 35, k = 0 ∨ opV (opWords.getD k []) = (k, true) := by decide +kernel
  rcases hall k (List.mem_range.2 (by omega)) with h | h
  · omega
  · exact h
theorem opW_eq {op : Int} (h : (formV op).2 = true) : nameV (opWords.getD op.toNat []) = true := by
  obtain ⟨k, rfl, h1, h2⟩ := op_range h
  have hall : ∀ k ∈ List.range 35, k = 0 ∨ nameV (opWords.getD k []) = true := by decide +kernel
  rcases hall k (List.mem_range.2 (by omega)) with h | h
  · omega
  · exact h
/-- Instructions without a variable, by their words. -/
theorem disp_act {op : Int} (h : (formV op).2 = true) (hd : (formV op).1.dst = false) : dispD p pl lg (opWords.getD op.toNat []) l = insD p pl lg false [] (opWords.getD op.toNat []) l := by
  obtain ⟨k, rfl, h1, h2⟩ := op_range h
  have hall : ∀ k ∈ List.range 35, k = 0 ∨ (formV (k : Int)).1.dst = true ∨ k = 27 ∨ k = 30 ∨ k = 33 ∨ k = 34 := by decide +kernel
  rcases hall k (List.mem_range.2 (by omega)) with h | h | rfl | rfl | rfl | rfl
  · omega
  · rw [hd] at h; cases h
  · rfl
  · rfl
  · rfl
  · rfl
theorem ahead_least {op : Int} (h : (formV op).2 = true) : (aheadV op : Int) ≤ (formV op).1.least ∧ (aheadV op = 0 ∨ aheadV op = 1) ∧ (formV op).1.most ≤ 8 := by
  obtain ⟨k, rfl, h1, h2⟩ := op_range h
  have hall : ∀ k ∈ List.range 35, k = 0 ∨ ((aheadV (k : Int) : Int) ≤ (formV (k : Int)).1.least ∧ (aheadV (k : Int) = 0 ∨ aheadV (k : Int) = 1) ∧ (formV (k : Int)).1.most ≤ 8) := by decide +kernel
  rcases hall k (List.mem_range.2 (by omega)) with h | h
  · omega
  · exact h
theorem take_many {ys : List Arg} {k : Nat} (h : ∀ y ∈ ys, argX y = true ∧ argI y) (hk : k ≤ ys.length) (l : List Wd) : takeN takeArg k ((ys.take k).map putA ++ l) = some (ys.take k, l) := by
  induction ys generalizing k with
  | nil =>
    obtain rfl : k = 0 := by simpa using hk
    rfl
  | cons y ys ih =>
    cases k with
    | zero => rfl
    | succ k =>
      have hy := h y (by simp)
      simp only [List.take_succ_cons, List.map_cons, List.cons_append, takeN]
      rw [take_arg hy.2 hy.1]
      simp only
      rw [ih (fun z hz => h z (by simp [hz])) (by simpa using hk)]
/-- What stands behind an instruction's word. -/
theorem ins_read {i : Instr} {q : Prog} (hs : stB pl 480 = true) (hI : ∀ a ∈ i.args, argI a) (h : instrR i = true) (hl : lg < 1024) :
    insD q pl lg false i.dst (opWords.getD i.op.toNat []) (instrW i).tail = some (insP q { i with frames := [], objs := [] }, behindV i.op, lg + 1, false, []) := by
  simp only [instrR, Bool.and_eq_true, decide_eq_true_eq, List.all_eq_true] at h
  obtain ⟨hf, hd, hn, hleast, ⟨hmost, hx⟩, hst⟩ := h
  have hop : ((i.op.toNat : Nat) : Int) = i.op := by obtain ⟨k, e, _, _⟩ := op_range hf; omega
  obtain ⟨ha1, ha2, ha3⟩ := ahead_least hf
  have hargs : ∀ y ∈ i.args, argX y = true ∧ argI y := fun y hy => ⟨hx y hy, hI y hy⟩
  unfold insD
  rw [if_neg (by simp [hs]), op_back hf]
  simp only
  rw [hop]
  have hdst : (formV i.op).1.dst = (i.dst != []) := by
    unfold noneR at hd
    split at hd
    · rename_i hh
      rw [hh]
      cases hi : i.dst with
      | nil => rw [hi] at hd; revert hd; decide
      | cons a b => rfl
    · rename_i hh
      simp at hd hh
      rw [hd, hh]; rfl
  rw [if_neg (by simp [hdst])]
  show (match takeN takeArg (aheadV i.op) ((i.args.take (aheadV i.op)).map putA ++ _) with | none => none | some (us, l1) => _) = _
  rw [take_many hargs (by omega)]
  simp only
  have hnm : takeNm (formV i.op).1.named ((if (formV i.op).1.named = true then [i.name] else []) ++ (i.args.drop (aheadV i.op)).map putA) = some (i.name, (i.args.drop (aheadV i.op)).map putA) := by
    unfold takeNm
    unfold noneR at hn
    split at hn
    · rename_i hh
      rw [if_pos hh, if_pos hh]
      exact take_name hn _
    · rename_i hh
      rw [if_neg hh, if_neg hh]
      simp only [beq_iff_eq] at hn
      rw [hn]; rfl
  rw [hnm]
  simp only
  rw [take_each (fun y hy l => take_arg (hI y (List.mem_of_mem_drop hy)) (hx y (List.mem_of_mem_drop hy)) l)]
  simp only
  rw [List.take_append_drop, if_neg (by omega), no_more (by omega)]
  rfl
theorem dst_form {i : Instr} (h : instrR i = true) : (i.dst = [] ∧ (formV i.op).1.dst = false) ∨ (nameV i.dst = true ∧ i.dst ≠ []) := by
  simp only [instrR, Bool.and_eq_true] at h
  have hd := h.2.1
  unfold noneR at hd
  split at hd
  · right
    refine ⟨hd, fun e => ?_⟩
    rw [e] at hd; revert hd; decide
  · rename_i hh
    left
    simp at hd hh
    exact ⟨hd, hh⟩
theorem step_ins {i : Instr} (hs : stB pl 480 = true) (hI : ∀ a ∈ i.args, argI a) (h : instrR i = true) (hl : lg < 1024) :
    step (cur s c g e u n r ps vs bs b, pl, lg) (instrL i) = some (cur s c g e u n r ps vs bs { b with code := b.code ++ [{ i with frames := [], objs := [] }] }, behindV i.op, lg + 1) := by
  have hr := ins_read (q := cur s c g e u n r ps vs bs b) hs hI h hl
  have hf : (formV i.op).2 = true := by simp only [instrR, Bool.and_eq_true] at h; exact h.1
  rw [insP, inB_cur] at hr
  unfold instrL
  rcases dst_form h with ⟨hd, hdf⟩ | ⟨hd, hne⟩
  · rw [if_pos hd]
    have e0 : insD (cur s c g e u n r ps vs bs b) pl lg false [] (opWords.getD i.op.toNat []) (instrW i).tail = insD (cur s c g e u n r ps vs bs b) pl lg false i.dst (opWords.getD i.op.toNat []) (instrW i).tail := by rw [hd]
    refine step_of ?_ (by rw [disp_act hf hdf]; exact e0.trans hr)
    simp only [instrR, Bool.and_eq_true, decide_eq_true_eq, List.all_eq_true] at h
    obtain ⟨_, _, hn, hleast, ⟨hmost, hx⟩, hst⟩ := h
    show ((i.args.take (aheadV i.op)).map putA ++ ((if (formV i.op).1.named = true then [i.name] else []) ++ (i.args.drop (aheadV i.op)).map putA)).head? ≠ some [61]
    intro e
    have hm : ([61] : Wd) ∈ (i.args.take (aheadV i.op)).map putA ++ ((if (formV i.op).1.named = true then [i.name] else []) ++ (i.args.drop (aheadV i.op)).map putA) := List.mem_of_mem_head? e
    simp only [List.mem_append, List.mem_map] at hm
    rcases hm with ⟨a, ha, e⟩ | hm | ⟨a, ha, e⟩
    · exact put_eq (hI a (List.mem_of_mem_take ha)) (x_of (hx a (List.mem_of_mem_take ha))).1 e
    · unfold noneR at hn
      split at hm
      · rename_i hh
        rw [if_pos hh] at hn
        simp only [List.mem_singleton] at hm
        exact name_eq hn hm.symm
      · simp at hm
    · exact put_eq (hI a (List.mem_of_mem_drop ha)) (x_of (hx a (List.mem_of_mem_drop ha))).1 e
  · rw [if_neg hne]
    refine step_set ?_
    unfold setD
    rw [if_neg (by simp [hd])]
    exact hr
theorem theI_cur {x : Instr} : theI (cur s c g e u n r ps vs bs { b with code := b.code ++ [x] }) = x := by
  show (theB (cur s c g e u n r ps vs bs { b with code := b.code ++ [x] })).code.getLast?.getD instrZ = x
  rw [theB_cur]
  exact getD_snoc _ _ _
variable {k : List Instr}
theorem step_frame {i : Instr} {f : Api.Frame} (hI : ∀ b ∈ f.vars, argI b.a) (h : frameR f = true) (hl : i.frames.length < 16) (hb : b.code = k ++ [i]) :
    step (cur s c g e u n r ps vs bs b, 128, lg) (frameL f) = some (cur s c g e u n r ps vs bs { b with code := k ++ [{ i with frames := i.frames ++ [f] }] }, 128, lg) := by
  simp only [frameR, allR, Bool.and_eq_true, decide_eq_true_eq] at h
  obtain ⟨h1, h2, ⟨h3, h4⟩, h5, h6⟩ := h
  have hth : theI (cur s c g e u n r ps vs bs b) = i := by
    show (theB (cur s c g e u n r ps vs bs b)).code.getLast?.getD instrZ = i
    rw [theB_cur, hb]
    exact getD_snoc _ _ _
  refine step_of (head_name h1 _) ?_
  rw [disp_at]
  unfold frmD
  rw [if_neg (by decide), take_name h1]
  simp only
  rw [take_name h2]
  simp only
  rw [take_count h3 h4 (by decide)]
  simp only
  rw [take_all (put := bindL) (fun z hz l => take_bind (hI z hz) (List.all_eq_true.1 h6 z hz) l) (fun z _ => by simp [bindL]) _ (Nat.le_refl _)]
  simp only
  rw [hth, no_more (by omega), no_more (by omega), frmP, inB_cur, hb, last_snoc]
  rfl
theorem step_virt {i : Instr} {f : Virt} (hp : stB pl 384 = true) (hI : ∀ a ∈ f.vals, argI a) (h : virtR f = true) (hl : i.objs.length < 99) (hb : b.code = k ++ [i]) :
    step (cur s c g e u n r ps vs bs b, pl, lg) (virtL f) = some (cur s c g e u n r ps vs bs { b with code := k ++ [{ i with objs := i.objs ++ [f] }] }, 256, lg) := by
  simp only [virtR, allR, Bool.and_eq_true, decide_eq_true_eq] at h
  obtain ⟨h1, h2, h3⟩ := h
  have hth : theI (cur s c g e u n r ps vs bs b) = i := by
    show (theB (cur s c g e u n r ps vs bs b)).code.getLast?.getD instrZ = i
    rw [theB_cur, hb]
    exact getD_snoc _ _ _
  refine step_of (head_name h1 _) ?_
  rw [disp_obj]
  unfold objD
  rw [if_neg (by simp [hp]), take_name h1]
  simp only
  rw [take_each (fun y hy l => take_val (hI y hy) (List.all_eq_true.1 h3 y hy) l)]
  simp only
  rw [if_neg (by omega), hth, no_more (by omega), objP, inB_cur, hb, last_snoc]
  rfl

/-! ### many lines -/
theorem read_fields {m : Wd} (fs : List Var) : ∀ (d : List Var), (∀ v ∈ fs, varR v = true) → d.length + fs.length ≤ 8 →
    readW (⟨s, c ++ [⟨m, d⟩], g, e, u⟩, 4, lg) (fs.map (varL kField)) = some (⟨s, c ++ [⟨m, d ++ fs⟩], g, e, u⟩, 4, lg) := by
  induction fs with
  | nil => intro d _ _; simp [readW]
  | cons v fs ih =>
    intro d hv hl
    simp only [List.length_cons] at hl
    rw [List.map_cons, readW_cons (step_field (hv v (by simp)) (by omega)), ih _ (fun x hx => hv x (by simp [hx])) (by simp; omega)]
    simp
theorem out_4 : stB 4 519 = true := by decide
theorem read_classes (cs : List Class) : ∀ (c : List Class) (pl : Int), stB pl 519 = true → (∀ x ∈ cs, classR x = true) → c.length + cs.length ≤ 8 →
    ∃ pl2, stB pl2 519 = true ∧ readW (⟨s, c, g, e, u⟩, pl, lg) (cs.flatMap classLs) = some (⟨s, c ++ cs, g, e, u⟩, pl2, lg) := by
  induction cs with
  | nil => intro c pl hp _ _; exact ⟨pl, hp, by simp [readW]⟩
  | cons x cs ih =>
    intro c pl hp hR hl
    simp only [List.length_cons] at hl
    have hx := hR x (by simp)
    simp only [classR, allR, Bool.and_eq_true, decide_eq_true_eq, List.all_eq_true] at hx
    obtain ⟨pl2, h1, h2⟩ := ih (c ++ [x]) 4 out_4 (fun y hy => hR y (by simp [hy])) (by simp; omega)
    refine ⟨pl2, h1, ?_⟩
    rw [List.flatMap_cons]
    have hc : readW (⟨s, c, g, e, u⟩, pl, lg) (classLs x) = some (⟨s, c ++ [x], g, e, u⟩, 4, lg) := by
      unfold classLs
      rw [readW_cons (step_class hp hx.1 (by simp only; omega))]
      have := read_fields (s := s) (c := c) (g := g) (e := e) (u := u) (lg := lg) (m := x.name) x.fields [] hx.2.2 (by simp; exact hx.2.1)
      simpa using this
    rw [readW_app hc, h2]
    simp
theorem read_globals (vs : List Var) : ∀ (g : List Var) (pl : Int), stB pl 519 = true → (∀ x ∈ vs, varR x = true) → g.length + vs.length ≤ 8 →
    ∃ pl2, stB pl2 519 = true ∧ readW (⟨s, c, g, e, u⟩, pl, lg) (vs.map (varL kGlobal)) = some (⟨s, c, g ++ vs, e, u⟩, pl2, lg) := by
  induction vs with
  | nil => intro g pl hp _ _; exact ⟨pl, hp, by simp [readW]⟩
  | cons x vs ih =>
    intro g pl hp hR hl
    simp only [List.length_cons] at hl
    obtain ⟨pl2, h1, h2⟩ := ih (g ++ [x]) 2 (by decide) (fun y hy => hR y (by simp [hy])) (by simp; omega)
    refine ⟨pl2, h1, ?_⟩
    rw [List.map_cons, readW_cons (step_global hp (hR x (by simp)) (by simp only; omega)), h2]
    simp
theorem read_externs (vs : List Extern) : ∀ (e : List Extern) (pl : Int), stB pl 519 = true → (∀ x ∈ vs, externR x = true) → e.length + vs.length ≤ 8 →
    ∃ pl2, stB pl2 519 = true ∧ readW (⟨s, c, g, e, u⟩, pl, lg) (vs.map externL) = some (⟨s, c, g, e ++ vs, u⟩, pl2, lg) := by
  induction vs with
  | nil => intro g pl hp _ _; exact ⟨pl, hp, by simp [readW]⟩
  | cons x vs ih =>
    intro e pl hp hR hl
    simp only [List.length_cons] at hl
    obtain ⟨pl2, h1, h2⟩ := ih (e ++ [x]) 2 (by decide) (fun y hy => hR y (by simp [hy])) (by simp; omega)
    refine ⟨pl2, h1, ?_⟩
    rw [List.map_cons, readW_cons (step_extern hp (hR x (by simp)) (by simp only; omega)), h2]
    simp
theorem read_params (xs : List Var) : ∀ (ps : List Var), (∀ x ∈ xs, varR x = true) → ps.length + xs.length ≤ 6 →
    readW (⟨s, c, g, e, u ++ [⟨n, r, ps, [], []⟩]⟩, 8, lg) (xs.map (varL kParam)) = some (⟨s, c, g, e, u ++ [⟨n, r, ps ++ xs, [], []⟩]⟩, 8, lg) := by
  induction xs with
  | nil => intro ps _ _; simp [readW]
  | cons x xs ih =>
    intro ps hR hl
    simp only [List.length_cons] at hl
    rw [List.map_cons, readW_cons (step_param (hR x (by simp)) (by omega)), ih _ (fun y hy => hR y (by simp [hy])) (by simp; omega)]
    simp
theorem read_vars (xs : List Var) : ∀ (vs : List Var) (pl : Int), (pl = 8 ∨ pl = 16) → (∀ x ∈ xs, varR x = true) → vs.length + xs.length ≤ 1024 →
    ∃ pl2, (pl2 = 8 ∨ pl2 = 16) ∧ readW (⟨s, c, g, e, u ++ [⟨n, r, ps, vs, []⟩]⟩, pl, lg) (xs.map (varL kVar)) = some (⟨s, c, g, e, u ++ [⟨n, r, ps, vs ++ xs, []⟩]⟩, pl2, lg) := by
  induction xs with
  | nil => intro vs pl hp _ _; exact ⟨pl, hp, by simp [readW]⟩
  | cons x xs ih =>
    intro vs pl hp hR hl
    simp only [List.length_cons] at hl
    obtain ⟨pl2, h1, h2⟩ := ih (vs ++ [x]) 16 (.inr rfl) (fun y hy => hR y (by simp [hy])) (by simp; omega)
    refine ⟨pl2, h1, ?_⟩
    rw [List.map_cons, readW_cons (step_var (by rcases hp with rfl | rfl <;> decide) (hR x (by simp)) (by omega)), h2]
    simp
theorem read_phis (xs : List Phi) : ∀ (b : Api.Block) (lg : Int), (∀ x ∈ xs, phiR x = true ∧ phiI x) → lg + (xs.length : Int) ≤ 1024 →
    readW (cur s c g e u n r ps vs bs b, 32, lg) (xs.map phiL) = some (cur s c g e u n r ps vs bs { b with phis := b.phis ++ xs }, 32, lg + (xs.length : Int)) := by
  induction xs with
  | nil => intro b lg _ _; simp [readW]
  | cons x xs ih =>
    intro b lg hR hl
    simp only [List.length_cons] at hl
    have hx := hR x (by simp)
    rw [List.map_cons, readW_cons (step_phi hx.2 hx.1 (by omega)), ih _ _ (fun y hy => hR y (by simp [hy])) (by omega)]
    simp
    omega
theorem read_frames (xs : List Api.Frame) : ∀ (i : Instr) (b : Api.Block), b.code = k ++ [i] → (∀ x ∈ xs, frameR x = true ∧ ∀ b ∈ x.vars, argI b.a) → i.frames.length + xs.length ≤ 16 →
    readW (cur s c g e u n r ps vs bs b, 128, lg) (xs.map frameL) = some (cur s c g e u n r ps vs bs { b with code := k ++ [{ i with frames := i.frames ++ xs }] }, 128, lg) := by
  induction xs with
  | nil => intro i b hb _ _; simp [readW, ← hb]
  | cons x xs ih =>
    intro i b hb hR hl
    simp only [List.length_cons] at hl
    have hx := hR x (by simp)
    rw [List.map_cons, readW_cons (step_frame hx.2 hx.1 (by omega) hb), ih { i with frames := i.frames ++ [x] } _ rfl (fun y hy => hR y (by simp [hy])) (by simp; omega)]
    simp
theorem read_virts (xs : List Virt) : ∀ (i : Instr) (b : Api.Block) (pl : Int), (pl = 128 ∨ pl = 256) → b.code = k ++ [i] → (∀ x ∈ xs, virtR x = true ∧ ∀ a ∈ x.vals, argI a) → i.objs.length + xs.length ≤ 99 →
    ∃ pl2, (pl2 = 128 ∨ pl2 = 256) ∧ readW (cur s c g e u n r ps vs bs b, pl, lg) (xs.map virtL) = some (cur s c g e u n r ps vs bs { b with code := k ++ [{ i with objs := i.objs ++ xs }] }, pl2, lg) := by
  induction xs with
  | nil => intro i b pl hp hb _ _; exact ⟨pl, hp, by simp [readW, ← hb]⟩
  | cons x xs ih =>
    intro i b pl hp hb hR hl
    simp only [List.length_cons] at hl
    have hx := hR x (by simp)
    obtain ⟨pl2, h1, h2⟩ := ih { i with objs := i.objs ++ [x] } { b with code := k ++ [{ i with objs := i.objs ++ [x] }] } 256 (.inr rfl) rfl (fun y hy => hR y (by simp [hy])) (by simp; omega)
    refine ⟨pl2, h1, ?_⟩
    rw [List.map_cons, readW_cons (step_virt (by rcases hp with rfl | rfl <;> decide) hx.2 hx.1 (by omega) hb), h2]
    simp
theorem behind_in {op : Int} : stB (behindV op) 480 = true := by unfold behindV; split <;> decide
theorem read_ins {i : Instr} (hs : stB pl 480 = true) (hI : instrI i) (h : instrR i = true) (hl : lg < 1024) :
    ∃ pl2, stB pl2 480 = true ∧ readW (cur s c g e u n r ps vs bs b, pl, lg) (instrLs i) = some (cur s c g e u n r ps vs bs { b with code := b.code ++ [i] }, pl2, lg + 1) := by
  have hst : stateR i = true := by simp only [instrR, Bool.and_eq_true] at h; exact h.2.2.2.2.2
  have h1 := step_ins (s := s) (c := c) (g := g) (e := e) (u := u) (n := n) (r := r) (ps := ps) (vs := vs) (bs := bs) (b := b) hs hI.1 h hl
  unfold instrLs
  unfold stateR at hst
  split at hst
  · simp only [Bool.and_eq_true, decide_eq_true_eq] at hst
    have e1 := List.eq_nil_of_length_eq_zero hst.1
    have e2 := List.eq_nil_of_length_eq_zero hst.2
    clear hst
    refine ⟨behindV i.op, behind_in, ?_⟩
    rw [readW_cons h1, e1, e2]
    obtain ⟨a1, a2, a3, a4, a5, a6⟩ := i
    simp only at e1 e2
    subst e1 e2
    rfl
  · rename_i hop
    simp only [allR, Bool.and_eq_true, decide_eq_true_eq, List.all_eq_true] at hst
    obtain ⟨⟨f1, f2⟩, o1, o2⟩ := hst
    have hb : behindV i.op = 128 := by unfold behindV; rw [if_pos (by omega)]
    rw [hb] at h1
    have h2 := read_frames (s := s) (c := c) (g := g) (e := e) (u := u) (n := n) (r := r) (ps := ps) (vs := vs) (bs := bs) (lg := lg + 1) (k := b.code) i.frames { i with frames := [], objs := [] } { b with code := b.code ++ [{ i with frames := [], objs := [] }] } rfl (fun x hx => ⟨f2 x hx, hI.2.1 x hx⟩) (by simpa using f1)
    obtain ⟨pl2, hp, h3⟩ := read_virts (s := s) (c := c) (g := g) (e := e) (u := u) (n := n) (r := r) (ps := ps) (vs := vs) (bs := bs) (lg := lg + 1) (k := b.code) i.objs { i with objs := [] } { b with code := b.code ++ [{ i with objs := [] }] } 128 (.inl rfl) rfl (fun x hx => ⟨o2 x hx, hI.2.2 x hx⟩) (by simpa using o1)
    refine ⟨pl2, by rcases hp with rfl | rfl <;> decide, ?_⟩
    rw [readW_cons h1, readW_app h2]
    simp only [List.nil_append] at h3 ⊢
    exact h3
theorem read_code (xs : List Instr) : ∀ (b : Api.Block) (pl lg : Int), stB pl 480 = true → (∀ x ∈ xs, instrR x = true ∧ instrI x) → lg + (xs.length : Int) ≤ 1024 →
    ∃ pl2, stB pl2 480 = true ∧ readW (cur s c g e u n r ps vs bs b, pl, lg) (xs.flatMap instrLs) = some (cur s c g e u n r ps vs bs { b with code := b.code ++ xs }, pl2, lg + (xs.length : Int)) := by
  induction xs with
  | nil => intro b pl lg hp _ _; exact ⟨pl, hp, by simp [readW]⟩
  | cons x xs ih =>
    intro b pl lg hp hR hl
    simp only [List.length_cons] at hl
    have hx := hR x (by simp)
    obtain ⟨pl2, h1, h2⟩ := read_ins (s := s) (c := c) (g := g) (e := e) (u := u) (n := n) (r := r) (ps := ps) (vs := vs) (bs := bs) (b := b) hp hx.2 hx.1 (lg := lg) (by omega)
    obtain ⟨pl3, h3, h4⟩ := ih { b with code := b.code ++ [x] } pl2 (lg + 1) h1 (fun y hy => hR y (by simp [hy])) (by omega)
    refine ⟨pl3, h3, ?_⟩
    rw [List.flatMap_cons, readW_app h2, h4]
    simp
    omega
theorem fin_kind {t : Api.Term} (h : finR t = true) : 1 ≤ t.kind ∧ t.kind ≤ 4 := by
  unfold finR at h
  repeat' split at h
  all_goals first | omega | simp at h
theorem finLs_of {t : Api.Term} (h : finR t = true) : finLs t = [endL t] := by
  unfold finLs
  have := fin_kind h
  rw [if_neg (by omega)]
theorem read_block {x : Api.Block} (hp : stB pl 536 = true) (hR : blockR x = true) (hI : blockI x) (hb : bs.length < 256) (hl : lg + (longB x : Int) ≤ 1024) :
    readW (⟨s, c, g, e, u ++ [⟨n, r, ps, vs, bs⟩]⟩, pl, lg) (blockLs x) = some (cur s c g e u n r ps vs bs x, 512, lg + (longB x : Int)) := by
  simp only [blockR, allR, Bool.and_eq_true, decide_eq_true_eq, List.all_eq_true] at hR
  obtain ⟨h1, ⟨h2, h3⟩, ⟨h4, h5⟩, h6⟩ := hR
  unfold longB at hl ⊢
  unfold blockLs
  rw [finLs_of h6, readW_cons (step_block hp h1 hb)]
  have k1 := read_phis (s := s) (c := c) (g := g) (e := e) (u := u) (n := n) (r := r) (ps := ps) (vs := vs) (bs := bs) x.phis ⟨x.name, [], [], termZ⟩ lg (fun y hy => ⟨h3 y hy, hI.1 y hy⟩) (by omega)
  rw [readW_app k1]
  obtain ⟨pl2, k2, k3⟩ := read_code (s := s) (c := c) (g := g) (e := e) (u := u) (n := n) (r := r) (ps := ps) (vs := vs) (bs := bs) x.code ⟨x.name, [] ++ x.phis, [], termZ⟩ 32 (lg + x.phis.length) (by decide) (fun y hy => ⟨h5 y hy, hI.2.1 y hy⟩) (by omega)
  rw [readW_app k3, readW_cons (step_fin k2 hI.2.2 h6)]
  simp [readW]
  omega
theorem read_blocks (xs : List Api.Block) : ∀ (bs : List Api.Block) (pl lg : Int), stB pl 536 = true → (∀ x ∈ xs, blockR x = true ∧ blockI x) → bs.length + xs.length ≤ 256 → lg + (longF xs : Int) ≤ 1024 →
    ∃ pl2, (pl2 = 512 ∨ (xs = [] ∧ pl2 = pl)) ∧ readW (⟨s, c, g, e, u ++ [⟨n, r, ps, vs, bs⟩]⟩, pl, lg) (xs.flatMap blockLs) = some (⟨s, c, g, e, u ++ [⟨n, r, ps, vs, bs ++ xs⟩]⟩, pl2, lg + (longF xs : Int)) := by
  induction xs with
  | nil => intro bs pl lg hp _ _ _; exact ⟨pl, .inr ⟨rfl, rfl⟩, by simp [readW, longF]⟩
  | cons x xs ih =>
    intro bs pl lg hp hR hb hl
    have hlx : longF (x :: xs) = longB x + longF xs := by simp [longF]
    rw [hlx] at hl ⊢
    simp only [List.length_cons] at hb
    have hx := hR x (by simp)
    obtain ⟨pl3, h3, h4⟩ := ih (bs ++ [x]) 512 (lg + (longB x : Int)) (by decide) (fun y hy => hR y (by simp [hy])) (by simp; omega) (by omega)
    refine ⟨pl3, .inl ?_, ?_⟩
    · rcases h3 with h3 | ⟨_, h3⟩ <;> exact h3
    rw [List.flatMap_cons, readW_app (read_block hp hx.1 hx.2 (by omega) (by omega)), h4]
    simp
    omega
theorem read_func {x : Api.Func} (hp : stB pl 519 = true) (hR : funcR x = true) (hI : funcI x) (hl : u.length < 8) :
    ∃ lg2, readW (⟨s, c, g, e, u⟩, pl, lg) (funcLs x) = some (⟨s, c, g, e, u ++ [x]⟩, 512, lg2) := by
  simp only [funcR, allR, Bool.and_eq_true, decide_eq_true_eq, List.all_eq_true] at hR
  obtain ⟨h1, h2, ⟨h3, h4⟩, ⟨h5, h6⟩, ⟨h7, h8⟩, h9, h10⟩ := hR
  unfold funcLs
  rw [readW_cons (step_func hp h1 h2 hl), readW_app (read_params (s := s) (c := c) (g := g) (e := e) (u := u) (n := x.name) (r := x.result) (lg := 0) x.params [] h4 (by simpa using h3))]
  obtain ⟨pl2, k1, k2⟩ := read_vars (s := s) (c := c) (g := g) (e := e) (u := u) (n := x.name) (r := x.result) (ps := [] ++ x.params) (lg := 0) x.vars [] 8 (.inl rfl) h6 (by simpa using h5)
  rw [readW_app k2]
  obtain ⟨pl3, k3, k4⟩ := read_blocks (s := s) (c := c) (g := g) (e := e) (u := u) (n := x.name) (r := x.result) (ps := [] ++ x.params) (vs := [] ++ x.vars) x.blocks [] pl2 0 (by rcases k1 with rfl | rfl <;> decide) (fun y hy => ⟨h10 y hy, hI y hy⟩) (by simpa using h9) (by omega)
  have hpl : pl3 = 512 := by
    rcases k3 with k3 | ⟨k3, _⟩
    · exact k3
    · rw [k3] at h7; simp at h7
  subst hpl
  exact ⟨_, k4⟩
theorem read_funcs (xs : List Api.Func) : ∀ (u : List Api.Func) (pl lg : Int), stB pl 519 = true → (∀ x ∈ xs, funcR x = true ∧ funcI x) → u.length + xs.length ≤ 8 →
    ∃ pl2 lg2, stB pl2 519 = true ∧ readW (⟨s, c, g, e, u⟩, pl, lg) (xs.flatMap funcLs) = some (⟨s, c, g, e, u ++ xs⟩, pl2, lg2) := by
  induction xs with
  | nil => intro u pl lg hp _ _; exact ⟨pl, lg, hp, by simp [readW]⟩
  | cons x xs ih =>
    intro u pl lg hp hR hl
    simp only [List.length_cons] at hl
    have hx := hR x (by simp)
    obtain ⟨lg2, h1⟩ := read_func (s := s) (c := c) (g := g) (e := e) (u := u) (lg := lg) hp hx.1 hx.2 (by omega)
    obtain ⟨pl3, lg3, h3, h4⟩ := ih (u ++ [x]) 512 lg2 (by decide) (fun y hy => hR y (by simp [hy])) (by simp; omega)
    refine ⟨pl3, lg3, h3, ?_⟩
    rw [List.flatMap_cons, readW_app h1, h4]
    simp
end
/-- A right program's lines are read as it. -/
theorem read_there {p : Prog} (hR : progR p = true) (hI : progI p) : ∃ pl lg, readW (⟨false, [], [], [], []⟩, 1, 0) (progLs p) = some (p, pl, lg) ∧ stB pl 519 = true := by
  simp only [progR, allR, Bool.and_eq_true, decide_eq_true_eq, List.all_eq_true] at hR
  obtain ⟨⟨h1, h2⟩, ⟨h3, h4⟩, ⟨h5, h6⟩, h7, h8⟩ := hR
  have h0 : ∃ pl, stB pl 519 = true ∧ readW (⟨false, [], [], [], []⟩, 1, 0) (if p.ssa then [[kSsa]] else []) = some (⟨p.ssa, [], [], [], []⟩, pl, 0) := by
    cases p.ssa with
    | false => exact ⟨1, by decide, rfl⟩
    | true => exact ⟨2, by decide, by rw [if_pos rfl, readW_cons step_ssa]; rfl⟩
  obtain ⟨pl0, k0, r0⟩ := h0
  obtain ⟨pl1, k1, r1⟩ := read_classes (s := p.ssa) (g := []) (e := []) (u := []) (lg := 0) p.classes [] pl0 k0 h2 (by simpa using h1)
  obtain ⟨pl2, k2, r2⟩ := read_globals (s := p.ssa) (c := [] ++ p.classes) (e := []) (u := []) (lg := 0) p.globals [] pl1 k1 h4 (by simpa using h3)
  obtain ⟨pl3, k3, r3⟩ := read_externs (s := p.ssa) (c := [] ++ p.classes) (g := [] ++ p.globals) (u := []) (lg := 0) p.externs [] pl2 k2 h6 (by simpa using h5)
  obtain ⟨pl4, lg4, k4, r4⟩ := read_funcs (s := p.ssa) (c := [] ++ p.classes) (g := [] ++ p.globals) (e := [] ++ p.externs) p.funcs [] pl3 0 k3 (fun x hx => ⟨h8 x hx, hI x hx⟩) (by simpa using h7)
  refine ⟨pl4, lg4, ?_, k4⟩
  unfold progLs
  rw [readW_app r0, readW_app r1, readW_app r2, readW_app r3, r4]
  rfl
end Go.Proofs.YtdgmdpphimenjaaDoor.Rd5

/-
  What is read is right, and its lines are as long as those that were read.
-/
namespace Go.Proofs.YtdgmdpphimenjaaDoor.Rd5
open Go.RowKit Api Syn WordM Tree

variable {p p2 : Prog} {pl lg pl2 lg2 : Int} {l ws : List Wd}
/-! ### words -/
theorem name_inv {x : Wd} (h : takeName ws = some (x, l)) : ws = x :: l ∧ nameV x = true := by
  cases ws with
  | nil => cases h
  | cons y ws =>
    simp only [takeName] at h
    split at h
    · simp only [Option.some.injEq, Prod.mk.injEq] at h
      obtain ⟨rfl, rfl⟩ := h
      exact ⟨rfl, by assumption⟩
    · cases h
theorem kind_inv {x : Wd} (h : takeKind ws = some (x, l)) : ws = x :: l ∧ kindV x = true := by
  cases ws with
  | nil => cases h
  | cons y ws =>
    simp only [takeKind] at h
    split at h
    · simp only [Option.some.injEq, Prod.mk.injEq] at h
      obtain ⟨rfl, rfl⟩ := h
      exact ⟨rfl, by assumption⟩
    · cases h
theorem var_inv {v : Var} (h : takeVar ws = some (v, l)) : ws = v.name :: v.type :: l ∧ varR v = true := by
  unfold takeVar at h
  split at h
  · rename_i n l1 h1
    obtain ⟨rfl, hn⟩ := name_inv h1
    split at h
    · rename_i k l2 h2
      obtain ⟨rfl, hk⟩ := kind_inv h2
      simp only [Option.some.injEq, Prod.mk.injEq] at h
      obtain ⟨rfl, rfl⟩ := h
      exact ⟨rfl, by simp [varR, hn, hk]⟩
    · cases h
  · cases h
theorem num_inv {n : Int} (h : takeNum ws = some (n, l)) : ws = NumM.dec n :: l ∧ NumM.In n := by
  cases ws with
  | nil => cases h
  | cons y ws =>
    simp only [takeNum] at h
    split at h
    · rename_i hg
      simp only [Option.some.injEq, Prod.mk.injEq] at h
      obtain ⟨rfl, rfl⟩ := h
      obtain ⟨h1, h2⟩ := NumM.get_back y hg
      exact ⟨by rw [h2], h1⟩
    · cases h
theorem count_inv {n m : Int} (h : takeCount m ws = some (n, l)) : ws = NumM.dec n :: l ∧ 0 ≤ n ∧ n ≤ m := by
  unfold takeCount at h
  split at h
  · rename_i n1 l1 h1
    obtain ⟨rfl, hn⟩ := num_inv h1
    split at h
    · cases h
    · simp only [Option.some.injEq, Prod.mk.injEq] at h
      obtain ⟨rfl, rfl⟩ := h
      exact ⟨rfl, by omega, by omega⟩
  · cases h
theorem val_inv {a : Arg} (h : takeVal ws = some (a, l)) : ws = putA a :: l ∧ argR a = true ∧ argI a := by
  cases ws with
  | nil => cases h
  | cons y ws =>
    simp only [takeVal] at h
    split at h
    · rename_i hg
      simp only [Option.some.injEq, Prod.mk.injEq] at h
      obtain ⟨rfl, rfl⟩ := h
      have hg2 : (wget ⟨y.toArray⟩).2 = true := hg
      obtain ⟨h1, h2, h3⟩ := wget_back hg2
      have e : ofA (argV y).1 = (wget ⟨y.toArray⟩).1 := by
        unfold argV ofA
        simp only
      refine ⟨?_, ?_, h3⟩
      · unfold putA
        rw [e, h2]
      · unfold argR
        rw [e]
        exact h1
    · cases h
theorem arg_inv {a : Arg} (h : takeArg ws = some (a, l)) : ws = putA a :: l ∧ argX a = true ∧ argI a := by
  unfold takeArg at h
  split at h
  · rename_i a1 l1 h1
    obtain ⟨rfl, h2, h3⟩ := val_inv h1
    split at h
    · cases h
    · rename_i hk
      simp only [Option.some.injEq, Prod.mk.injEq] at h
      obtain ⟨rfl, rfl⟩ := h
      refine ⟨rfl, ?_, h3⟩
      unfold argX
      unfold argR at h2
      rw [h2]
      simp [hk]
  · cases h
theorem in_inv {b : Bind} (h : takeIn ws = some (b, l)) : ws = bindL b ++ l ∧ inR b = true ∧ argI b.a := by
  unfold takeIn at h
  split at h
  · rename_i n l1 h1
    obtain ⟨rfl, hn⟩ := name_inv h1
    split at h
    · rename_i k l2 h2
      obtain ⟨rfl, hk, hI⟩ := arg_inv h2
      simp only [Option.some.injEq, Prod.mk.injEq] at h
      obtain ⟨rfl, rfl⟩ := h
      exact ⟨rfl, by simp [inR, hn, hk], hI⟩
    · cases h
  · cases h
theorem bind_inv {b : Bind} (h : takeBind ws = some (b, l)) : ws = bindL b ++ l ∧ bindR b = true ∧ argI b.a := by
  unfold takeBind at h
  split at h
  · rename_i n l1 h1
    obtain ⟨rfl, hn⟩ := name_inv h1
    split at h
    · rename_i k l2 h2
      obtain ⟨rfl, hk, hI⟩ := val_inv h2
      simp only [Option.some.injEq, Prod.mk.injEq] at h
      obtain ⟨rfl, rfl⟩ := h
      exact ⟨rfl, by simp [bindR, hn, hk], hI⟩
    · cases h
  · cases h
theorem all_inv {β : Type} {take : List Wd → Option (β × List Wd)} {put : β → List Wd} {P : β → Prop} (hi : ∀ ws y l, take ws = some (y, l) → ws = put y ++ l ∧ P y) :
    ∀ (n : Nat) (ws : List Wd) (ys : List β), takeAll take n ws = some ys → ws = ys.flatMap put ∧ ∀ y ∈ ys, P y := by
  intro n
  induction n with
  | zero =>
    intro ws ys h
    cases ws with
    | nil => injection h with h; subst h; exact ⟨rfl, by simp⟩
    | cons x ws => cases h
  | succ n ih =>
    intro ws ys h
    cases ws with
    | nil => injection h with h; subst h; exact ⟨rfl, by simp⟩
    | cons x ws =>
      simp only [takeAll] at h
      cases ht : take (x :: ws) with
      | none => rw [ht] at h; cases h
      | some q =>
        obtain ⟨y, l⟩ := q
        rw [ht] at h
        simp only [Option.map_eq_some_iff] at h
        obtain ⟨ys2, h2, rfl⟩ := h
        obtain ⟨e, hp⟩ := hi _ _ _ ht
        obtain ⟨e2, hp2⟩ := ih _ _ h2
        refine ⟨by rw [e, e2]; rfl, fun z hz => ?_⟩
        rcases List.mem_cons.1 hz with rfl | hz
        · exact hp
        · exact hp2 z hz
theorem each_inv {take : List Wd → Option (Arg × List Wd)} {P : Arg → Prop} (hi : ∀ ws y l, take ws = some (y, l) → ws = putA y :: l ∧ P y) {n : Nat} {ys : List Arg} (h : takeAll take n ws = some ys) : ws = ys.map putA ∧ ∀ y ∈ ys, P y := by
  obtain ⟨e, hp⟩ := all_inv (put := fun a => [putA a]) hi n ws ys h
  refine ⟨?_, hp⟩
  rw [e, ← List.flatMap_singleton' (ys.map putA), List.flatMap_map]
theorem many_inv : ∀ (k : Nat) (ws : List Wd) (us : List Arg) (l : List Wd), takeN takeArg k ws = some (us, l) → ws = us.map putA ++ l ∧ us.length = k ∧ ∀ a ∈ us, argX a = true ∧ argI a := by
  intro k
  induction k with
  | zero =>
    intro ws us l h
    simp only [takeN, Option.some.injEq, Prod.mk.injEq] at h
    obtain ⟨rfl, rfl⟩ := h
    exact ⟨rfl, rfl, by simp⟩
  | succ k ih =>
    intro ws us l h
    simp only [takeN] at h
    cases h1 : takeArg ws with
    | none => rw [h1] at h; cases h
    | some q =>
      obtain ⟨a, l1⟩ := q
      rw [h1] at h
      simp only at h
      cases h2 : takeN takeArg k l1 with
      | none => rw [h2] at h; cases h
      | some q =>
        obtain ⟨us2, l2⟩ := q
        rw [h2] at h
        simp only [Option.some.injEq, Prod.mk.injEq] at h
        obtain ⟨rfl, rfl⟩ := h
        obtain ⟨rfl, hx, hI⟩ := arg_inv h1
        obtain ⟨rfl, hl, ha⟩ := ih _ _ _ h2
        refine ⟨rfl, by simp [hl], fun z hz => ?_⟩
        rcases List.mem_cons.1 hz with rfl | hz
        · exact ⟨hx, hI⟩
        · exact ha z hz

/-! ### what has been read -/
def FnOk (f : Api.Func) : Prop := funcR f = true ∧ funcI f
def HeadOk (n r : Wd) (ps vs : List Var) : Prop := nameV n = true ∧ kindV r = true ∧ allR 6 varR ps = true ∧ allR 1024 varR vs = true
def BlkOk (b : Api.Block) : Prop := nameV b.name = true ∧ (∀ x ∈ b.phis, phiR x = true ∧ phiI x) ∧ ∀ i ∈ b.code, instrR i = true ∧ instrI i
inductive Stage : List Api.Func → Int → Int → Prop
  | out {us : List Api.Func} {pl lg : Int} : (pl = 1 ∨ pl = 2 ∨ pl = 4) → us.length ≤ 8 → (∀ f ∈ us, FnOk f) → Stage us pl lg
  | head {u : List Api.Func} {n r : Wd} {ps vs : List Var} {pl : Int} : (pl = 8 ∨ pl = 16) → u.length < 8 → (∀ f ∈ u, FnOk f) → HeadOk n r ps vs → Stage (u ++ [⟨n, r, ps, vs, []⟩]) pl 0
  | body {u : List Api.Func} {n r : Wd} {ps vs : List Var} {bs : List Api.Block} {b : Api.Block} {pl lg : Int} : (pl = 32 ∨ pl = 64 ∨ pl = 128 ∨ pl = 256) → u.length < 8 → (∀ f ∈ u, FnOk f) → HeadOk n r ps vs →
      bs.length < 256 → (∀ x ∈ bs, blockR x = true ∧ blockI x) → BlkOk b → b.fin = termZ → lg = (longF bs : Int) + (longB b : Int) → lg ≤ 1024 →
      (128 ≤ pl → ∃ k i, b.code = k ++ [i] ∧ (i.op = 31 ∨ i.op = 34)) → Stage (u ++ [⟨n, r, ps, vs, bs ++ [b]⟩]) pl lg
  | done {u : List Api.Func} {f : Api.Func} {lg : Int} : u.length < 8 → (∀ g ∈ u, FnOk g) → FnOk f → lg = (longF f.blocks : Int) → Stage (u ++ [f]) 512 lg
theorem spot {us : List Api.Func} (hs : Stage us pl lg) : pl = 1 ∨ pl = 2 ∨ pl = 4 ∨ pl = 8 ∨ pl = 16 ∨ pl = 32 ∨ pl = 64 ∨ pl = 128 ∨ pl = 256 ∨ pl = 512 := by
  cases hs with
  | out hp => omega
  | head hp => omega
  | body hp => rcases hp with rfl | rfl | rfl | rfl <;> simp
  | done => simp
structure Open (p : Prog) (pl lg : Int) : Prop where
  c : allR 8 classR p.classes = true
  g : allR 8 varR p.globals = true
  e : allR 8 externR p.externs = true
  cls : (pl = 4 → p.classes ≠ []) ∧ (pl = 1 → p.ssa = false)
  st : Stage p.funcs pl lg
theorem Open.start : Open ⟨false, [], [], [], []⟩ 1 0 := ⟨by decide, by decide, by decide, ⟨by decide, fun _ => rfl⟩, .out (.inl rfl) (by simp) (by simp)⟩
theorem Stage.outs {us : List Api.Func} (h : Stage us pl lg) (hs : stB pl 519 = true) : us.length ≤ 8 ∧ ∀ f ∈ us, FnOk f := by
  cases h with
  | out _ h1 h2 => exact ⟨h1, h2⟩
  | head hp => rcases hp with rfl | rfl <;> exact absurd hs (by decide)
  | body hp => rcases hp with rfl | rfl | rfl | rfl <;> exact absurd hs (by decide)
  | done h1 h2 h3 =>
    refine ⟨by simp; omega, fun f hf => ?_⟩
    rcases List.mem_append.1 hf with hf | hf
    · exact h2 f hf
    · rw [List.mem_singleton.1 hf]; exact h3
/-- all is right, where a text may end. -/
theorem Open.right (h : Open p pl lg) (hs : stB pl 519 = true) : progR p = true ∧ progI p := by
  obtain ⟨h1, h2⟩ := h.st.outs hs
  refine ⟨?_, fun f hf => (h2 f hf).2⟩
  unfold progR
  rw [h.c, h.g, h.e]
  simp only [allR, Bool.true_and, Bool.and_eq_true, decide_eq_true_eq, List.all_eq_true]
  exact ⟨h1, fun f hf => (h2 f hf).1⟩
def wls (L : List (List Wd)) : Nat := (L.map LinesM.wlen).sum
def wp (p : Prog) : Nat := wls (progLs p)
theorem wls_append (a b : List (List Wd)) : wls (a ++ b) = wls a + wls b := by simp [wls]
theorem wls_cons (a : List Wd) (b : List (List Wd)) : wls (a :: b) = LinesM.wlen a + wls b := by simp [wls]
theorem wls_nil : wls [] = 0 := rfl
theorem wls_map {α : Type} (f : α → List Wd) (l : List α) (x : α) : wls ((l ++ [x]).map f) = wls (l.map f) + LinesM.wlen (f x) := by
  simp [wls]
theorem wls_flat {α : Type} (f : α → List (List Wd)) (l : List α) (x : α) : wls ((l ++ [x]).flatMap f) = wls (l.flatMap f) + wls (f x) := by
  rw [List.flatMap_append, List.flatMap_singleton, wls_append]
theorem wp_eq (p : Prog) : wp p = wls (if p.ssa then [[kSsa]] else []) + (wls (p.classes.flatMap classLs) + (wls (p.globals.map (varL kGlobal)) + (wls (p.externs.map externL) + wls (p.funcs.flatMap funcLs)))) := by
  unfold wp progLs
  simp only [wls_append]
theorem wf_eq (f : Api.Func) : wls (funcLs f) = LinesM.wlen [kFunc, f.name, f.result] + (wls (f.params.map (varL kParam)) + (wls (f.vars.map (varL kVar)) + wls (f.blocks.flatMap blockLs))) := by
  unfold funcLs
  simp only [wls_append, wls_cons]
theorem wb_eq (b : Api.Block) : wls (blockLs b) = LinesM.wlen [kBlock, b.name] + (wls (b.phis.map phiL) + (wls (b.code.flatMap instrLs) + wls (finLs b.fin))) := by
  unfold blockLs
  simp only [wls_append, wls_cons]
theorem wi_eq (i : Instr) : wls (instrLs i) = LinesM.wlen (instrL i) + (wls (i.frames.map frameL) + wls (i.objs.map virtL)) := by
  unfold instrLs
  simp only [wls_append, wls_cons]
theorem wc_eq (c : Class) : wls (classLs c) = LinesM.wlen [kClass, c.name] + wls (c.fields.map (varL kField)) := by
  unfold classLs
  simp only [wls_cons]
/-- What one line does to what has been read. -/
def Goes (p : Prog) (ws : List Wd) (p2 : Prog) (pl2 lg2 : Int) : Prop := Open p2 pl2 lg2 ∧ wp p2 = wp p + LinesM.wlen ws
theorem allR_snoc {α : Type} {f : α → Bool} {m : Nat} {l : List α} {x : α} (h : allR m f l = true) (hx : f x = true) (hl : l.length < m) : allR m f (l ++ [x]) = true := by
  simp only [allR, Bool.and_eq_true, decide_eq_true_eq, List.all_eq_true] at h ⊢
  refine ⟨by simp; omega, fun y hy => ?_⟩
  rcases List.mem_append.1 hy with hy | hy
  · exact h.2 y hy
  · rw [List.mem_singleton.1 hy]; exact hx
theorem allR_len {α : Type} {f : α → Bool} {m : Nat} {l : List α} (h : allR m f l = true) : l.length ≤ m := by
  simp only [allR, Bool.and_eq_true, decide_eq_true_eq] at h
  exact h.1
theorem allR_mem {α : Type} {f : α → Bool} {m : Nat} {l : List α} (h : allR m f l = true) : ∀ x ∈ l, f x = true := by
  simp only [allR, Bool.and_eq_true, List.all_eq_true] at h
  exact h.2
theorem of_not {b : Bool} (h : ¬ b = false) : b = true := by cases b <;> simp_all
theorem back_class (h : Open p pl lg) (e : classD p pl lg ws = some (p2, pl2, lg2, false, [])) : Goes p (kClass :: ws) p2 pl2 lg2 := by
  unfold classD at e
  split at e
  · cases e
  · rename_i hs
    have hs := of_not hs
    cases hn : takeName ws with
    | none => rw [hn] at e; cases e
    | some q =>
      obtain ⟨x, l⟩ := q
      rw [hn] at e
      simp only [Option.some.injEq, Prod.mk.injEq, decide_eq_false_iff_not] at e
      obtain ⟨rfl, rfl, rfl, hl, rfl⟩ := e
      obtain ⟨rfl, hx⟩ := name_inv hn
      obtain ⟨o1, o2⟩ := h.st.outs hs
      refine ⟨⟨allR_snoc h.c (by simp [classR, hx, allR]) (by omega), h.g, h.e, by simp, .out (.inr (.inr rfl)) o1 o2⟩, ?_⟩
      rw [wp_eq, wp_eq]
      simp only
      rw [wls_flat, wc_eq]
      simp only [List.map_nil, wls_nil]
      omega
theorem back_global (h : Open p pl lg) (e : globalD p pl lg ws = some (p2, pl2, lg2, false, [])) : Goes p (kGlobal :: ws) p2 pl2 lg2 := by
  unfold globalD at e
  split at e
  · cases e
  · rename_i hs
    have hs := of_not hs
    cases hn : takeVar ws with
    | none => rw [hn] at e; cases e
    | some q =>
      obtain ⟨x, l⟩ := q
      rw [hn] at e
      simp only [Option.some.injEq, Prod.mk.injEq, decide_eq_false_iff_not] at e
      obtain ⟨rfl, rfl, rfl, hl, rfl⟩ := e
      obtain ⟨rfl, hx⟩ := var_inv hn
      obtain ⟨o1, o2⟩ := h.st.outs hs
      refine ⟨⟨h.c, allR_snoc h.g hx (by omega), h.e, by simp, .out (.inr (.inl rfl)) o1 o2⟩, ?_⟩
      rw [wp_eq, wp_eq]
      simp only
      rw [wls_map]
      unfold varL
      omega
theorem back_extern (h : Open p pl lg) (e : externD p pl lg ws = some (p2, pl2, lg2, false, [])) : Goes p (kExtern :: ws) p2 pl2 lg2 := by
  unfold externD at e
  split at e
  · cases e
  · rename_i hs
    have hs := of_not hs
    cases hn : takeName ws with
    | none => rw [hn] at e; cases e
    | some q =>
      obtain ⟨x, l⟩ := q
      rw [hn] at e
      simp only at e
      cases hc : takeCount 8 l with
      | none => rw [hc] at e; cases e
      | some q =>
        obtain ⟨n, l⟩ := q
        rw [hc] at e
        simp only [Option.some.injEq, Prod.mk.injEq, decide_eq_false_iff_not] at e
        obtain ⟨rfl, rfl, rfl, hl, rfl⟩ := e
        obtain ⟨rfl, hx⟩ := name_inv hn
        obtain ⟨rfl, hc1, hc2⟩ := count_inv hc
        obtain ⟨o1, o2⟩ := h.st.outs hs
        refine ⟨⟨h.c, h.g, allR_snoc h.e (by simp [externR, hx, hc1, hc2]) (by omega), by simp, .out (.inr (.inl rfl)) o1 o2⟩, ?_⟩
        rw [wp_eq, wp_eq]
        simp only
        rw [wls_map]
        show _ + (_ + (_ + (_ + LinesM.wlen [kExtern, x, NumM.dec n] + _))) = _ + LinesM.wlen [kExtern, x, NumM.dec n]
        omega
theorem back_func (h : Open p pl lg) (e : funcD p pl lg ws = some (p2, pl2, lg2, false, [])) : Goes p (kFunc :: ws) p2 pl2 lg2 := by
  unfold funcD at e
  split at e
  · cases e
  · rename_i hs
    have hs := of_not hs
    cases hn : takeName ws with
    | none => rw [hn] at e; cases e
    | some q =>
      obtain ⟨x, l⟩ := q
      rw [hn] at e
      simp only at e
      cases hc : takeKind l with
      | none => rw [hc] at e; cases e
      | some q =>
        obtain ⟨n, l⟩ := q
        rw [hc] at e
        simp only [Option.some.injEq, Prod.mk.injEq, decide_eq_false_iff_not] at e
        obtain ⟨rfl, rfl, rfl, hl, rfl⟩ := e
        obtain ⟨rfl, hx⟩ := name_inv hn
        obtain ⟨rfl, hk⟩ := kind_inv hc
        obtain ⟨o1, o2⟩ := h.st.outs hs
        refine ⟨⟨h.c, h.g, h.e, by simp, .head (.inl rfl) (by omega) o2 ⟨hx, hk, by decide, by decide⟩⟩, ?_⟩
        rw [wp_eq, wp_eq]
        simp only
        rw [wls_flat, wf_eq]
        simp only [List.map_nil, wls_nil, List.flatMap_nil]
        omega
theorem back_field (h : Open p pl lg) (e : fieldD p pl lg ws = some (p2, pl2, lg2, false, [])) : Goes p (kField :: ws) p2 pl2 lg2 := by
  unfold fieldD at e
  split at e
  · cases e
  · rename_i hs
    have hs := of_not hs
    have hpl : pl = 4 := by
      rcases spot h.st with rfl | rfl | rfl | rfl | rfl | rfl | rfl | rfl | rfl | rfl <;> first | rfl | exact absurd hs (by decide)
    cases hn : takeVar ws with
    | none => rw [hn] at e; cases e
    | some q =>
      obtain ⟨x, l⟩ := q
      rw [hn] at e
      simp only [Option.some.injEq, Prod.mk.injEq, decide_eq_false_iff_not] at e
      obtain ⟨rfl, rfl, rfl, hl, rfl⟩ := e
      obtain ⟨rfl, hx⟩ := var_inv hn
      obtain ⟨s, c, g, ex, u⟩ := p
      have hc := h.c
      have hne := h.cls.1 hpl
      simp only at hc hne hl ⊢
      rcases List.eq_nil_or_concat c with rfl | ⟨c0, k, rfl⟩
      · exact absurd rfl hne
      rw [List.concat_eq_append] at hl hc hne ⊢
      rw [getD_snoc] at hl
      rw [last_snoc]
      have hk := allR_mem hc k (by simp)
      simp only [classR, Bool.and_eq_true] at hk
      refine ⟨⟨?_, h.g, h.e, ⟨by simp, by omega⟩, h.st⟩, ?_⟩
      · simp only [allR, Bool.and_eq_true, decide_eq_true_eq, List.all_eq_true]
        have := allR_len hc
        refine ⟨by simpa using this, fun y hy => ?_⟩
        rcases List.mem_append.1 hy with hy | hy
        · exact allR_mem hc y (by simp [hy])
        · rw [List.mem_singleton.1 hy]
          simp only [classR, Bool.and_eq_true]
          exact ⟨hk.1, allR_snoc hk.2 hx (by omega)⟩
      · rw [wp_eq, wp_eq]
        simp only
        rw [wls_flat, wls_flat, wc_eq, wc_eq]
        simp only
        rw [wls_map]
        unfold varL
        omega
theorem back_ssa (h : Open p pl lg) (e : ssaD p pl lg false ws = some (p2, pl2, lg2, false, [])) : Goes p (kSsa :: ws) p2 pl2 lg2 := by
  unfold ssaD at e
  split at e
  · cases e
  · rename_i hs
    have hs := of_not hs
    have hpl : pl = 1 := by
      rcases spot h.st with rfl | rfl | rfl | rfl | rfl | rfl | rfl | rfl | rfl | rfl <;> first | rfl | exact absurd hs (by decide)
    simp only [Option.some.injEq, Prod.mk.injEq] at e
    obtain ⟨rfl, rfl, rfl, -, rfl⟩ := e
    obtain ⟨o1, o2⟩ := h.st.outs (by rw [hpl]; decide)
    refine ⟨⟨h.c, h.g, h.e, by simp, .out (.inr (.inl rfl)) o1 o2⟩, ?_⟩
    rw [wp_eq, wp_eq]
    simp only
    rw [h.cls.2 hpl]
    show wls [[kSsa]] + _ = wls [] + _ + _
    rw [wls_cons, wls_nil]
    omega
theorem back_param (h : Open p pl lg) (e : paramD p pl lg ws = some (p2, pl2, lg2, false, [])) : Goes p (kParam :: ws) p2 pl2 lg2 := by
  unfold paramD at e
  split at e
  · cases e
  · rename_i hs
    have hs := of_not hs
    cases hn : takeVar ws with
    | none => rw [hn] at e; cases e
    | some q =>
      obtain ⟨x, l⟩ := q
      rw [hn] at e
      simp only [Option.some.injEq, Prod.mk.injEq, decide_eq_false_iff_not] at e
      obtain ⟨rfl, rfl, rfl, hl, rfl⟩ := e
      obtain ⟨rfl, hx⟩ := var_inv hn
      obtain ⟨s, c, g, ex, us⟩ := p
      have hst := h.st
      simp only at hst hl ⊢
      cases hst with
      | out hp => rcases hp with rfl | rfl | rfl <;> exact absurd hs (by decide)
      | body hp => rcases hp with rfl | rfl | rfl | rfl <;> exact absurd hs (by decide)
      | done => exact absurd hs (by decide)
      | @head u n r ps vs pl hp hu hf hh =>
        rw [getD_snoc] at hl
        rw [last_snoc]
        obtain ⟨h1, h2, h3, h4⟩ := hh
        refine ⟨⟨h.c, h.g, h.e, ⟨fun h => by omega, fun h => by omega⟩, .head hp hu hf ⟨h1, h2, allR_snoc h3 hx (show ps.length < 6 by replace hl : ¬ (6 : Int) < ((ps.length + 1 : Nat) : Int) := hl; omega), h4⟩⟩, ?_⟩
        rw [wp_eq, wp_eq]
        simp only
        rw [wls_flat, wls_flat, wf_eq, wf_eq]
        simp only
        rw [wls_map]
        unfold varL
        omega
theorem back_var (h : Open p pl lg) (e : varD p pl lg ws = some (p2, pl2, lg2, false, [])) : Goes p (kVar :: ws) p2 pl2 lg2 := by
  unfold varD at e
  split at e
  · cases e
  · rename_i hs
    have hs := of_not hs
    cases hn : takeVar ws with
    | none => rw [hn] at e; cases e
    | some q =>
      obtain ⟨x, l⟩ := q
      rw [hn] at e
      simp only [Option.some.injEq, Prod.mk.injEq, decide_eq_false_iff_not] at e
      obtain ⟨rfl, rfl, rfl, hl, rfl⟩ := e
      obtain ⟨rfl, hx⟩ := var_inv hn
      obtain ⟨s, c, g, ex, us⟩ := p
      have hst := h.st
      simp only at hst hl ⊢
      cases hst with
      | out hp => rcases hp with rfl | rfl | rfl <;> exact absurd hs (by decide)
      | body hp => rcases hp with rfl | rfl | rfl | rfl <;> exact absurd hs (by decide)
      | done => exact absurd hs (by decide)
      | @head u n r ps vs pl hp hu hf hh =>
        rw [getD_snoc] at hl
        rw [last_snoc]
        obtain ⟨h1, h2, h3, h4⟩ := hh
        refine ⟨⟨h.c, h.g, h.e, by simp, .head (.inr rfl) hu hf ⟨h1, h2, h3, allR_snoc h4 hx (show vs.length < 1024 by replace hl : ¬ (1024 : Int) < ((vs.length + 1 : Nat) : Int) := hl; omega)⟩⟩, ?_⟩
        rw [wp_eq, wp_eq]
        simp only
        rw [wls_flat, wls_flat, wf_eq, wf_eq]
        simp only
        rw [wls_map]
        unfold varL
        omega
theorem longB_new (x : Wd) : longB ⟨x, [], [], termZ⟩ = 0 := rfl
theorem wb_new (x : Wd) : wls (blockLs ⟨x, [], [], termZ⟩) = LinesM.wlen [kBlock, x] := by
  rw [wb_eq]
  simp only [List.map_nil, List.flatMap_nil, wls_nil]
  rw [show finLs termZ = [] from rfl, wls_nil]
  omega
theorem back_block (h : Open p pl lg) (e : blockD p pl lg ws = some (p2, pl2, lg2, false, [])) : Goes p (kBlock :: ws) p2 pl2 lg2 := by
  unfold blockD at e
  split at e
  · cases e
  · rename_i hs
    have hs := of_not hs
    cases hn : takeName ws with
    | none => rw [hn] at e; cases e
    | some q =>
      obtain ⟨x, l⟩ := q
      rw [hn] at e
      simp only [Option.some.injEq, Prod.mk.injEq, decide_eq_false_iff_not] at e
      obtain ⟨rfl, rfl, rfl, hl, rfl⟩ := e
      obtain ⟨rfl, hx⟩ := name_inv hn
      obtain ⟨s, c, g, ex, us⟩ := p
      have hst := h.st
      simp only at hst hl ⊢
      cases hst with
      | out hp => rcases hp with rfl | rfl | rfl <;> exact absurd hs (by decide)
      | body hp => rcases hp with rfl | rfl | rfl | rfl <;> exact absurd hs (by decide)
      | @head u n r ps vs pl hp hu hf hh =>
        rw [getD_snoc] at hl
        rw [last_snoc]
        refine ⟨⟨h.c, h.g, h.e, by simp, ?_⟩, ?_⟩
        · exact .body (bs := []) (.inl rfl) hu hf hh (by simp) (by simp) ⟨hx, by simp, by simp⟩ rfl (by simp [longF, longB]) (by omega) (by omega)
        · rw [wp_eq, wp_eq]
          simp only
          rw [wls_flat, wls_flat, wf_eq, wf_eq]
          simp only
          rw [wls_flat, wb_new]
          omega
      | @done u f lg hu hg hf hlg =>
        obtain ⟨n, r, ps, vs, bs⟩ := f
        rw [getD_snoc] at hl
        rw [last_snoc]
        have hfr := hf.1
        simp only [funcR, allR, Bool.and_eq_true, decide_eq_true_eq, List.all_eq_true] at hfr
        obtain ⟨h1, h2, h3, h5, ⟨h7, h8⟩, h9, h10⟩ := hfr
        have hI : ∀ b ∈ bs, blockI b := hf.2
        replace hl : ¬ (256 : Int) < ((bs.length + 1 : Nat) : Int) := hl
        replace hlg : lg = (longF bs : Int) := hlg
        refine ⟨⟨h.c, h.g, h.e, by simp, ?_⟩, ?_⟩
        · refine .body (.inl rfl) hu hg ⟨h1, h2, ?_, ?_⟩ (show bs.length < 256 by omega) (fun y hy => ⟨h10 y hy, hI y hy⟩) ⟨hx, by simp, by simp⟩ rfl (show lg = (longF bs : Int) + (longB ⟨x, [], [], termZ⟩ : Int) by rw [longB_new]; omega) (by replace h8 : longF bs ≤ 1024 := h8; omega) (by omega)
          · simp only [allR, Bool.and_eq_true, decide_eq_true_eq, List.all_eq_true]; exact h3
          · simp only [allR, Bool.and_eq_true, decide_eq_true_eq, List.all_eq_true]; exact h5
        · rw [wp_eq, wp_eq]
          simp only
          rw [wls_flat, wls_flat, wf_eq, wf_eq]
          simp only
          rw [wls_flat, wb_new]
          omega
theorem wlen_cons (x : Wd) (l : List Wd) : LinesM.wlen (x :: l) = x.length + 1 + LinesM.wlen l := by simp [LinesM.wlen]
section
variable {s : Bool} {c : List Class} {g : List Var} {e : List Extern} {u : List Api.Func} {n r : Wd} {ps vs : List Var} {bs : List Api.Block} {b b2 : Api.Block} {k : List Instr} {i : Instr}
theorem wp_cur (h : wls (blockLs b2) = wls (blockLs b) + LinesM.wlen ws) : wp (cur s c g e u n r ps vs bs b2) = wp (cur s c g e u n r ps vs bs b) + LinesM.wlen ws := by
  rw [wp_eq, wp_eq]
  simp only
  rw [wls_flat, wls_flat, wf_eq, wf_eq]
  simp only
  rw [wls_flat, wls_flat, h]
  omega
theorem lastB_cur : lastB (cur s c g e u n r ps vs bs b) = bs ++ [b] := by
  show ((u ++ [_]).getLast?.getD funcZ).blocks = bs ++ [b]
  rw [getD_snoc]
end
/-- where a line of a block may stand. -/
theorem Open.inner (h : Open p pl lg) (hs : stB pl 480 = true) : ∃ u n r ps vs bs b, p = cur p.ssa p.classes p.globals p.externs u n r ps vs bs b ∧ (pl = 32 ∨ pl = 64 ∨ pl = 128 ∨ pl = 256) ∧ u.length < 8 ∧ (∀ f ∈ u, FnOk f) ∧ HeadOk n r ps vs ∧
    bs.length < 256 ∧ (∀ x ∈ bs, blockR x = true ∧ blockI x) ∧ BlkOk b ∧ b.fin = termZ ∧ lg = (longF bs : Int) + (longB b : Int) ∧ lg ≤ 1024 ∧
      (128 ≤ pl → ∃ k i, b.code = k ++ [i] ∧ (i.op = 31 ∨ i.op = 34)) := by
  obtain ⟨s, c, g, e, us⟩ := p
  have hst := h.st
  simp only at hst ⊢
  cases hst with
  | out hp => rcases hp with rfl | rfl | rfl <;> exact absurd hs (by decide)
  | head hp => rcases hp with rfl | rfl <;> exact absurd hs (by decide)
  | done => exact absurd hs (by decide)
  | body h1 h2 h3 h4 h5 h6 h7 h8 h9 h10 h11 => exact ⟨_, _, _, _, _, _, _, rfl, h1, h2, h3, h4, h5, h6, h7, h8, h9, h10, h11⟩
theorem back_end {t : Api.Term} (h : Open p pl lg) (hR : finR t = true) (hI : finI t) (e : endD p pl lg false t l = some (p2, pl2, lg2, false, [])) : l = [] ∧ Goes p (endL t) p2 pl2 lg2 := by
  unfold endD at e
  split at e
  · cases e
  · rename_i hs
    have hs := of_not hs
    simp only [Option.some.injEq, Prod.mk.injEq] at e
    obtain ⟨rfl, rfl, rfl, -, rfl⟩ := e
    refine ⟨rfl, ?_⟩
    obtain ⟨u, n, r, ps, vs, bs, b, hp, hpl, hu, hf, hh, hb, hbs, hbk, hfin, hlg, hmax, _⟩ := h.inner hs
    have hc := h.c
    have hg := h.g
    have he := h.e
    generalize p.ssa = s at hp
    generalize p.classes = c at hp hc
    generalize p.globals = g at hp hg
    generalize p.externs = ex at hp he
    subst hp
    have e1 : finP (cur s c g ex u n r ps vs bs b) t = cur s c g ex u n r ps vs bs { b with fin := t } := inB_cur fun b => { b with fin := t }
    rw [e1]
    obtain ⟨h1, h2, h3⟩ := hbk
    have hbR : blockR { b with fin := t } = true := by
      simp only [blockR, allR, Bool.and_eq_true, decide_eq_true_eq, List.all_eq_true]
      unfold longB at hlg
      exact ⟨h1, ⟨by omega, fun x hx => (h2 x hx).1⟩, ⟨by omega, fun x hx => (h3 x hx).1⟩, hR⟩
    have hbI : blockI { b with fin := t } := ⟨fun x hx => (h2 x hx).2, fun x hx => (h3 x hx).2, hI⟩
    have hall : ∀ x ∈ bs ++ [{ b with fin := t }], blockR x = true ∧ blockI x := by
      intro x hx
      rcases List.mem_append.1 hx with hx | hx
      · exact hbs x hx
      · rw [List.mem_singleton.1 hx]; exact ⟨hbR, hbI⟩
    have hlong : longF (bs ++ [{ b with fin := t }]) = longF bs + longB b := by simp [longF, longB]
    obtain ⟨k1, k2, k3, k4⟩ := hh
    refine ⟨⟨hc, hg, he, by simp, .done hu hf ⟨?_, fun x hx => (hall x hx).2⟩ ?_⟩, wp_cur ?_⟩
    · simp only [funcR, Bool.and_eq_true, decide_eq_true_eq]
      refine ⟨k1, k2, k3, k4, ⟨by simp, by omega⟩, ?_⟩
      simp only [allR, Bool.and_eq_true, decide_eq_true_eq, List.all_eq_true]
      exact ⟨by simp; omega, fun x hx => (hall x hx).1⟩
    · simp only
      rw [hlong]
      omega
    · rw [wb_eq, wb_eq, finLs_of hR, hfin]
      rw [show finLs termZ = [] from rfl]
      simp only [wls_cons, wls_nil]
      omega
theorem back_jump (h : Open p pl lg) (e : jumpD p pl lg false ws = some (p2, pl2, lg2, false, [])) : Goes p (kJump :: ws) p2 pl2 lg2 := by
  unfold jumpD at e
  cases hn : takeName ws with
  | none => rw [hn] at e; cases e
  | some q =>
    obtain ⟨x, l⟩ := q
    rw [hn] at e
    obtain ⟨rfl, hx⟩ := name_inv hn
    obtain ⟨rfl, hg⟩ := back_end h (by simp [finR, destsR, hx, argN, argZ]) ⟨by show NumM.In 0; unfold NumM.In; omega, by show NumM.In 0; unfold NumM.In; omega⟩ e
    exact hg
theorem back_ret (h : Open p pl lg) (e : retD p pl lg false ws = some (p2, pl2, lg2, false, [])) : Goes p (kRet :: ws) p2 pl2 lg2 := by
  unfold retD at e
  cases hn : takeArg ws with
  | none => rw [hn] at e; cases e
  | some q =>
    obtain ⟨x, l⟩ := q
    rw [hn] at e
    obtain ⟨rfl, hx, hI⟩ := arg_inv hn
    obtain ⟨rfl, hg⟩ := back_end h (by simp [finR, destsR, hx]) ⟨hI, by show NumM.In 0; unfold NumM.In; omega⟩ e
    exact hg
theorem back_trap (h : Open p pl lg) (e : trapD p pl lg false ws = some (p2, pl2, lg2, false, [])) : Goes p (kTrap :: ws) p2 pl2 lg2 := by
  unfold trapD at e
  cases hn : takeNum ws with
  | none => rw [hn] at e; cases e
  | some q =>
    obtain ⟨x, l⟩ := q
    rw [hn] at e
    obtain ⟨rfl, hI⟩ := num_inv hn
    obtain ⟨rfl, hg⟩ := back_end h (by simp [finR, destsR, argN, argZ]) ⟨by show NumM.In 0; unfold NumM.In; omega, hI⟩ e
    exact hg
theorem back_branch (h : Open p pl lg) (e : branchD p pl lg false ws = some (p2, pl2, lg2, false, [])) : Goes p (kBranch :: ws) p2 pl2 lg2 := by
  unfold branchD at e
  cases hn : takeArg ws with
  | none => rw [hn] at e; cases e
  | some q =>
    obtain ⟨x, l⟩ := q
    rw [hn] at e
    simp only at e
    cases h2 : takeName l with
    | none => rw [h2] at e; cases e
    | some q =>
      obtain ⟨y, l⟩ := q
      rw [h2] at e
      simp only at e
      cases h3 : takeName l with
      | none => rw [h3] at e; cases e
      | some q =>
        obtain ⟨z, l⟩ := q
        rw [h3] at e
        obtain ⟨rfl, hx, hI⟩ := arg_inv hn
        obtain ⟨rfl, hy⟩ := name_inv h2
        obtain ⟨rfl, hz⟩ := name_inv h3
        obtain ⟨rfl, hg⟩ := back_end h (by simp [finR, destsR, hx, hy, hz]) ⟨hI, by show NumM.In 0; unfold NumM.In; omega⟩ e
        exact hg
/-- a line within a block: what is said of the block then. -/
theorem back_blk {b2 : Api.Block} {u : List Api.Func} {n r : Wd} {ps vs : List Var} {bs : List Api.Block} {b : Api.Block} {s : Bool} {c : List Class} {g : List Var} {ex : List Extern} (h : Open (cur s c g ex u n r ps vs bs b) pl lg) (hpl2 : pl2 = 32 ∨ pl2 = 64 ∨ pl2 = 128 ∨ pl2 = 256) (hu : u.length < 8) (hf : ∀ f ∈ u, FnOk f) (hh : HeadOk n r ps vs)
    (hb : bs.length < 256) (hbs : ∀ x ∈ bs, blockR x = true ∧ blockI x) (hk : BlkOk b2) (hfin : b2.fin = termZ) (hlg : lg2 = (longF bs : Int) + (longB b2 : Int)) (hmax : lg2 ≤ 1024) (hst : 128 ≤ pl2 → ∃ k i, b2.code = k ++ [i] ∧ (i.op = 31 ∨ i.op = 34))
    (hw : wls (blockLs b2) = wls (blockLs b) + LinesM.wlen ws) : Goes (cur s c g ex u n r ps vs bs b) ws (cur s c g ex u n r ps vs bs b2) pl2 lg2 :=
  ⟨⟨h.c, h.g, h.e, ⟨fun h => by omega, fun h => by omega⟩, .body hpl2 hu hf hh hb hbs hk hfin hlg hmax hst⟩, wp_cur hw⟩
theorem back_phi (h : Open p pl lg) (e : phiD p pl lg false ws = some (p2, pl2, lg2, false, [])) : Goes p (kPhi :: ws) p2 pl2 lg2 := by
  unfold phiD at e
  split at e
  · cases e
  · rename_i hs
    have hs := of_not hs
    have hpl : pl = 32 := by
      rcases spot h.st with rfl | rfl | rfl | rfl | rfl | rfl | rfl | rfl | rfl | rfl <;> first | rfl | exact absurd hs (by decide)
    cases hn : takeName ws with
    | none => rw [hn] at e; cases e
    | some q =>
      obtain ⟨x, l⟩ := q
      rw [hn] at e
      simp only at e
      cases h2 : takeIn l with
      | none => rw [h2] at e; cases e
      | some q =>
        obtain ⟨y, l⟩ := q
        rw [h2] at e
        simp only at e
        cases h3 : takeAll takeIn l.length l with
        | none => rw [h3] at e; cases e
        | some zs =>
          rw [h3] at e
          simp only [Option.some.injEq, Prod.mk.injEq, Bool.or_eq_false_iff, decide_eq_false_iff_not] at e
          obtain ⟨rfl, rfl, rfl, ⟨⟨-, hm⟩, hm2⟩, -⟩ := e
          obtain ⟨rfl, hx⟩ := name_inv hn
          obtain ⟨rfl, hy, hyI⟩ := in_inv h2
          obtain ⟨hl, hz⟩ := all_inv (put := bindL) (P := fun b => inR b = true ∧ argI b.a) (fun _ _ _ h => in_inv h) _ _ _ h3
          obtain ⟨u, n, r, ps, vs, bs, b, hp, hpl1, hu, hf, hh, hb, hbs, hbk, hfin, hlg, hmax, _⟩ := h.inner (by rw [hpl]; decide)
          generalize p.ssa = s at hp
          generalize p.classes = c at hp
          generalize p.globals = g at hp
          generalize p.externs = ex at hp
          subst hp
          rw [phiP, inB_cur]
          obtain ⟨b1, b2, b3⟩ := hbk
          refine back_blk h hpl1 hu hf hh hb hbs ⟨b1, ?_, b3⟩ hfin ?_ (by omega) (by omega) ?_
          · intro z hz1
            rcases List.mem_append.1 hz1 with hz1 | hz1
            · exact b2 z hz1
            · rw [List.mem_singleton.1 hz1]
              refine ⟨?_, ?_⟩
              · simp only [phiR, allR, Bool.and_eq_true, decide_eq_true_eq, List.all_eq_true]
                refine ⟨hx, by simp, by omega, fun q hq => ?_⟩
                rcases List.mem_cons.1 hq with rfl | hq
                · exact hy
                · exact (hz q hq).1
              · intro q hq
                rcases List.mem_cons.1 hq with rfl | hq
                · exact hyI
                · exact (hz q hq).2
          · unfold longB at hlg ⊢
            simp only [List.length_append, List.length_singleton]
            omega
          · rw [wb_eq, wb_eq]
            simp only
            rw [wls_map]
            unfold phiL
            simp only [List.flatMap_cons]
            rw [← hl]
            omega
theorem back_frm (h : Open p pl lg) (e : frmD p pl lg false ws = some (p2, pl2, lg2, false, [])) : Goes p (kAt :: ws) p2 pl2 lg2 := by
  unfold frmD at e
  split at e
  · cases e
  · rename_i hs
    have hs := of_not hs
    have hpl : pl = 128 := by
      rcases spot h.st with rfl | rfl | rfl | rfl | rfl | rfl | rfl | rfl | rfl | rfl <;> first | rfl | exact absurd hs (by decide)
    cases hn : takeName ws with
    | none => rw [hn] at e; cases e
    | some q =>
      obtain ⟨x, l⟩ := q
      rw [hn] at e
      simp only at e
      cases h2 : takeName l with
      | none => rw [h2] at e; cases e
      | some q =>
        obtain ⟨y, l⟩ := q
        rw [h2] at e
        simp only at e
        cases h4 : takeCount 1024 l with
        | none => rw [h4] at e; cases e
        | some q =>
          obtain ⟨m, l⟩ := q
          rw [h4] at e
          simp only at e
          cases h3 : takeAll takeBind l.length l with
          | none => rw [h3] at e; cases e
          | some zs =>
            rw [h3] at e
            simp only [Option.some.injEq, Prod.mk.injEq, Bool.or_eq_false_iff, decide_eq_false_iff_not] at e
            obtain ⟨rfl, rfl, rfl, ⟨⟨-, hm⟩, hm2⟩, -⟩ := e
            obtain ⟨rfl, hx⟩ := name_inv hn
            obtain ⟨rfl, hy⟩ := name_inv h2
            obtain ⟨rfl, hc1, hc2⟩ := count_inv h4
            obtain ⟨hl, hz⟩ := all_inv (put := bindL) (P := fun b => bindR b = true ∧ argI b.a) (fun _ _ _ h => bind_inv h) _ _ _ h3
            obtain ⟨u, n, r, ps, vs, bs, b, hp, hpl1, hu, hf, hh, hb, hbs, hbk, hfin, hlg, hmax, hcode⟩ := h.inner (by rw [hpl]; decide)
            generalize p.ssa = s at hp
            generalize p.classes = c at hp
            generalize p.globals = g at hp
            generalize p.externs = ex at hp
            subst hp
            obtain ⟨k, i, hk, hop⟩ := hcode (by omega)
            have hth : theI (cur s c g ex u n r ps vs bs b) = i := by
              show (theB (cur s c g ex u n r ps vs bs b)).code.getLast?.getD instrZ = i
              rw [theB_cur, hk]
              exact getD_snoc _ _ _
            rw [hth] at hm2
            rw [frmP, inB_cur, hk, last_snoc]
            obtain ⟨b1, b2, b3⟩ := hbk
            have hi := b3 i (by rw [hk]; simp)
            have hiR := hi.1
            simp only [instrR, Bool.and_eq_true] at hiR
            have hst := hiR.2.2.2.2.2
            unfold stateR at hst
            rw [if_neg (by omega)] at hst
            simp only [Bool.and_eq_true] at hst
            have hfr : frameR ⟨x, y, m, zs⟩ = true := by
              simp only [frameR, allR, Bool.and_eq_true, decide_eq_true_eq, List.all_eq_true]
              exact ⟨hx, hy, ⟨hc1, hc2⟩, by omega, fun q hq => (hz q hq).1⟩
            refine back_blk h hpl1 hu hf hh hb hbs ⟨b1, b2, ?_⟩ hfin ?_ (by omega) (fun _ => ⟨k, _, rfl, hop⟩) ?_
            · intro z hz1
              rcases List.mem_append.1 hz1 with hz1 | hz1
              · exact b3 z (by rw [hk]; simp [hz1])
              · rw [List.mem_singleton.1 hz1]
                refine ⟨?_, hi.2.1, ?_, hi.2.2.2⟩
                · simp only [instrR, Bool.and_eq_true]
                  refine ⟨hiR.1, hiR.2.1, hiR.2.2.1, hiR.2.2.2.1, hiR.2.2.2.2.1, ?_⟩
                  unfold stateR
                  rw [if_neg (by simp only; omega)]
                  simp only [Bool.and_eq_true]
                  exact ⟨allR_snoc hst.1 hfr (by omega), hst.2⟩
                · intro f hf2 q hq
                  rcases List.mem_append.1 hf2 with hf2 | hf2
                  · exact hi.2.2.1 f hf2 q hq
                  · rw [List.mem_singleton.1 hf2] at hq
                    exact (hz q hq).2
            · unfold longB at hlg ⊢
              rw [hk] at hlg
              simpa using hlg
            · rw [wb_eq, wb_eq, hk]
              simp only
              rw [wls_flat, wls_flat, wi_eq, wi_eq]
              simp only
              rw [wls_map]
              show _ = _ + LinesM.wlen (kAt :: x :: y :: NumM.dec m :: l)
              rw [hl]
              show _ + (_ + (_ + (LinesM.wlen (instrL i) + (_ + LinesM.wlen (kAt :: x :: y :: NumM.dec m :: zs.flatMap bindL) + _)) + _)) = _
              omega
theorem back_obj (h : Open p pl lg) (e : objD p pl lg false ws = some (p2, pl2, lg2, false, [])) : Goes p (kObj :: ws) p2 pl2 lg2 := by
  unfold objD at e
  split at e
  · cases e
  · rename_i hs
    have hs := of_not hs
    have hpl : pl = 128 ∨ pl = 256 := by
      rcases spot h.st with rfl | rfl | rfl | rfl | rfl | rfl | rfl | rfl | rfl | rfl <;> first | exact .inl rfl | exact .inr rfl | exact absurd hs (by decide)
    cases hn : takeName ws with
    | none => rw [hn] at e; cases e
    | some q =>
      obtain ⟨x, l⟩ := q
      rw [hn] at e
      simp only at e
      cases h3 : takeAll takeVal l.length l with
      | none => rw [h3] at e; cases e
      | some zs =>
        rw [h3] at e
        simp only at e
        split at e
        · cases e
        rename_i h8
        simp only [Option.some.injEq, Prod.mk.injEq, Bool.or_eq_false_iff, decide_eq_false_iff_not] at e
        obtain ⟨rfl, rfl, rfl, ⟨-, hm2⟩, -⟩ := e
        obtain ⟨rfl, hx⟩ := name_inv hn
        obtain ⟨hl, hz⟩ := each_inv (P := fun b => argR b = true ∧ argI b) (fun _ _ _ h => val_inv h) h3
        obtain ⟨u, n, r, ps, vs, bs, b, hp, hpl1, hu, hf, hh, hb, hbs, hbk, hfin, hlg, hmax, hcode⟩ := h.inner (by rcases hpl with rfl | rfl <;> decide)
        generalize p.ssa = s at hp
        generalize p.classes = c at hp
        generalize p.globals = g at hp
        generalize p.externs = ex at hp
        subst hp
        obtain ⟨k, i, hk, hop⟩ := hcode (by omega)
        have hth : theI (cur s c g ex u n r ps vs bs b) = i := by
          show (theB (cur s c g ex u n r ps vs bs b)).code.getLast?.getD instrZ = i
          rw [theB_cur, hk]
          exact getD_snoc _ _ _
        rw [hth] at hm2
        rw [objP, inB_cur, hk, last_snoc]
        obtain ⟨b1, b2, b3⟩ := hbk
        have hi := b3 i (by rw [hk]; simp)
        have hiR := hi.1
        simp only [instrR, Bool.and_eq_true] at hiR
        have hst := hiR.2.2.2.2.2
        unfold stateR at hst
        rw [if_neg (by omega)] at hst
        simp only [Bool.and_eq_true] at hst
        have hfr : virtR ⟨x, zs⟩ = true := by
          simp only [virtR, allR, Bool.and_eq_true, decide_eq_true_eq, List.all_eq_true]
          exact ⟨hx, by omega, fun q hq => (hz q hq).1⟩
        refine back_blk h (.inr (.inr (.inr rfl))) hu hf hh hb hbs ⟨b1, b2, ?_⟩ hfin ?_ (by omega) (fun _ => ⟨k, _, rfl, hop⟩) ?_
        · intro z hz1
          rcases List.mem_append.1 hz1 with hz1 | hz1
          · exact b3 z (by rw [hk]; simp [hz1])
          · rw [List.mem_singleton.1 hz1]
            refine ⟨?_, hi.2.1, hi.2.2.1, ?_⟩
            · simp only [instrR, Bool.and_eq_true]
              refine ⟨hiR.1, hiR.2.1, hiR.2.2.1, hiR.2.2.2.1, hiR.2.2.2.2.1, ?_⟩
              unfold stateR
              rw [if_neg (by simp only; omega)]
              simp only [Bool.and_eq_true]
              exact ⟨hst.1, allR_snoc hst.2 hfr (by omega)⟩
            · intro f hf2 q hq
              rcases List.mem_append.1 hf2 with hf2 | hf2
              · exact hi.2.2.2 f hf2 q hq
              · rw [List.mem_singleton.1 hf2] at hq
                exact (hz q hq).2
        · unfold longB at hlg ⊢
          rw [hk] at hlg
          simpa using hlg
        · rw [wb_eq, wb_eq, hk]
          simp only
          rw [wls_flat, wls_flat, wi_eq, wi_eq]
          simp only
          rw [wls_map]
          show _ = _ + LinesM.wlen (kObj :: x :: l)
          rw [hl]
          show _ + (_ + (_ + (LinesM.wlen (instrL i) + (_ + (_ + LinesM.wlen (kObj :: x :: zs.map putA)))) + _)) = _
          omega
theorem form_of_op {x : Wd} (h : (opV x).2 = true) : (formV ((opV x).1 : Int)).2 = true ∧ x = opWords.getD (opV x).1 [] := by
  have key : ∀ (f k : Nat), 35 - k ≤ f → (opFrom x k).2 = true → k ≤ (opFrom x k).1 ∧ (opFrom x k).1 < 35 ∧ x = opWords.getD (opFrom x k).1 [] := by
    intro f
    induction f with
    | zero =>
      intro k hk h
      unfold opFrom at h
      rw [dif_neg (by omega)] at h
      cases h
    | succ f ih =>
      intro k hk h
      unfold opFrom at h ⊢
      split at h
      · rename_i hk2
        rw [dif_pos hk2]
        split at h
        · rename_i he
          rw [if_pos he]
          exact ⟨by simp, hk2, he.symm⟩
        · rename_i he
          rw [if_neg he]
          obtain ⟨a1, a2, a3⟩ := ih (k + 1) (by omega) h
          exact ⟨by omega, a2, a3⟩
      · cases h
  obtain ⟨h1, h2, h3⟩ := key 34 1 (by omega) h
  refine ⟨?_, h3⟩
  unfold opV formV
  rw [if_neg (by omega)]
theorem back_ins {dst x : Wd} (h : Open p pl lg) (hd : dst = [] ∨ nameV dst = true) (e : insD p pl lg false dst x ws = some (p2, pl2, lg2, false, [])) : Goes p (if dst = [] then x :: ws else dst :: kEq :: x :: ws) p2 pl2 lg2 := by
  unfold insD at e
  split at e
  · cases e
  · rename_i hs
    have hs := of_not hs
    split at e
    · cases e
    rename_i hop
    simp only [not_or, Bool.not_eq_false, Decidable.not_not, ne_eq] at hop
    obtain ⟨hop1, hop2⟩ := hop
    obtain ⟨hfo, hxw⟩ := form_of_op hop1
    cases hn : takeN takeArg (aheadV (opV x).1) ws with
    | none => rw [hn] at e; cases e
    | some q =>
      obtain ⟨us, l1⟩ := q
      rw [hn] at e
      simp only at e
      cases h2 : takeNm (formV (opV x).1).1.named l1 with
      | none => rw [h2] at e; cases e
      | some q =>
        obtain ⟨nm, l2⟩ := q
        rw [h2] at e
        simp only at e
        cases h3 : takeAll takeArg l2.length l2 with
        | none => rw [h3] at e; cases e
        | some zs =>
          rw [h3] at e
          simp only at e
          split at e
          · cases e
          rename_i hlm
          simp only [not_or] at hlm
          simp only [Option.some.injEq, Prod.mk.injEq, Bool.or_eq_false_iff, decide_eq_false_iff_not] at e
          obtain ⟨rfl, rfl, rfl, ⟨-, hm2⟩, -⟩ := e
          obtain ⟨rfl, hk, ha⟩ := many_inv _ _ _ _ hn
          obtain ⟨hl, hz⟩ := each_inv (P := fun b => argX b = true ∧ argI b) (fun _ _ _ h => arg_inv h) h3
          have hnm : l1 = (if (formV (opV x).1).1.named = true then [nm] else []) ++ l2 ∧ noneR nm (formV (opV x).1).1.named = true := by
            unfold takeNm at h2
            split at h2
            · rename_i hh
              obtain ⟨rfl, hx⟩ := name_inv h2
              rw [if_pos hh]
              refine ⟨rfl, ?_⟩
              unfold noneR
              rw [if_pos hh]; exact hx
            · rename_i hh
              simp only [Option.some.injEq, Prod.mk.injEq] at h2
              obtain ⟨rfl, rfl⟩ := h2
              rw [if_neg hh]
              refine ⟨rfl, ?_⟩
              unfold noneR
              rw [if_neg hh]; rfl
          obtain ⟨u, n, r, ps, vs, bs, b, hp, hpl1, hu, hf, hh, hb, hbs, hbk, hfin, hlg, hmax, hcode⟩ := h.inner hs
          generalize p.ssa = s at hp
          generalize p.classes = c at hp
          generalize p.globals = g at hp
          generalize p.externs = ex at hp
          subst hp
          rw [insP, inB_cur]
          obtain ⟨b1, b2, b3⟩ := hbk
          have hargs : ∀ q ∈ us ++ zs, argX q = true ∧ argI q := by
            intro q hq
            rcases List.mem_append.1 hq with hq | hq
            · exact ha q hq
            · exact hz q hq
          have hpl2 : behindV ((opV x).1 : Int) = 32 ∨ behindV ((opV x).1 : Int) = 64 ∨ behindV ((opV x).1 : Int) = 128 ∨ behindV ((opV x).1 : Int) = 256 := by
            unfold behindV; split <;> simp
          refine back_blk h hpl2 hu hf hh hb hbs ⟨b1, b2, ?_⟩ hfin ?_ (by omega) ?_ ?_
          · intro z hz1
            rcases List.mem_append.1 hz1 with hz1 | hz1
            · exact b3 z hz1
            · rw [List.mem_singleton.1 hz1]
              refine ⟨?_, fun q hq => (hargs q hq).2, by simp, by simp⟩
              simp only [instrR, Bool.and_eq_true, decide_eq_true_eq, List.all_eq_true]
              refine ⟨hfo, ?_, hnm.2, by omega, ⟨by omega, fun q hq => (hargs q hq).1⟩, ?_⟩
              · unfold noneR
                rw [hop2]
                rcases hd with rfl | hd
                · rfl
                · have hne : dst ≠ [] := by rintro rfl; revert hd; decide
                  rw [if_pos (by simp [hne])]
                  exact hd
              · unfold stateR
                split <;> rfl
          · unfold longB at hlg ⊢
            simp only [List.length_append, List.length_singleton]
            omega
          · intro hpl
            refine ⟨_, _, rfl, ?_⟩
            simp only
            unfold behindV at hpl
            split at hpl
            · assumption
            · omega
          · rw [wb_eq, wb_eq]
            simp only
            rw [wls_flat, wi_eq]
            simp only [List.map_nil, wls_nil]
            have hiw : instrL ⟨((opV x).1 : Int), dst, nm, us ++ zs, [], []⟩ = if dst = [] then x :: (us.map putA ++ l1) else dst :: kEq :: x :: (us.map putA ++ l1) := by
              unfold instrL instrW
              simp only
              rw [List.take_left' hk, List.drop_left' hk, ← hl, ← hnm.1, Int.toNat_natCast, ← hxw]
            rw [hiw]
            omega
theorem back_set {x : Wd} (h : Open p pl lg) (e : setD p pl lg false x (kEq :: ws) = some (p2, pl2, lg2, false, [])) : Goes p (x :: kEq :: ws) p2 pl2 lg2 := by
  unfold setD at e
  split at e
  · cases e
  rename_i hn
  have hn := of_not hn
  simp only [takeWord] at e
  cases ws with
  | nil => cases e
  | cons y l =>
    simp only at e
    have hne : x ≠ [] := by rintro rfl; revert hn; decide
    have := back_ins h (.inr hn) e
    rw [if_neg hne] at this
    exact this
theorem disp_cases {x : Wd} {o : Out} (h : dispD p pl lg x ws = o) (ho : o ≠ none) :
    (x = kTrap ∧ trapD p pl lg false ws = o) ∨ (x = kRet ∧ retD p pl lg false ws = o) ∨ (x = kBranch ∧ branchD p pl lg false ws = o) ∨ (x = kJump ∧ jumpD p pl lg false ws = o) ∨ (x = kObj ∧ objD p pl lg false ws = o) ∨ (x = kAt ∧ frmD p pl lg false ws = o) ∨ (insD p pl lg false [] x ws = o) ∨ (x = kPhi ∧ phiD p pl lg false ws = o) ∨ (x = kBlock ∧ blockD p pl lg ws = o) ∨ (x = kVar ∧ varD p pl lg ws = o) ∨ (x = kParam ∧ paramD p pl lg ws = o) ∨ (x = kFunc ∧ funcD p pl lg ws = o) ∨ (x = kExtern ∧ externD p pl lg ws = o) ∨ (x = kGlobal ∧ globalD p pl lg ws = o) ∨ (x = kField ∧ fieldD p pl lg ws = o) ∨ (x = kClass ∧ classD p pl lg ws = o) ∨ (x = kSsa ∧ ssaD p pl lg false ws = o) := by
  unfold dispD at h
  by_cases h1 : x = [116, 114, 97, 112]
  · rw [if_pos h1] at h; exact .inl ⟨h1, h⟩
  rw [if_neg h1] at h
  by_cases h1 : x = [114, 101, 116]
  · rw [if_pos h1] at h; exact .inr (.inl ⟨h1, h⟩)
  rw [if_neg h1] at h
  by_cases h1 : x = [98, 114, 97, 110, 99, 104]
  · rw [if_pos h1] at h; exact .inr (.inr (.inl ⟨h1, h⟩))
  rw [if_neg h1] at h
  by_cases h1 : x = [106, 117, 109, 112]
  · rw [if_pos h1] at h; exact .inr (.inr (.inr (.inl ⟨h1, h⟩)))
  rw [if_neg h1] at h
  by_cases h1 : x = [111, 98, 106]
  · rw [if_pos h1] at h; exact .inr (.inr (.inr (.inr (.inl ⟨h1, h⟩))))
  rw [if_neg h1] at h
  by_cases h1 : x = [97, 116]
  · rw [if_pos h1] at h; exact .inr (.inr (.inr (.inr (.inr (.inl ⟨h1, h⟩)))))
  rw [if_neg h1] at h
  by_cases h1 : x = [103, 117, 97, 114, 100]
  · rw [if_pos h1] at h; exact .inr (.inr (.inr (.inr (.inr (.inr (.inl h))))))
  rw [if_neg h1] at h
  by_cases h1 : x = [111, 117, 116]
  · rw [if_pos h1] at h; exact .inr (.inr (.inr (.inr (.inr (.inr (.inl h))))))
  rw [if_neg h1] at h
  by_cases h1 : x = [103, 115, 116, 111, 114, 101]
  · rw [if_pos h1] at h; exact .inr (.inr (.inr (.inr (.inr (.inr (.inl h))))))
  rw [if_neg h1] at h
  by_cases h1 : x = [115, 116, 111, 114, 101]
  · rw [if_pos h1] at h; exact .inr (.inr (.inr (.inr (.inr (.inr (.inl h))))))
  rw [if_neg h1] at h
  by_cases h1 : x = [112, 104, 105]
  · rw [if_pos h1] at h; exact .inr (.inr (.inr (.inr (.inr (.inr (.inr (.inl ⟨h1, h⟩)))))))
  rw [if_neg h1] at h
  by_cases h1 : x = [98, 108, 111, 99, 107]
  · rw [if_pos h1] at h; exact .inr (.inr (.inr (.inr (.inr (.inr (.inr (.inr (.inl ⟨h1, h⟩))))))))
  rw [if_neg h1] at h
  by_cases h1 : x = [118, 97, 114]
  · rw [if_pos h1] at h; exact .inr (.inr (.inr (.inr (.inr (.inr (.inr (.inr (.inr (.inl ⟨h1, h⟩)))))))))
  rw [if_neg h1] at h
  by_cases h1 : x = [112, 97, 114, 97, 109]
  · rw [if_pos h1] at h; exact .inr (.inr (.inr (.inr (.inr (.inr (.inr (.inr (.inr (.inr (.inl ⟨h1, h⟩))))))))))
  rw [if_neg h1] at h
  by_cases h1 : x = [102, 117, 110, 99]
  · rw [if_pos h1] at h; exact .inr (.inr (.inr (.inr (.inr (.inr (.inr (.inr (.inr (.inr (.inr (.inl ⟨h1, h⟩)))))))))))
  rw [if_neg h1] at h
  by_cases h1 : x = [101, 120, 116, 101, 114, 110]
  · rw [if_pos h1] at h; exact .inr (.inr (.inr (.inr (.inr (.inr (.inr (.inr (.inr (.inr (.inr (.inr (.inl ⟨h1, h⟩))))))))))))
  rw [if_neg h1] at h
  by_cases h1 : x = [103, 108, 111, 98, 97, 108]
  · rw [if_pos h1] at h; exact .inr (.inr (.inr (.inr (.inr (.inr (.inr (.inr (.inr (.inr (.inr (.inr (.inr (.inl ⟨h1, h⟩)))))))))))))
  rw [if_neg h1] at h
  by_cases h1 : x = [102, 105, 101, 108, 100]
  · rw [if_pos h1] at h; exact .inr (.inr (.inr (.inr (.inr (.inr (.inr (.inr (.inr (.inr (.inr (.inr (.inr (.inr (.inl ⟨h1, h⟩))))))))))))))
  rw [if_neg h1] at h
  by_cases h1 : x = [99, 108, 97, 115, 115]
  · rw [if_pos h1] at h; exact .inr (.inr (.inr (.inr (.inr (.inr (.inr (.inr (.inr (.inr (.inr (.inr (.inr (.inr (.inr (.inl ⟨h1, h⟩)))))))))))))))
  rw [if_neg h1] at h
  by_cases h1 : x = [115, 115, 97]
  · rw [if_pos h1] at h; exact .inr (.inr (.inr (.inr (.inr (.inr (.inr (.inr (.inr (.inr (.inr (.inr (.inr (.inr (.inr (.inr ⟨h1, h⟩)))))))))))))))
  rw [if_neg h1] at h
  exact absurd h.symm ho
theorem lineE_ok {o : Out} (h : lineE o = .ok (p2, pl2, lg2)) : o = some (p2, pl2, lg2, false, []) := by
  unfold lineE at h
  split at h
  · cases h
  · rename_i q pl lg ov ws
    split at h
    · cases h
    · split at h
      · cases h
      · rename_i h1 h2
        injection h with h
        simp only [Prod.mk.injEq] at h
        obtain ⟨rfl, rfl, rfl⟩ := h
        simp only [Decidable.not_not, ne_eq] at h1
        subst h1
        cases ov with
        | true => exact absurd rfl h2
        | false => rfl
theorem back_none : lineO p pl lg [] [] = none := by
  unfold lineO
  rw [if_neg (by simp)]
  cases hd : dispD p pl lg [] [] with
  | none => rfl
  | some o =>
    exfalso
    rcases disp_cases hd (by simp) with ⟨hx, _⟩ | ⟨hx, _⟩ | ⟨hx, _⟩ | ⟨hx, _⟩ | ⟨hx, _⟩ | ⟨hx, _⟩ | hx | ⟨hx, _⟩ | ⟨hx, _⟩ | ⟨hx, _⟩ | ⟨hx, _⟩ | ⟨hx, _⟩ | ⟨hx, _⟩ | ⟨hx, _⟩ | ⟨hx, _⟩ | ⟨hx, _⟩ | ⟨hx, _⟩
    all_goals first | (cases hx; done) | skip
    unfold insD at hx
    split at hx
    · cases hx
    · have e : (opV []).2 = false := by decide +kernel
      rw [if_pos (.inl e)] at hx
      cases hx
theorem back_disp {x : Wd} (h : Open p pl lg) (ho : dispD p pl lg x l = some (p2, pl2, lg2, false, [])) : Goes p (x :: l) p2 pl2 lg2 := by
  rcases disp_cases ho (by simp) with ⟨rfl, hx⟩ | ⟨rfl, hx⟩ | ⟨rfl, hx⟩ | ⟨rfl, hx⟩ | ⟨rfl, hx⟩ | ⟨rfl, hx⟩ | hx | ⟨rfl, hx⟩ | ⟨rfl, hx⟩ | ⟨rfl, hx⟩ | ⟨rfl, hx⟩ | ⟨rfl, hx⟩ | ⟨rfl, hx⟩ | ⟨rfl, hx⟩ | ⟨rfl, hx⟩ | ⟨rfl, hx⟩ | ⟨rfl, hx⟩
  · exact back_trap h hx
  · exact back_ret h hx
  · exact back_branch h hx
  · exact back_jump h hx
  · exact back_obj h hx
  · exact back_frm h hx
  · exact back_ins h (.inl rfl) hx
  · exact back_phi h hx
  · exact back_block h hx
  · exact back_var h hx
  · exact back_param h hx
  · exact back_func h hx
  · exact back_extern h hx
  · exact back_global h hx
  · exact back_field h hx
  · exact back_class h hx
  · exact back_ssa h hx
/-- One line. -/
theorem back_step (h : Open p pl lg) (e : step (p, pl, lg) ws = some (p2, pl2, lg2)) : Goes p ws p2 pl2 lg2 := by
  unfold step at e
  split at e
  · rename_i s2 hl
    injection e with e
    subst e
    have ho := lineE_ok hl
    cases ws with
    | nil =>
      have ho : lineO p pl lg [] [] = some (p2, pl2, lg2, false, []) := ho
      rw [back_none] at ho
      cases ho
    | cons x l =>
      have ho : lineO p pl lg x l = some (p2, pl2, lg2, false, []) := ho
      unfold lineO at ho
      split at ho
      · rename_i hh
        cases l with
        | nil => cases hh
        | cons y l =>
          obtain rfl : y = kEq := Option.some.inj hh
          exact back_set h ho
      · exact back_disp h ho
  · cases e
/-- Many lines. -/
theorem back_many : ∀ (L : List (List Wd)) {p p2 : Prog} {pl lg pl2 lg2 : Int}, Open p pl lg → readW (p, pl, lg) L = some (p2, pl2, lg2) → Open p2 pl2 lg2 ∧ wp p2 = wp p + wls L := by
  intro L
  induction L with
  | nil =>
    intro p p2 pl lg pl2 lg2 h e
    simp only [readW, Option.some.injEq, Prod.mk.injEq] at e
    obtain ⟨rfl, rfl, rfl⟩ := e
    exact ⟨h, rfl⟩
  | cons ws L ih =>
    intro p p2 pl lg pl2 lg2 h e
    simp only [readW] at e
    cases hs : step (p, pl, lg) ws with
    | none => rw [hs] at e; cases e
    | some s =>
      obtain ⟨p3, pl3, lg3⟩ := s
      rw [hs] at e
      obtain ⟨h1, h2⟩ := back_step h hs
      obtain ⟨h3, h4⟩ := ih h1 e
      exact ⟨h3, by rw [h4, h2, wls_cons]; omega⟩
/-- What is read is right, and as long. -/
theorem read_back {L : List (Nat × List Wd)} {p : Prog} (h : parseE L = .ok p) : progR p = true ∧ progI p ∧ wp p = wls (L.map fun x => x.2) := by
  obtain ⟨pl, lg, hr, hs⟩ := parseE_ok.1 h
  obtain ⟨h1, h2⟩ := back_many _ Open.start hr
  obtain ⟨h3, h4⟩ := h1.right hs
  exact ⟨h3, h4, by rw [h2]; show 0 + _ = _; omega⟩
end Go.Proofs.YtdgmdpphimenjaaDoor.Rd5

/-
  Package show: the closure that lays a line.
-/
namespace Go.Proofs.YtdgmdpphimenjaaDoor.Sh6
open Go.RowKit Api Syn WordM Mem Rd5
open LinesM hiding Wd

/-- What the closures hold: the lines that are laid, and how many bytes are left. -/
def LayS (base lb fb : Nat) (w : World) (ls : List (List Wd)) (left : Int) : Prop :=
  base ≤ lb ∧ base ≤ fb ∧ Own w fb 3 [i64 left] ∧ ∃ v xs, Own w lb 74 [v] ∧ OwnLins 115 9 base w.heap.size w v xs ∧ wordsOf xs = ls
/-- Boxes stay. -/
def KeepO (w w' : World) : Prop := ∀ k t cs, Own w k t cs → t ≠ 115 → t ≠ 74 → t ≠ 3 → Own w' k t cs
theorem KeepO.refl (w : World) : KeepO w w := fun _ _ _ h _ _ _ => h
theorem KeepO.trans {a b c : World} (h : KeepO a b) (g : KeepO b c) : KeepO a c := fun k t cs o h1 h2 h3 => g k t cs (h k t cs o h1 h2 h3) h1 h2 h3
theorem KeepO.of_below {w w' : World} (h : Below w.heap.size w w') : KeepO w w' := fun _ _ _ o _ _ _ => o.below h o.lt
theorem KeepO.of_grown {w w' : World} {b : Nat} {t : TypeId} {cs : List Value} (hb : Own w b t cs) (ht : t = 115 ∨ t = 74 ∨ t = 3) (h : w.grownBy w' (some b)) : KeepO w w' := by
  intro k t' cs' o h1 h2 h3
  refine (h.block k o.lt ?_).trans o
  intro he
  simp only [Option.some.injEq] at he
  subst he
  have h4 : some (Obj.cells cs.toArray t (0, 0)) = some (Obj.cells cs'.toArray t' (0, 0)) := hb.symm.trans o
  simp only [Option.some.injEq, Obj.cells.injEq] at h4
  rcases ht with rfl | rfl | rfl
  · exact h1 h4.2.1.symm
  · exact h2 h4.2.1.symm
  · exact h3 h4.2.1.symm
theorem grown_set {w wr : World} {b : Nat} (h : w.grownBy wr (some b)) (u : Value) : w.grownBy (wr.setCell ⟨b, 0, none⟩ u) (some b) := by
  refine ⟨h.os, h.tape, h.output, by simpa using h.size, fun k hk hne => ?_⟩
  have e : k ≠ b := fun e => hne (by rw [e])
  rw [← h.block k hk hne]
  simp [World.setCell, Array.getElem?_modify, Ne.symm e]
theorem own_grown {w wr : World} {b g : Nat} {t : TypeId} {cs : List Value} (o : Own w g t cs) (h : w.grownBy wr (some b)) (hne : g ≠ b) : Own wr g t cs :=
  (h.block g o.lt (fun e => hne (by simpa using e))).trans o
theorem own_apart {w : World} {b g : Nat} {t s : TypeId} {cs ds : List Value} (o : Own w g t cs) (p : Own w b s ds) (h : t ≠ s) : g ≠ b := by
  rintro rfl
  have h4 : some (Obj.cells cs.toArray t (0, 0)) = some (Obj.cells ds.toArray s (0, 0)) := o.symm.trans p
  simp only [Option.some.injEq, Obj.cells.injEq] at h4
  exact h h4.2.1
theorem row_apart {w : World} {b base size n : Nat} {t e : TypeId} {ds xs : List Value} {v : Value} (o : w.ownsRow base e size v n xs) (p : Own w b t ds) (h : e ≠ t) : v.ownBlock = none ∨ v.ownBlock ≠ some b := by
  rcases o.2 with ⟨rfl, _⟩ | ⟨g, cap, cur, rfl, hb, h2, _⟩
  · exact .inl rfl
  · right
    intro he
    simp only [Value.ownBlock, Option.some.injEq] at he
    subst he
    have h4 : some (Obj.cells cur e (0, 0)) = some (Obj.cells ds.toArray t (0, 0)) := h2.symm.trans p
    simp only [Option.some.injEq, Obj.cells.injEq] at h4
    exact h h4.2.1
theorem lins_grown {E Es : TypeId} {base hi b : Nat} {w w' : World} {v : Value} {xs : List ML} {t : TypeId} {ds : List Value} (h : OwnLins E Es base hi w v xs) (p : Own w b t ds) (h1 : E ≠ t) (h2 : Es ≠ t) (hg : w.grownBy w' (some b)) : OwnLins E Es base hi w' v xs :=
  ⟨h.1.kept hg (row_apart h.1 p h1), fun x hx => ⟨(h.2 x hx).1.kept hg (row_apart (h.2 x hx).1 p h2), (h.2 x hx).2⟩⟩
theorem wlen_take (k : Nat) (ws : List Wd) : wlen (ws.take k) ≤ wlen ws := by
  have h : wlen ws = wlen (ws.take k) + wlen (ws.drop k) := by
    unfold wlen
    rw [← List.sum_append, ← List.map_append, List.take_append_drop]
  omega
theorem wlen_next {k : Nat} {ws : List Wd} {x : Wd} (h : ws[k]? = some x) : wlen (ws.take (k + 1)) = wlen (ws.take k) + (x.length + 1) := by
  rw [LinesM.take_next h]
  unfold wlen
  simp
theorem own_row {w w' : World} {base b n size : Nat} {t e : TypeId} {cs : List Value} {v : Value} {xs : List Value} (hO : Own w b t cs) (ht : e ≠ t) (own : w.ownsRow base e size v n xs) (hg : w.grownBy w' v.ownBlock) : Own w' b t cs := by
  refine (hg.block b hO.lt ?_).trans hO
  rcases row_apart own hO ht with h | h
  · rw [h]; simp
  · exact fun he => h he.symm
theorem KeepO.of_row {w w' : World} {base n size : Nat} {v : Value} {xs : List Value} (own : w.ownsRow base 115 size v n xs) (hg : w.grownBy w' v.ownBlock) : KeepO w w' :=
  fun _ _ _ o h1 _ _ => own_row o (Ne.symm h1) own hg
theorem lay_end {w wr w5 : World} {base lb fb : Nat} {ls : List (List Wd)} {l1 l2 : Int} {u v v' : Value} {ws : List Wd} {xs : List ML} (hlb : base ≤ lb) (hfb : base ≤ fb) (of0 : Own w fb 3 [i64 l1]) (hL : Own w lb 74 [u]) (ol : OwnLins 115 9 base w.heap.size w u xs) (hwo : wordsOf xs = ls) (hv : w.ownsRow base 9 1 v ws.length (LinesM.strs ws))
    (of1 : Own wr fb 3 [i64 l2]) (hg : w.grownBy wr (some fb)) (hown : w5.ownsRow base 115 2 v' (xs.length + 1) (cells xs ++ [.int .i64 0, v])) (hg5 : wr.grownBy w5 u.ownBlock) :
    LayS base lb fb (w5.setCell ⟨lb, 0, none⟩ v') (ls ++ [ws]) l2 ∧ Below base w (w5.setCell ⟨lb, 0, none⟩ v') ∧ KeepO w (w5.setCell ⟨lb, 0, none⟩ v') := by
  have olr : OwnLins 115 9 base w.heap.size wr u xs := lins_grown ol of0 (by decide) (by decide) hg
  have hvr : wr.ownsRow base 9 1 v ws.length (LinesM.strs ws) := hv.kept hg (row_apart hv of0 (by decide))
  have hLr : Own wr lb 74 [u] := own_grown hL hg (own_apart hL of0 (by decide))
  have hL5 : Own w5 lb 74 [u] := own_row hLr (by decide) olr.1 hg5
  have of5 : Own w5 fb 3 [i64 l2] := own_row of1 (by decide) olr.1 hg5
  have ol5 : OwnLins 115 9 base w5.heap.size w5 v' (xs ++ [(0, v, ws)]) :=
    olr.push (by decide) hvr (Nat.le_trans hg.size hg5.size) hg5.size hg5 hown rfl
  have hg6 : w5.grownBy (w5.setCell ⟨lb, 0, none⟩ v') (some lb) := grown_set ⟨rfl, rfl, rfl, Nat.le_refl _, fun _ _ _ => rfl⟩ v'
  have hL6 : Own (w5.setCell ⟨lb, 0, none⟩ v') lb 74 [v'] := hL5.store 0 v'
  have hsz : base ≤ w.heap.size := Nat.le_trans hfb (Nat.le_of_lt of0.lt)
  refine ⟨⟨hlb, hfb, own_grown of5 hg6 (own_apart of5 hL5 (by decide)), v', _, hL6, (lins_grown ol5 hL5 (by decide) (by decide) hg6).up hg6.size, ?_⟩, ?_, ?_⟩
  · rw [← hwo]
    simp [wordsOf]
  · have b1 : Below base w wr := (Below.refl base w).grown hg hsz (fun k hk => by cases hk; exact hfb)
    have b2 : Below base w w5 := b1.grown hg5 (Nat.le_trans hsz hg.size) (fun k hk => (olr.1.lt k hk).1)
    exact b2.grown hg6 (Nat.le_trans hsz (Nat.le_trans hg.size hg5.size)) (fun k hk => by cases hk; exact hlb)
  · exact ((KeepO.of_grown of0 (.inr (.inr rfl)) hg).trans (KeepO.of_row olr.1 hg5)).trans (KeepO.of_grown hL5 (.inr (.inl rfl)) hg6)
set_option maxRecDepth 100000 in
set_option maxHeartbeats 8000000 in
theorem lay_any (w : World) (base lb fb : Nat) (ls : List (List Wd)) (left : Int) (v : Value) (ws : List Wd) (hS : LayS base lb fb w ls left) (hv : w.ownsRow base 9 1 v ws.length (LinesM.strs ws)) (hl : ls.length ≤ 1099511627776) (hw : ws.length ≤ 1099511627776) (h1 : -2305843009213693952 ≤ left - (wlen ws : Nat)) (h2 : left ≤ 4194304) :
    Calls Tryd.prog 45 #[v, .pointer (some ⟨fb, 0, none⟩), .pointer (some ⟨lb, 0, none⟩)] w fun e w' => e = .returned (.tuple #[]) ∧ LayS base lb fb w' (ls ++ [ws]) (left - (wlen ws : Nat)) ∧ Below base w w' ∧ KeepO w w' := by
  obtain ⟨hlb, hfb, of0, u, xs, hL, ol, hwo⟩ := hS
  obtain ⟨A, cap, rfl⟩ := own_form hv
  obtain ⟨A', n', cap', b, off, e, hn, hm, ha, hc⟩ := Strs.of_own hv (Nat.le_refl _)
  simp only [Value.slice.injEq] at e
  obtain ⟨rfl, rfl, rfl⟩ := e
  have OF := Lib.hid of0
  have OL := Lib.hid ol
  have HL := Lib.hid hL
  have HW := Lib.hid hwo
  have HV := Lib.hid hv
  have HA := Lib.hid ha
  have HC := Lib.hid hc
  clear of0 ol hL hwo hv hm ha hc hn
  go_enter Tryd.func45, Tryd.ntmps45
  go_wp2
  go_loopw [8] (fun i wr => ∃ k : Nat, k ≤ ws.length ∧ i = .int .i64 k ∧ Hid (Own wr fb 3 [i64 (left - (wlen (ws.take k) : Nat))]) ∧ Hid (w.grownBy wr (some fb))) (fun i _ => ws.length - (intOf i).toNat)
  case atStart => exact ⟨0, Nat.zero_le _, rfl, Lib.hid (by simpa [wlen] using OF.out), Lib.hid ⟨rfl, rfl, rfl, Nat.le_refl _, fun _ _ _ => rfl⟩⟩
  case round =>
  obtain ⟨k, hk, rfl, HF, HG⟩ := hrel
  by_cases hlt : k < ws.length
  · obtain ⟨x, hx⟩ : ∃ x, ws[k]? = some x := ⟨_, List.getElem?_eq_getElem hlt⟩
    obtain ⟨rfl, hb1, hb2⟩ := HA.out (by omega)
    have q1 := HG.out.cell (HC.out k x hx) (by
      rcases row_apart HV.out OF.out (by decide) with h | h
      · simp [Value.ownBlock] at h
      · simpa [Value.ownBlock] using h)
    have hn := wlen_next hx
    have hle : wlen (ws.take (k + 1)) ≤ wlen ws := wlen_take _ _
    obtain ⟨y, hy⟩ : ∃ y : Nat, wlen (ws.take k) = y := ⟨_, rfl⟩
    obtain ⟨ly, hly⟩ : ∃ y : Nat, x.length = y := ⟨_, rfl⟩
    obtain ⟨z, hz⟩ : ∃ y : Nat, wlen ws = y := ⟨_, rfl⟩
    rw [hn, hy, hly, hz] at hle
    have hq2 := HF.out.cell 0
    have hq3 := HF.out.thaw 0
    simp only [List.getElem?_cons_zero] at hq2
    rw [hy] at hq2
    have hst := HF.out.store 0 (i64 (left - (wlen (ws.take (k + 1)) : Nat)))
    have HST := Lib.hid hst
    clear hst
    go_wp2
    go_roundw
    case rel =>
      refine ⟨k + 1, by omega, by go_num, Lib.hid ?_, Lib.hid (grown_set HG.out _)⟩
      have h3 := HST.out
      rw [hn, hy, hly] at h3
      rw [hn, hy, hly]
      have e : left - (y : Int) - ((ly : Int) + 1) = left - ((y + (ly + 1) : Nat) : Int) := by omega
      rw [e]
      exact h3
    case measure => simp [intOf]; omega
  · have hkn : k = ws.length := by omega
    subst hkn
    have HF2 : Hid (Own wr fb 3 [i64 (left - (wlen ws : Nat))]) := Lib.hid (by have := HF.out; rwa [List.take_length] at this)
    have hgr := HG.out
    have olr : OwnLins 115 9 base w.heap.size wr u xs := lins_grown OL.out OF.out (by decide) (by decide) hgr
    have hvr : wr.ownsRow base 9 1 (.slice A ws.length cap) ws.length (LinesM.strs ws) := HV.out.kept hgr (row_apart HV.out OF.out (by decide))
    have hLr : Own wr lb 74 [u] := own_grown HL.out hgr (own_apart HL.out OF.out (by decide))
    have hbs : base ≤ wr.heap.size := Nat.le_trans hlb (Nat.le_of_lt hLr.lt)
    have hxl : xs.length ≤ 1099511627776 := by have := HW.out; rw [← this] at hl; simp [wordsOf] at hl; exact hl
    have OLR := Lib.hid olr
    have HVR := Lib.hid hvr
    have HLR := Lib.hid hLr
    have HBS := Lib.hid hbs
    have HXL := Lib.hid hxl
    have q1 := hLr.cell 0
    have hlbs : lb < wr.heap.size := hLr.lt
    simp only [List.getElem?_cons_zero] at q1
    clear olr hvr hLr hbs hxl hgr hlt HC HA
    obtain ⟨i0, hi, hz0, hz1, hz2⟩ := info_parts l_info
    have Hi := Lib.hid hi
    have Hz0 := Lib.hid hz0
    have Hz1 := Lib.hid hz1
    have Hz2 := Lib.hid hz2
    clear hi hz0 hz1 hz2
    go_wp2_with (at_builtin; refine LinesM.wpList_push_at rfl _ _ 74 rfl base 115 i0 (.agg #[.int .i64 0, .slice none 0 0]) 2 32 Tryd.underlying74 Hi.out Hz0.out Hz1.out Hz2.out rfl (by decide) _ xs.length (cells xs) rfl OLR.out.1 [.int .i64 0, .slice A ws.length cap] wr.heap.size rfl rfl rfl (two_cells 0 HVR.out) (by have := HXL.out; unfold maxLen; omega) (by have := HXL.out; omega) HBS.out ?_; intro v' w5 hown hg5; obtain ⟨A5, c5, rfl⟩ := own_form hown; have HN5 := Lib.hid hown; have HG5 := Lib.hid hg5; have r0 := (own_row HLR.out (by decide) OLR.out.1 hg5).cell 0; have r1 := (own_row HLR.out (by decide) OLR.out.1 hg5).thaw 0; simp only [List.getElem?_cons_zero] at r0; clear hown hg5)
    go_end0
    exact ⟨rfl, lay_end hlb hfb OF.out HL.out OL.out HW.out HV.out HF2.out HG.out HN5.out HG5.out⟩
end Go.Proofs.YtdgmdpphimenjaaDoor.Sh6

/-
  Package show: lines of variables, laid.
-/
namespace Go.Proofs.YtdgmdpphimenjaaDoor.Sh6
open Go.RowKit Api Syn WordM Mem Rd5
open LinesM hiding Wd

theorem lays_below {base lb fb : Nat} {w w' : World} {ls : List (List Wd)} {left : Int} (h : LayS base lb fb w ls left) (hb : Below w.heap.size w w') : LayS base lb fb w' ls left := by
  obtain ⟨h1, h2, h3, v, xs, h4, h5, h6⟩ := h
  exact ⟨h1, h2, h3.below hb h3.lt, v, xs, h4.below hb h4.lt, (OwnLins.below h5 hb).up hb.size, h6⟩
/-- The closure that lays a line, as a value. -/
abbrev layV (fb lb : Nat) : Value := .func (.func 45) #[] #[.pointer (some ⟨fb, 0, none⟩), .pointer (some ⟨lb, 0, none⟩)]
abbrev fullV (fb : Nat) : Value := .func (.func 46) #[] #[.pointer (some ⟨fb, 0, none⟩)]
/-- Behind it the lines T are laid. -/
def LaidP (base lb fb : Nat) (w : World) (ls : List (List Wd)) (left : Int) (T : List (List Wd)) (e : Ending) (w' : World) : Prop :=
  e = .returned (.tuple #[]) ∧ LayS base lb fb w' (ls ++ T) (left - (wls T : Nat)) ∧ Below base w w' ∧ KeepO w w'
theorem full_any (w : World) (fb : Nat) (left : Int) (h : Own w fb 3 [i64 left]) : Calls Tryd.prog 46 #[.pointer (some ⟨fb, 0, none⟩)] w fun e w' => e = .returned (.bool (decide (left < 0))) ∧ w = w' := by
  have q := h.cell 0
  simp only [List.getElem?_cons_zero] at q
  obtain ⟨d, hd⟩ : ∃ d, decide (left < 0) = d := ⟨_, rfl⟩
  rw [hd]
  go_enter Tryd.func46, Tryd.ntmps46
  go_wp2
  go_ret
  exact ⟨rfl, rfl⟩
theorem wls_app (a b : List (List Wd)) : wls (a ++ b) = wls a + wls b := by simp [wls]
theorem wls_one (x : List Wd) : wls [x] = wlen x := by simp [wls]
theorem LaidP.next {base lb fb : Nat} {w w1 w' : World} {ls : List (List Wd)} {left : Int} {T : List (List Wd)} {ws : List Wd} (hb : Below base w w1) (hk : KeepO w w1) (h : LayS base lb fb w' ((ls ++ T) ++ [ws]) ((left - (wls T : Nat)) - (wlen ws : Nat)) ∧ Below base w1 w' ∧ KeepO w1 w') :
    LayS base lb fb w' (ls ++ (T ++ [ws])) (left - (wls (T ++ [ws]) : Nat)) ∧ Below base w w' ∧ KeepO w w' := by
  refine ⟨?_, hb.trans h.2.1, hk.trans h.2.2⟩
  have h1 := h.1
  rw [List.append_assoc] at h1
  have e : left - (wls T : Nat) - (wlen ws : Nat) = left - (wls (T ++ [ws]) : Nat) := by rw [wls_app, wls_one]; omega
  rwa [e] at h1
theorem wls_take {α : Type} (f : α → List Wd) (l : List α) (k : Nat) : wls ((l.take k).map f) ≤ wls (l.map f) := by
  have : wls (l.map f) = wls ((l.take k).map f) + wls ((l.drop k).map f) := by rw [← wls_app, ← List.map_append, List.take_append_drop]
  omega
set_option maxRecDepth 100000 in
set_option maxHeartbeats 8000000 in
theorem layVars_any (lo hi : Nat) (w : World) (base lb fb : Nat) (ls : List (List Wd)) (left : Int) (kw : Wd) (s : ByteArray) (hs : s.data.toList = kw) (v : Value) (l : List Var) (h : Vars lo hi w v l) (hh : hi ≤ base) (hS : LayS base lb fb w ls left) (hl : ls.length + l.length ≤ 1099511627776) (h1 : -2305843009213693952 ≤ left - (wls (l.map (varL kw)) : Nat)) (h2 : left ≤ 4194304) :
    Calls Tryd.prog 73 #[.string s, v, layV fb lb] w (LaidP base lb fb w ls left (l.map (varL kw))) := by
  obtain ⟨A, n, cap, b, off, rfl, hn, hm, ha, hc⟩ := h
  have hbs : base ≤ w.heap.size := Nat.le_trans hS.1 (by obtain ⟨_, _, _, _, _, o, _⟩ := hS; exact Nat.le_of_lt o.lt)
  have HC := Lib.hid hc
  have HA := Lib.hid ha
  have HN := Lib.hid hn
  have HS0 := Lib.hid hS
  have HH := Lib.hid hh
  have HB0 := Lib.hid hbs
  have HW := Lib.hid hs
  clear hc ha hn hS hh hbs hs
  go_enter Tryd.func73, Tryd.ntmps73
  go_wp2
  go_loopw [10] (fun i wr => ∃ k : Nat, k ≤ n ∧ i = .int .i64 k ∧ Hid (LayS base lb fb wr (ls ++ (l.take k).map (varL kw)) (left - (wls ((l.take k).map (varL kw)) : Nat)) ∧ Below base w wr ∧ KeepO w wr)) (fun i _ => n - (intOf i).toNat)
  case atStart => exact ⟨0, Nat.zero_le _, rfl, Lib.hid ⟨by simpa [wls] using HS0.out, Below.refl _ _, KeepO.refl _⟩⟩
  case round =>
  obtain ⟨k, hk, rfl, HR⟩ := hrel
  by_cases hlt : k < n
  · obtain ⟨⟨nm, ty⟩, hx⟩ : ∃ x, l[k]? = some x := ⟨_, List.getElem?_eq_getElem (by have := HN.out; omega)⟩
    obtain ⟨rfl, _, hb1⟩ := HA.out (by omega)
    obtain ⟨cs, _, q1, rfl⟩ := HC.out k _ hx
    obtain ⟨n0, n1⟩ := at2 (cells_later q1 HR.out.2.1 (show b < base by have := HH.out; omega))
    have hbs2 : base ≤ wr.heap.size := Nat.le_trans HB0.out HR.out.2.1.size
    have hbx : Below wr.heap.size wr ((wr.alloc (.cells #[str nm, str ty] 82)).alloc (.cells #[.string s, str nm, str ty] 9)) := ((Below.refl _ _).alloc (Nat.le_refl _) _).alloc (by simp) _
    have hrow := made_row (base := base) (g := wr.heap.size + 1) (w := wr.alloc (.cells #[str nm, str ty] 82)) [.string s, str nm, str ty] [kw, nm, ty] rfl (by simp) (by simp; omega) (by simp [LinesM.strs, ← HW.out]) (by simp)
    have hnx : wls ((l.take (k + 1)).map (varL kw)) = wls ((l.take k).map (varL kw)) + wlen [kw, nm, ty] := by rw [LinesM.take_next hx, List.map_append, wls_app]; exact congrArg _ (wls_one _)
    have hmx := wls_take (varL kw) l (k + 1)
    have QL := Lib.hid (lay_any _ base lb fb (ls ++ (l.take k).map (varL kw)) _ (.slice (some ⟨wr.heap.size + 1, 0, none⟩) 3 3) [kw, nm, ty] (lays_below HR.out.1 hbx) hrow (by rw [List.length_append, List.length_map, List.length_take]; omega) (by simp) (by omega) (by omega))
    have HB2 := Lib.hid (HR.out.2.1.trans (hbx.mono hbs2))
    have HK2 := Lib.hid (HR.out.2.2.trans (KeepO.of_below hbx))
    have HX := Lib.hid hx
    clear hbx hrow hnx hmx hx q1 hbs2
    go_wp2_with ((with_reducible refine QL.out.mono ?_); rintro e w9 ⟨rfl, hp⟩; have HP := Lib.hid (LaidP.next HB2.out HK2.out hp); clear hp)
    go_roundw
    case rel =>
      refine ⟨k + 1, by omega, by go_num, Lib.hid ?_⟩
      have e : (l.take (k + 1)).map (varL kw) = (l.take k).map (varL kw) ++ [[kw, nm, ty]] := by rw [LinesM.take_next HX.out, List.map_append]; rfl
      rw [e]
      exact HP.out
    case measure => simp [intOf]; omega
  · have hkn : l.take k = l := List.take_of_length_le (by have := HN.out; omega)
    rw [hkn] at HR
    go_wp2
    go_end0
    exact ⟨rfl, HR.out⟩
end Go.Proofs.YtdgmdpphimenjaaDoor.Sh6

/-
  Package show: the words of frames, walked.
-/
namespace Go.Proofs.YtdgmdpphimenjaaDoor.Sh6
open Go.RowKit Api Syn WordM Mem Rd5

set_option maxRecDepth 100000 in
set_option maxHeartbeats 8000000 in
theorem frameWords_any (lo hi : Nat) (w : World) (cs : List Value) (x : Api.Frame) (hx : FrameC lo hi w cs x) (hh : hi ≤ w.heap.size) (hP : NumM.In x.pos) (hI : ∀ b ∈ x.vars, argI b.a) (hl : x.vars.length ≤ 1048576) :
    Calls Tryd.prog 106 #[.agg cs.toArray] w (WordsP w (frameL x)) := by
  obtain ⟨i0, hi0, hz0, hz1, hz2⟩ := info_parts s_info
  have Hi := Lib.hid hi0
  have Hz0 := Lib.hid hz0
  have Hz1 := Lib.hid hz1
  have Hz2 := Lib.hid hz2
  clear hi0 hz0 hz1 hz2
  obtain ⟨u, rfl, kd⟩ := hx
  obtain ⟨fn, bk, ps, l⟩ := x
  simp only at kd hl hI hP ⊢
  obtain ⟨A, n, cap, b, off, rfl, hn, hm, ha, hc⟩ := kd
  show Calls Tryd.prog 106 #[.agg #[str fn, str bk, i64 ps, .slice A n cap]] w _
  have hn2 : n ≤ 1048576 := by omega
  have HC := Lib.hid hc
  have HA := Lib.hid ha
  have HN := Lib.hid hn
  have HI := Lib.hid hI
  obtain ⟨sp, hsp⟩ : ∃ s : ByteArray, s.data.toList = NumM.dec ps := ⟨⟨(NumM.dec ps).toArray⟩, rfl⟩
  have QN := Lib.hid (num_as ps hP sp hsp)
  have HSP := Lib.hid hsp
  clear hc ha hn hI hl hP hsp
  go_enter Tryd.func106, Tryd.ntmps106
  go_wp2_with fail
  go_region_law (go_simp; go_at_call 74; (with_reducible refine (QN.out _).mono ?_); rintro e w5 ⟨rfl, hb5⟩; have hb7 := (Below.refl _ _).drew.trans hb5; have p0 := own_hold6 (Own.made w 109 [str fn, str bk, i64 ps, .slice A n cap]) hb7 (by simp) 0 rfl; have p1 := own_hold6 (Own.made w 109 [str fn, str bk, i64 ps, .slice A n cap]) hb7 (by simp) 1 rfl; have p2 := own_hold6 (Own.made w 109 [str fn, str bk, i64 ps, .slice A n cap]) hb7 (by simp) 2 rfl; have HP3 := Lib.hid (own_hold6 (Own.made w 109 [str fn, str bk, i64 ps, .slice A n cap]) hb7 (by simp) 3 rfl); have HB5 := Lib.hid (((Below.refl w.heap.size w).alloc (Nat.le_refl _) (.cells #[str fn, str bk, i64 ps, .slice A n cap] 109)).trans (hb7.mono (by simp))); clear hb5 hb7)
  all_goals
    have p3 := al_cell (x := .cells #[.string ⟨#[97, 116]⟩, str fn, str bk, .string sp] 9) HP3.out
    have p3b := HP3.out
    have l0 : w.heap.size < w5.heap.size := World.block_lt_of_cell? w5 _ HP3.out
    have hm2 := made_row (base := w.heap.size) (g := w5.heap.size) (w := w5) [.string ⟨#[97, 116]⟩, str fn, str bk, .string sp] [kAt, fn, bk, NumM.dec ps] rfl rfl HB5.out.size (by simp [LinesM.strs, ← HSP.out, kAt]) (by simp)
    have HM2 := Lib.hid hm2
    have HB2 := Lib.hid (HB5.out.alloc HB5.out.size (.cells #[.string ⟨#[97, 116]⟩, str fn, str bk, .string sp] 9))
    clear hm2
    go_wp2_with fail
    clear p0 p1 p2 p3 p3b
    go_loopw [3, 17] (fun u i wr => ∃ k : Nat, k ≤ n ∧ i = .int .i64 k ∧ Hid (wr.ownsRow w.heap.size 9 1 u (4 + 2 * k) (LinesM.strs (kAt :: fn :: bk :: NumM.dec ps :: (l.take k).flatMap bindL))) ∧ Hid (Below w.heap.size w wr)) (fun _ i _ => n - (intOf i).toNat)
    case atStart => exact ⟨0, Nat.zero_le _, rfl, HM2, HB2⟩
    case round =>
    obtain ⟨k, hk, rfl, HO, HBr⟩ := hrel
    by_cases hlt : k < n
    · obtain ⟨⟨bn, ak, as_, an⟩, hx⟩ : ∃ x, l[k]? = some x := ⟨_, List.getElem?_eq_getElem (by have := HN.out; omega)⟩
      obtain ⟨rfl, _, hb1⟩ := HA.out (by omega)
      obtain ⟨cs, _, q1, rfl⟩ := HC.out k _ hx
      obtain ⟨n0, n1, n2, n3⟩ := at4 (cells_later q1 HBr.out (show b < w.heap.size by omega))
      obtain ⟨s, hs⟩ : ∃ s : ByteArray, s.data.toList = putA ⟨ak, as_, an⟩ := ⟨⟨(putA ⟨ak, as_, an⟩).toArray⟩, rfl⟩
      have Q := Lib.hid (put_as ⟨ak, as_, an⟩ (HI.out _ (List.mem_of_getElem? hx)) s hs)
      have hnx : LinesM.strs (kAt :: fn :: bk :: NumM.dec ps :: (l.take (k + 1)).flatMap bindL) = LinesM.strs (kAt :: fn :: bk :: NumM.dec ps :: (l.take k).flatMap bindL) ++ [str bn, .string s] := by
        rw [LinesM.take_next hx, List.flatMap_append, ← List.cons_append, ← List.cons_append, ← List.cons_append, ← List.cons_append, strs_app]
        congr 1
        simp [bindL, LinesM.strs, ← hs]
      have HNX := Lib.hid hnx
      clear q1 hx hs hnx
      have al0 : ∀ (c : Nat) (u : Value), [str bn, i64 ak, str as_, i64 an][c]? = some u → ∀ w', Below (wr.heap.size + 1) (wr.alloc (.cells #[str bn, i64 ak, str as_, i64 an] 111)) w' → w'.cell? ⟨wr.heap.size, c, none⟩ = some u := fun c u hu w' hb => own_hold6 (Own.made wr 111 [str bn, i64 ak, str as_, i64 an]) hb (Nat.lt_succ_self _) c hu
      have AL := Lib.hid al0
      clear al0
      go_wp2_with fail
      go_region_law (first
        | (go_simp; go_at_call 104; (with_reducible refine (Q.out _).mono ?_); rintro e w5 ⟨rfl, hb5⟩; have hb5' : Below wr.heap.size wr w5 := (((Below.refl wr.heap.size wr).alloc (Nat.le_refl _) _).drew).trans (hb5.mono (by simp)); have HO5 := Lib.hid (LinesM.own_below HO.out hb5'); have HB5 := Lib.hid (HBr.out.trans (hb5'.mono HBr.out.size)); have p0 := AL.out 0 _ rfl w5 ((Below.refl _ _).drew.trans (hb5.mono (by simp))); clear hb5 hb5')
        | (refine step_app (w0 := w5) rfl _ _ 41 (by rfl) w.heap.size 9 i0 (.string ⟨#[]⟩) 1 16 Tryd.underlying41 Hi.out Hz0.out Hz1.out Hz2.out rfl (by decide) _ (4 + 2 * k) _ (by rfl) HO5.out [str bn, .string s] 2 (by rfl) _ (by rfl) (by rfl) rfl (by simp [Value.oneCell']) (by unfold maxLen; omega) (by omega) HB5.out.size ?_; intro v' w6 hown6 hg6; have HO6 := Lib.hid hown6; have HB6 := Lib.hid (LinesM.below_grown HB5.out HO5.out hg6 HB5.out.size (Nat.le_refl _)); clear hown6 hg6))
      all_goals
        go_wp2
        go_roundw
        case rel => exact ⟨k + 1, by omega, by go_num, Lib.hid (by rw [HNX.out]; exact HO6.out), HB6⟩
        case measure => simp [intOf]; omega
    · have hkn : k = l.length := by have := HN.out; omega
      have HO2 : Hid (wr.ownsRow w.heap.size 9 1 u3 (frameL ⟨fn, bk, ps, l⟩).length (LinesM.strs (frameL ⟨fn, bk, ps, l⟩))) := Lib.hid (by
        have h1 := HO.out
        rw [List.take_of_length_le (by omega)] at h1
        have h2 : (frameL ⟨fn, bk, ps, l⟩).length = 4 + 2 * k := by
          rw [hkn]
          unfold frameL
          simp only [List.length_cons]
          have := pair_len l
          omega
        rw [h2]
        exact h1)
      clear hkn HO
      go_wp2
      go_ret
      exact ⟨_, rfl, HO2.out, HBr.out⟩
end Go.Proofs.YtdgmdpphimenjaaDoor.Sh6

/-
  Package show: the lines of an instruction, laid.
-/
namespace Go.Proofs.YtdgmdpphimenjaaDoor.Sh6
open Go.RowKit Api Syn WordM Mem Rd5
open LinesM hiding Wd

/-- So far the lines T are laid. -/
def Laid (base lb fb : Nat) (w : World) (ls : List (List Wd)) (left : Int) (T : List (List Wd)) (w' : World) : Prop :=
  LayS base lb fb w' (ls ++ T) (left - (wls T : Nat)) ∧ Below base w w' ∧ KeepO w w'
theorem Laid.start {base lb fb : Nat} {w w' : World} {ls : List (List Wd)} {left : Int} (h : LayS base lb fb w ls left) (hb : Below w.heap.size w w') : Laid base lb fb w ls left [] w' := by
  have hbs : base ≤ w.heap.size := Nat.le_trans h.1 (by obtain ⟨_, _, _, _, _, o, _⟩ := h; exact Nat.le_of_lt o.lt)
  exact ⟨by simpa [wls] using lays_below h hb, hb.mono hbs, KeepO.of_below hb⟩
theorem Laid.size {base lb fb : Nat} {w w' : World} {ls : List (List Wd)} {left : Int} {T : List (List Wd)} (h : Laid base lb fb w ls left T w') : base ≤ w'.heap.size := by
  obtain ⟨⟨h1, _, _, _, _, o, _⟩, _⟩ := h
  exact Nat.le_trans h1 (Nat.le_of_lt o.lt)
theorem Laid.below {base lb fb : Nat} {w w1 w' : World} {ls : List (List Wd)} {left : Int} {T : List (List Wd)} (h : Laid base lb fb w ls left T w1) (hb : Below w1.heap.size w1 w') : Laid base lb fb w ls left T w' :=
  ⟨lays_below h.1 hb, h.2.1.trans (hb.mono h.size), h.2.2.trans (KeepO.of_below hb)⟩
theorem len_wlen (ws : List Wd) : ws.length ≤ wlen ws := by
  unfold wlen
  induction ws with
  | nil => simp
  | cons x l ih => simp; omega
/-- A line more. -/
theorem Laid.more {base lb fb : Nat} {w w1 : World} {ls : List (List Wd)} {left : Int} {T : List (List Wd)} {ws : List Wd} {v : Value} (h : Laid base lb fb w ls left T w1) (hv : w1.ownsRow base 9 1 v ws.length (LinesM.strs ws)) (hl : ls.length + T.length ≤ 1099511627776) (hT : wls (T ++ [ws]) ≤ 1099511627776) (h1 : -1152921504606846976 ≤ left) (h2 : left ≤ 4194304) :
    Calls Tryd.prog 45 #[v, .pointer (some ⟨fb, 0, none⟩), .pointer (some ⟨lb, 0, none⟩)] w1 fun e w' => e = .returned (.tuple #[]) ∧ Laid base lb fb w ls left (T ++ [ws]) w' ∧ KeepO w1 w' := by
  rw [wls_app, wls_one] at hT
  have hn := len_wlen ws
  refine (lay_any w1 base lb fb _ _ v ws h.1 hv (by rw [List.length_append]; omega) (by omega) (by omega) (by omega)).mono ?_
  rintro e w9 ⟨rfl, hp⟩
  exact ⟨rfl, LaidP.next h.2.1 h.2.2 hp, hp.2.2⟩
theorem wls_pre (A B : List (List Wd)) : wls A ≤ wls (A ++ B) := by rw [wls_app]; omega
theorem wls_takes {α : Type} (f : α → List Wd) (T B : List (List Wd)) (l : List α) (k : Nat) : wls (T ++ (l.take k).map f) ≤ wls (T ++ (l.map f ++ B)) := by
  rw [wls_app, wls_app, wls_app]
  have := wls_take f l k
  omega
theorem state_right {x : Instr} (h : instrR x = true) : ((∀ f ∈ x.frames, frameR f = true) ∧ x.frames.length ≤ 16) ∧ ((∀ o ∈ x.objs, virtR o = true) ∧ x.objs.length ≤ 99) := by
  unfold instrR at h
  simp only [Bool.and_eq_true] at h
  have hs := h.2.2.2.2.2
  unfold stateR at hs
  split at hs
  · simp only [Bool.and_eq_true, decide_eq_true_eq, List.length_eq_zero_iff] at hs
    rw [hs.1, hs.2]
    simp
  · simp only [Bool.and_eq_true] at hs
    unfold allR at hs
    simp only [Bool.and_eq_true, decide_eq_true_eq, List.all_eq_true] at hs
    exact ⟨⟨hs.1.2, hs.1.1⟩, ⟨hs.2.2, hs.2.1⟩⟩
theorem frame_right {f : Api.Frame} (h : frameR f = true) : NumM.In f.pos ∧ f.vars.length ≤ 16 := by
  unfold frameR allR at h
  simp only [Bool.and_eq_true, decide_eq_true_eq] at h
  exact ⟨by unfold NumM.In; omega, h.2.2.2.1⟩
theorem virt_right {o : Virt} (h : virtR o = true) : o.vals.length ≤ 8 := by
  unfold virtR allR at h
  simp only [Bool.and_eq_true, decide_eq_true_eq] at h
  exact h.2.1
set_option maxRecDepth 100000 in
set_option maxHeartbeats 8000000 in
theorem layInstr_any (lo hi : Nat) (w : World) (base lb fb : Nat) (ls : List (List Wd)) (left : Int) (cs : List Value) (x : Instr) (hx : InstrC lo hi w cs x) (hh : hi ≤ base) (hL : LaidS w) (hR : instrR x = true) (hI : instrI x) (hS : LayS base lb fb w ls left) (hl : ls.length ≤ 549755813888) (hT : wls (instrLs x) ≤ 549755813888) (h1 : -1152921504606846976 ≤ left) (h2 : left ≤ 4194304) :
    Calls Tryd.prog 76 #[.agg cs.toArray, layV fb lb] w (LaidP base lb fb w ls left (instrLs x)) := by
  have hbs : base ≤ w.heap.size := Nat.le_trans hS.1 (by obtain ⟨_, _, _, _, _, o, _⟩ := hS; exact Nat.le_of_lt o.lt)
  have hx0 := hx
  obtain ⟨u1, u2, u3, rfl, ka, kf, ko⟩ := hx
  obtain ⟨A2, n2, c2, b2, off2, rfl, hn2, ⟨hm2, hcc2⟩, ha2, hc2⟩ := kf
  obtain ⟨A3, n3, c3, b3, off3, rfl, hn3, ⟨hm3, hcc3⟩, ha3, hc3⟩ := ko
  obtain ⟨A1, n1, c1, _, _, rfl, hq1, _⟩ := ka
  clear hq1
  obtain ⟨W, hW⟩ : ∃ W, w.alloc (.cells #[i64 x.op, str x.dst, str x.name, .slice A1 n1 c1, .slice A2 n2 c2, .slice A3 n3 c3] 72) = W := ⟨_, rfl⟩
  have hO : Own W w.heap.size 72 [i64 x.op, str x.dst, str x.name, .slice A1 n1 c1, .slice A2 n2 c2, .slice A3 n3 c3] := by rw [← hW]; exact Own.made w _ [i64 x.op, str x.dst, str x.name, .slice A1 n1 c1, .slice A2 n2 c2, .slice A3 n3 c3]
  have hbW : Below w.heap.size w W := by rw [← hW]; exact (Below.refl _ _).alloc (Nat.le_refl _) _
  have QI := Lib.hid (instrWords_any lo hi W _ x (InstrC.move (Still.of_below (hbW.mono (Nat.le_trans hh hbs))) hx0) (Nat.le_trans (Nat.le_trans hh hbs) hbW.size) hI.1 (hL.below hbW (Nat.le_refl _)) hR)
  have HS0 := Lib.hid (Laid.start hS hbW)
  have HO := Lib.hid hO
  have HW := Lib.hid hW
  have HT := Lib.hid hT
  have HC2 := Lib.hid hc2
  have HC3 := Lib.hid hc3
  have HA2 := Lib.hid ha2
  have HA3 := Lib.hid ha3
  have HN2 := Lib.hid hn2
  have HN3 := Lib.hid hn3
  have HR := Lib.hid hR
  have HI := Lib.hid hI
  have HH := Lib.hid hh
  clear hO hW hT hc2 hc3 ha2 ha3 hn2 hn3 hR hI hx0 hbW hS hL hh hbs hcc2 hcc3
  go_enter Tryd.func76, Tryd.ntmps76
  go_wp2_with fail
  rw [HW.out]
  refine QI.out.mono ?_
  rintro e w5 ⟨v5, rfl, ho5, hb5⟩
  have HL5 := Lib.hid (HS0.out.below hb5)
  have HR5 := Lib.hid (LinesM.own_lower ho5 HS0.out.size)
  have HO5 := Lib.hid (HO.out.below hb5 HO.out.lt)
  clear ho5 hb5
  have hT1 : wls ([] ++ [instrL x]) ≤ 1099511627776 := by
    have h := HT.out
    unfold instrLs at h
    have h3 := wls_pre [instrL x] (x.frames.map frameL ++ x.objs.map virtL)
    simp only [List.cons_append, List.nil_append] at h3 ⊢
    omega
  have QL := Lib.hid (Laid.more HL5.out HR5.out (by simp; omega) hT1 h1 h2)
  clear hT1
  go_wp2_with ((with_reducible refine QL.out.mono ?_); rintro e w7 ⟨rfl, hp, hk7⟩; have HP7 := Lib.hid hp; have HO7 := Lib.hid (hk7 _ _ _ HO5.out (by decide) (by decide) (by decide)); have g4 := HO7.out.cell 4; have g5 := HO7.out.cell 5; simp only [List.getElem?_cons_succ, List.getElem?_cons_zero] at g4 g5; clear hp hk7)
  clear g4 g5
  go_loopw [15] (fun i wr => ∃ k : Nat, k ≤ n2 ∧ i = .int .i64 k ∧ Hid (Laid base lb fb w ls left (([] ++ [instrL x]) ++ (x.frames.take k).map frameL) wr) ∧ Hid (Own wr w.heap.size 72 [i64 x.op, str x.dst, str x.name, .slice A1 n1 c1, .slice A2 n2 c2, .slice A3 n3 c3])) (fun i _ => n2 - (intOf i).toNat)
  case atStart => exact ⟨0, Nat.zero_le _, rfl, Lib.hid (by simpa using HP7.out), HO7⟩
  case round =>
  obtain ⟨k, hk, rfl, HP, HOr⟩ := hrel
  by_cases hlt : k < n2
  · obtain ⟨f, hf⟩ : ∃ y, x.frames[k]? = some y := ⟨_, List.getElem?_eq_getElem (by have := HN2.out; omega)⟩
    obtain ⟨rfl, _, hb1⟩ := HA2.out (by omega)
    obtain ⟨cs, _, q1, hfc⟩ := HC2.out k _ hf
    have hmem := List.mem_of_getElem? hf
    have hfr := frame_right ((state_right HR.out).1.1 f hmem)
    have hfi := HI.out.2.1 f hmem
    have hlen := (state_right HR.out).1.2
    have hf0 := hfc
    obtain ⟨u, rfl, hbf⟩ := hfc
    obtain ⟨B4, c4, rfl⟩ := hbf.form
    clear hbf
    obtain ⟨n0, n1', n2', n3'⟩ := at4 (cells_later q1 HP.out.2.1 (show b2 < base by have := HH.out; omega))
    obtain ⟨fn, bk, ps, fv⟩ := f
    simp only at hf0 hfr hfi n0 n1' n2' n3'
    have hbx : Below wr.heap.size wr (wr.alloc (.cells #[str fn, str bk, i64 ps, .slice B4 fv.length c4] 109)) := (Below.refl _ _).alloc (Nat.le_refl _) _
    have e1 : (([] ++ [instrL x]) ++ (x.frames.take k).map frameL) ++ [frameL ⟨fn, bk, ps, fv⟩] = ([] ++ [instrL x]) ++ (x.frames.take (k + 1)).map frameL := by rw [LinesM.take_next hf, List.map_append, List.append_assoc]; rfl
    have hT2 : wls ((([] ++ [instrL x]) ++ (x.frames.take k).map frameL) ++ [frameL ⟨fn, bk, ps, fv⟩]) ≤ 1099511627776 := by
      have h := HT.out
      unfold instrLs at h
      have h3 := wls_takes frameL [instrL x] (x.objs.map virtL) x.frames (k + 1)
      rw [e1]
      simp only [List.cons_append, List.nil_append] at h3 ⊢
      omega
    have HL8 := Lib.hid (HP.out.below hbx)
    have HO8 := Lib.hid (HOr.out.below hbx HOr.out.lt)
    have QF := Lib.hid (frameWords_any lo hi _ _ ⟨fn, bk, ps, fv⟩ (FrameC.move (Still.of_below (HL8.out.2.1.mono HH.out)) hf0) (Nat.le_trans HH.out HL8.out.size) hfr.1 hfi (by simp only; omega))
    have HT2 := Lib.hid hT2
    have HE1 := Lib.hid e1
    have hlen2 : ls.length + (([] ++ [instrL x]) ++ (x.frames.take k).map frameL).length ≤ 1099511627776 := by simp; omega
    have HLN := Lib.hid hlen2
    clear hlen2 hT2 e1 hbx hf0 hfr hfi hlen hmem hf q1
    go_wp2_with (first
      | ((with_reducible refine QF.out.mono ?_); rintro e w9 ⟨v9, rfl, ho9, hb9⟩; have HL9 := Lib.hid (HL8.out.below hb9); have HR9 := Lib.hid (LinesM.own_lower ho9 HL8.out.size); have HO9 := Lib.hid (HO8.out.below hb9 HO8.out.lt); clear ho9 hb9)
      | ((with_reducible refine (Laid.more HL9.out HR9.out HLN.out HT2.out h1 h2).mono ?_); rintro e w11 ⟨rfl, hp, hk11⟩; have HP11 := Lib.hid hp; have HO11 := Lib.hid (hk11 _ _ _ HO9.out (by decide) (by decide) (by decide)); clear hp hk11))
    go_roundw
    case rel => exact ⟨k + 1, by omega, by go_num, Lib.hid (by rw [← HE1.out]; exact HP11.out), HO11⟩
    case measure => simp [intOf]; omega
  · have hkn : x.frames.take k = x.frames := List.take_of_length_le (by have := HN2.out; omega)
    rw [hkn] at HP
    have g5 := HOr.out.cell 5
    simp only [List.getElem?_cons_succ, List.getElem?_cons_zero] at g5
    go_wp2
    clear g5 hlt hk hkn HC2 HA2 HN2
    go_loopw [27] (fun i wr => ∃ k : Nat, k ≤ n3 ∧ i = .int .i64 k ∧ Hid (Laid base lb fb w ls left ((([] ++ [instrL x]) ++ x.frames.map frameL) ++ (x.objs.take k).map virtL) wr)) (fun i _ => n3 - (intOf i).toNat)
    case atStart => exact ⟨0, Nat.zero_le _, rfl, Lib.hid (by simpa using HP.out)⟩
    case round =>
    obtain ⟨k, hk, rfl, HQ⟩ := hrel
    by_cases hlt : k < n3
    · obtain ⟨f, hf⟩ : ∃ y, x.objs[k]? = some y := ⟨_, List.getElem?_eq_getElem (by have := HN3.out; omega)⟩
      obtain ⟨rfl, _, hb1⟩ := HA3.out (by omega)
      obtain ⟨cs, _, q1, hfc⟩ := HC3.out k _ hf
      have hmem := List.mem_of_getElem? hf
      have hfr := virt_right ((state_right HR.out).2.1 f hmem)
      have hfi := HI.out.2.2 f hmem
      have hlen := (state_right HR.out).2.2
      have hlen1 := (state_right HR.out).1.2
      have hf0 := hfc
      obtain ⟨u, rfl, hbf⟩ := hfc
      obtain ⟨B4, c4, rfl⟩ := hbf.form
      clear hbf
      obtain ⟨n0, n1'⟩ := at2 (cells_later q1 HQ.out.2.1 (show b3 < base by have := HH.out; omega))
      obtain ⟨fn, fv⟩ := f
      simp only at hf0 hfr hfi n0 n1'
      have hbx : Below wr.heap.size wr (wr.alloc (.cells #[str fn, .slice B4 fv.length c4] 113)) := (Below.refl _ _).alloc (Nat.le_refl _) _
      have e1 : ((([] ++ [instrL x]) ++ x.frames.map frameL) ++ (x.objs.take k).map virtL) ++ [virtL ⟨fn, fv⟩] = (([] ++ [instrL x]) ++ x.frames.map frameL) ++ (x.objs.take (k + 1)).map virtL := by rw [LinesM.take_next hf, List.map_append, List.append_assoc]; rfl
      have hT2 : wls (((([] ++ [instrL x]) ++ x.frames.map frameL) ++ (x.objs.take k).map virtL) ++ [virtL ⟨fn, fv⟩]) ≤ 1099511627776 := by
        have h := HT.out
        unfold instrLs at h
        have h3 := wls_takes virtL ([instrL x] ++ x.frames.map frameL) [] x.objs (k + 1)
        rw [e1]
        simp only [List.cons_append, List.nil_append, List.append_nil] at h3 ⊢
        omega
      have HL8 := Lib.hid (HQ.out.below hbx)
      have QF := Lib.hid (virtWords_any lo hi _ _ ⟨fn, fv⟩ (VirtC.move (Still.of_below (HL8.out.2.1.mono HH.out)) hf0) (Nat.le_trans HH.out HL8.out.size) hfi (by simp only; omega))
      have HT2 := Lib.hid hT2
      have HE1 := Lib.hid e1
      have hlen2 : ls.length + ((([] ++ [instrL x]) ++ x.frames.map frameL) ++ (x.objs.take k).map virtL).length ≤ 1099511627776 := by simp; omega
      have HLN := Lib.hid hlen2
      clear hlen2 hT2 e1 hbx hf0 hfr hfi hlen hlen1 hmem hf q1
      go_wp2_with (first
        | ((with_reducible refine QF.out.mono ?_); rintro e w9 ⟨v9, rfl, ho9, hb9⟩; have HL9 := Lib.hid (HL8.out.below hb9); have HR9 := Lib.hid (LinesM.own_lower ho9 HL8.out.size); clear ho9 hb9)
        | ((with_reducible refine (Laid.more HL9.out HR9.out HLN.out HT2.out h1 h2).mono ?_); rintro e w11 ⟨rfl, hp, _⟩; have HP11 := Lib.hid hp; clear hp))
      go_roundw
      case rel => exact ⟨k + 1, by omega, by go_num, Lib.hid (by rw [← HE1.out]; exact HP11.out)⟩
      case measure => simp [intOf]; omega
    · have hkn : x.objs.take k = x.objs := List.take_of_length_le (by have := HN3.out; omega)
      rw [hkn] at HQ
      go_wp2
      go_end0
      refine ⟨rfl, ?_⟩
      have h9 := HQ.out
      have e : (([] ++ [instrL x]) ++ x.frames.map frameL) ++ x.objs.map virtL = instrLs x := by unfold instrLs; simp
      rw [e] at h9
      exact h9
end Go.Proofs.YtdgmdpphimenjaaDoor.Sh6

/-
  Package show: the heads of a program, laid.
-/
namespace Go.Proofs.YtdgmdpphimenjaaDoor.Sh6
open Go.RowKit Api Syn WordM Mem Rd5
open LinesM hiding Wd

/-- More lines, laid by a call of its own. -/
theorem Laid.lines {base lb fb : Nat} {w w1 w' : World} {ls : List (List Wd)} {left : Int} {T T2 : List (List Wd)} {e : Ending} (h : Laid base lb fb w ls left T w1) (h2 : LaidP base lb fb w1 (ls ++ T) (left - (wls T : Nat)) T2 e w') : e = .returned (.tuple #[]) ∧ Laid base lb fb w ls left (T ++ T2) w' ∧ KeepO w1 w' := by
  obtain ⟨he, hs, hb, hk⟩ := h2
  refine ⟨he, ⟨?_, h.2.1.trans hb, h.2.2.trans hk⟩, hk⟩
  have e1 : left - (wls T : Nat) - (wls T2 : Nat) = left - (wls (T ++ T2) : Nat) := by rw [wls_app]; omega
  rw [List.append_assoc, e1] at hs
  exact hs
/-- The variables' lines, behind those that are laid. -/
theorem Laid.vars {lo hi : Nat} {base lb fb : Nat} {w w1 : World} {ls : List (List Wd)} {left : Int} {T : List (List Wd)} {v : Value} {l : List Var} (h : Laid base lb fb w ls left T w1) (kw : Wd) (s : ByteArray) (hs : s.data.toList = kw) (hv : Vars lo hi w1 v l) (hh : hi ≤ base) (hl : ls.length + T.length + l.length ≤ 1099511627776) (hT : wls (T ++ l.map (varL kw)) ≤ 1099511627776) (h1 : -1152921504606846976 ≤ left) (h2 : left ≤ 4194304) :
    Calls Tryd.prog 73 #[.string s, v, layV fb lb] w1 fun e w' => e = .returned (.tuple #[]) ∧ Laid base lb fb w ls left (T ++ l.map (varL kw)) w' ∧ KeepO w1 w' := by
  rw [wls_app] at hT
  refine (layVars_any lo hi w1 base lb fb _ _ kw s hs v l hv hh h.1 (by rw [List.length_append]; omega) (by omega) (by omega)).mono ?_
  intro e w9 hp
  exact h.lines hp
/-- An instruction's lines, behind those that are laid. -/
theorem Laid.instr {lo hi : Nat} {base lb fb : Nat} {w w1 : World} {ls : List (List Wd)} {left : Int} {T : List (List Wd)} {cs : List Value} {x : Instr} (h : Laid base lb fb w ls left T w1) (hx : InstrC lo hi w1 cs x) (hh : hi ≤ base) (hL : LaidS w1) (hR : instrR x = true) (hI : instrI x) (hl : ls.length + T.length ≤ 549755813888) (hT : wls (T ++ instrLs x) ≤ 549755813888) (h1 : -576460752303423488 ≤ left) (h2 : left ≤ 4194304) :
    Calls Tryd.prog 76 #[.agg cs.toArray, layV fb lb] w1 fun e w' => e = .returned (.tuple #[]) ∧ Laid base lb fb w ls left (T ++ instrLs x) w' ∧ KeepO w1 w' := by
  rw [wls_app] at hT
  refine (layInstr_any lo hi w1 base lb fb _ _ cs x hx hh hL hR hI h.1 (by rw [List.length_append]; omega) (by omega) (by omega) (by omega)).mono ?_
  intro e w9 hp
  exact h.lines hp
def headLs (q : Prog) : List (List Wd) := (if q.ssa then [[kSsa]] else []) ++ (q.classes.flatMap classLs ++ (q.globals.map (varL kGlobal) ++ q.externs.map externL))
theorem flat_wls {α : Type} (f : α → List (List Wd)) (l : List α) (k : Nat) : wls ((l.take k).flatMap f) ≤ wls (l.flatMap f) := by
  have : wls (l.flatMap f) = wls ((l.take k).flatMap f) + wls ((l.drop k).flatMap f) := by rw [← wls_app, ← List.flatMap_append, List.take_append_drop]
  omega
theorem flat_len {α : Type} (f : α → List (List Wd)) (l : List α) (k : Nat) : ((l.take k).flatMap f).length ≤ (l.flatMap f).length := by
  have : (l.flatMap f).length = ((l.take k).flatMap f).length + ((l.drop k).flatMap f).length := by rw [← List.length_append, ← List.flatMap_append, List.take_append_drop]
  omega
set_option maxRecDepth 100000 in
set_option maxHeartbeats 8000000 in
theorem layHeads_true (lo hi : Nat) (w : World) (base lb fb : Nat) (ls : List (List Wd)) (left : Int) (A1 A2 A3 A4 : Option Addr) (n1 n2 n3 n4 c1 c2 c3 c4 : Nat) (cl : List Class) (gl : List Var) (ex : List Extern) (k1 : Classes lo hi w (.slice A1 n1 c1) cl) (k2 : Vars lo hi w (.slice A2 n2 c2) gl) (k3 : Externs lo hi w (.slice A3 n3 c3) ex) (hh : hi ≤ base) (hE : ∀ e ∈ ex, NumM.In e.n) (hS : LayS base lb fb w ls left) (hl : ls.length ≤ 274877906944) (hN : ([[kSsa]] ++ (cl.flatMap classLs ++ (gl.map (varL kGlobal) ++ ex.map externL))).length ≤ 274877906944) (hT : wls ([[kSsa]] ++ (cl.flatMap classLs ++ (gl.map (varL kGlobal) ++ ex.map externL))) ≤ 274877906944) (h1 : -1152921504606846976 ≤ left) (h2 : left ≤ 4194304) :
    Calls Tryd.prog 47 #[.agg #[.bool true, .slice A1 n1 c1, .slice A2 n2 c2, .slice A3 n3 c3, .slice A4 n4 c4], layV fb lb] w (LaidP base lb fb w ls left ([[kSsa]] ++ (cl.flatMap classLs ++ (gl.map (varL kGlobal) ++ ex.map externL)))) := by
  obtain ⟨W, hW⟩ : ∃ W, w.alloc (.cells #[.bool true, .slice A1 n1 c1, .slice A2 n2 c2, .slice A3 n3 c3, .slice A4 n4 c4] 27) = W := ⟨_, rfl⟩
  have hO : Own W w.heap.size 27 [.bool true, .slice A1 n1 c1, .slice A2 n2 c2, .slice A3 n3 c3, .slice A4 n4 c4] := by rw [← hW]; exact Own.made w _ [.bool true, .slice A1 n1 c1, .slice A2 n2 c2, .slice A3 n3 c3, .slice A4 n4 c4]
  have hbW : Below w.heap.size w W := by rw [← hW]; exact (Below.refl _ _).alloc (Nat.le_refl _) _
  have hbs : base ≤ w.heap.size := Nat.le_trans hS.1 (by obtain ⟨_, _, _, _, _, o, _⟩ := hS; exact Nat.le_of_lt o.lt)
  have HS0 := Lib.hid (Laid.start hS hbW)
  have HO := Lib.hid hO
  have HW := Lib.hid hW
  have HT := Lib.hid hT
  have HN := Lib.hid hN
  have HE := Lib.hid hE
  have HH := Lib.hid hh
  have K2 := Lib.hid k2
  obtain ⟨b1, f1, hn1, hm1, ha1, hc1⟩ := k1.get
  obtain ⟨b3, f3, hn3, hm3, ha3, hc3⟩ := k3.get
  have HC1 := Lib.hid hc1
  have HC3 := Lib.hid hc3
  have HA1 := Lib.hid ha1
  have HA3 := Lib.hid ha3
  have HN1 := Lib.hid hn1
  have HN3 := Lib.hid hn3
  clear hO hW hT hN hE hh k1 k2 k3 hc1 hc3 ha1 ha3 hn1 hn3 hbW hbs hS
  go_enter Tryd.func47, Tryd.ntmps47
  have hr := made_row (base := base) (g := w.heap.size + 1) (w := W) [.string ⟨#[115, 115, 97]⟩] [kSsa] rfl (by rw [← HW.out]; simp) HS0.out.size (by simp [LinesM.strs, kSsa]) (by simp)
  have QL := Lib.hid (Laid.more (HS0.out.below ((Below.refl _ _).alloc (Nat.le_refl _) (.cells #[.string ⟨#[115, 115, 97]⟩] 9))) hr (by simp; omega) (by have := HT.out; have h3 := wls_pre [[kSsa]] (cl.flatMap classLs ++ (gl.map (varL kGlobal) ++ ex.map externL)); simp only [List.nil_append]; omega) h1 h2)
  have HO1 := Lib.hid (HO.out.alloc (.cells #[.string ⟨#[115, 115, 97]⟩] 9))
  clear hr
  go_wp2_with fail
  rw [HW.out]
  refine QL.out.mono ?_
  rintro e w7 ⟨rfl, hp, hk7⟩
  have HP7 := Lib.hid hp
  have HO7 := Lib.hid (hk7 _ _ _ HO1.out (by decide) (by decide) (by decide))
  have g1 := HO7.out.cell 1
  simp only [List.getElem?_cons_succ, List.getElem?_cons_zero] at g1
  clear hp hk7
  go_wp2
  clear g1
  go_loopw [16] (fun i wr => ∃ k : Nat, k ≤ n1 ∧ i = .int .i64 k ∧ Hid (Laid base lb fb w ls left ([[kSsa]] ++ (cl.take k).flatMap classLs) wr) ∧ Hid (Own wr w.heap.size 27 [.bool true, .slice A1 n1 c1, .slice A2 n2 c2, .slice A3 n3 c3, .slice A4 n4 c4])) (fun i _ => n1 - (intOf i).toNat)
  case atStart => exact ⟨0, Nat.zero_le _, rfl, Lib.hid (by simpa using HP7.out), HO7⟩
  case round =>
  obtain ⟨k, hk, rfl, HP, HOr⟩ := hrel
  by_cases hlt : k < n1
  · obtain ⟨⟨nm, fds⟩, hf⟩ : ∃ y, cl[k]? = some y := ⟨_, List.getElem?_eq_getElem (by have := HN1.out; omega)⟩
    obtain ⟨rfl, _, hb1⟩ := HA1.out (by omega)
    obtain ⟨cs, _, q1, u, rfl, hv⟩ := HC1.out k _ hf
    obtain ⟨B4, c4, rfl⟩ := hv.form
    simp only at q1 hv
    obtain ⟨m0, m1⟩ := at2 (cells_later q1 HP.out.2.1 (show b1 < base by have := HH.out; omega))
    have hbx : Below wr.heap.size wr ((wr.alloc (.cells #[str nm, .slice B4 fds.length c4] 49)).alloc (.cells #[.string ⟨#[99, 108, 97, 115, 115]⟩, str nm] 9)) := ((Below.refl _ _).alloc (Nat.le_refl _) _).alloc (by simp) _
    have hr := made_row (base := base) (g := wr.heap.size + 1) (w := wr.alloc (.cells #[str nm, .slice B4 fds.length c4] 49)) [.string ⟨#[99, 108, 97, 115, 115]⟩, str nm] [kClass, nm] rfl (by simp) (by have := HP.out.size; simp; omega) (by simp [LinesM.strs, kClass]) (by simp)
    have e1 : (cl.take (k + 1)).flatMap classLs = (cl.take k).flatMap classLs ++ classLs ⟨nm, fds⟩ := by rw [LinesM.take_next hf, List.flatMap_append]; simp
    have hw1 := flat_wls classLs cl (k + 1)
    have hw2 := flat_len classLs cl (k + 1)
    rw [e1, wls_app] at hw1
    rw [e1, List.length_append] at hw2
    have hT' := HT.out
    have hN' := HN.out
    rw [wls_app, wls_app] at hT'
    simp only [List.length_append, List.length_cons, List.length_nil] at hN'
    have hcl : wls (classLs ⟨nm, fds⟩) = wls [[kClass, nm]] + wls (fds.map (varL kField)) := by unfold classLs; rw [← wls_app]; rfl
    have hcn : (classLs ⟨nm, fds⟩).length = 1 + fds.length := by unfold classLs; simp; omega
    have QL := Lib.hid (Laid.more (v := .slice (some ⟨wr.heap.size + 1, 0, none⟩) 2 2) (HP.out.below hbx) hr (by simp only [List.length_append, List.length_cons, List.length_nil]; omega) (by rw [wls_app, wls_app]; omega) h1 h2)
    have HBX := Lib.hid ((Own.made wr 49 [str nm, .slice B4 fds.length c4]).alloc (.cells #[.string ⟨#[99, 108, 97, 115, 115]⟩, str nm] 9))
    have HO8 := Lib.hid (HOr.out.below hbx HOr.out.lt)
    have HV := Lib.hid hv
    have HE1 := Lib.hid e1
    have HLN : Hid (ls.length + (([[kSsa]] ++ (cl.take k).flatMap classLs) ++ [[kClass, nm]]).length + fds.length ≤ 1099511627776) := Lib.hid (by simp only [List.length_append, List.length_cons, List.length_nil]; omega)
    have HWL : Hid (wls ((([[kSsa]] ++ (cl.take k).flatMap classLs) ++ [[kClass, nm]]) ++ fds.map (varL kField)) ≤ 1099511627776) := Lib.hid (by rw [wls_app, wls_app, wls_app]; omega)
    clear hbx hr e1 hw1 hw2 hT' hN' hcl hcn hv hf q1
    go_wp2_with (first
      | ((refine QL.out.mono ?_); rintro e w9 ⟨rfl, hp, hk9⟩; have HL9 := Lib.hid hp; have HB9 := hk9 _ _ _ HBX.out (by decide) (by decide) (by decide); have HO9 := Lib.hid (hk9 _ _ _ HO8.out (by decide) (by decide) (by decide)); have p1 := HB9.cell 1; simp only [List.getElem?_cons_succ, List.getElem?_cons_zero] at p1; clear hp hk9 HB9)
      | ((refine (Laid.vars HL9.out kField ⟨#[102, 105, 101, 108, 100]⟩ rfl (Vars.move (Still.of_below (HL9.out.2.1.mono HH.out)) HV.out) HH.out HLN.out HWL.out h1 h2).mono ?_); rintro e w11 ⟨rfl, hp, hk11⟩; have HP11 := Lib.hid hp; have HO11 := Lib.hid (hk11 _ _ _ HO9.out (by decide) (by decide) (by decide)); clear hp hk11))
    go_roundw
    case rel =>
      refine ⟨k + 1, by omega, by go_num, Lib.hid ?_, HO11⟩
      have h9 := HP11.out
      rw [HE1.out]
      simpa [classLs] using h9
    case measure => simp [intOf]; omega
  · have hkn : cl.take k = cl := List.take_of_length_le (by have := HN1.out; omega)
    rw [hkn] at HP
    have g2 := HOr.out.cell 2
    have g3 := HOr.out.cell 3
    simp only [List.getElem?_cons_succ, List.getElem?_cons_zero] at g2 g3
    have HV2 := Lib.hid (Vars.move (Still.of_below (HP.out.2.1.mono HH.out)) K2.out)
    have hn' := HN.out
    have ht' := HT.out
    simp only [List.length_append, List.length_map] at hn'
    rw [wls_app, wls_app, wls_app] at ht'
    have HLN2 : Hid (ls.length + ([[kSsa]] ++ cl.flatMap classLs).length + gl.length ≤ 1099511627776) := Lib.hid (by simp only [List.length_append]; omega)
    have HWL2 : Hid (wls (([[kSsa]] ++ cl.flatMap classLs) ++ gl.map (varL kGlobal)) ≤ 1099511627776) := Lib.hid (by rw [wls_app, wls_app]; omega)
    clear hn' ht' hkn
    go_wp2_with ((refine (Laid.vars HP.out kGlobal ⟨#[103, 108, 111, 98, 97, 108]⟩ rfl HV2.out HH.out HLN2.out HWL2.out h1 h2).mono ?_); rintro e w13 ⟨rfl, hp, hk13⟩; have HP13 := Lib.hid hp; have HO13 := Lib.hid (hk13 _ _ _ HOr.out (by decide) (by decide) (by decide)); clear g2 g3; have g3 := HO13.out.cell 3; simp only [List.getElem?_cons_succ, List.getElem?_cons_zero] at g3; clear hp hk13)
    clear g3 hlt hk
    go_loopw [37] (fun i wr => ∃ k : Nat, k ≤ n3 ∧ i = .int .i64 k ∧ Hid (Laid base lb fb w ls left ((([[kSsa]] ++ cl.flatMap classLs) ++ gl.map (varL kGlobal)) ++ (ex.take k).map externL) wr)) (fun i _ => n3 - (intOf i).toNat)
    case atStart => exact ⟨0, Nat.zero_le _, rfl, Lib.hid (by simpa using HP13.out)⟩
    case round =>
    obtain ⟨k, hk, rfl, HQ⟩ := hrel
    by_cases hlt : k < n3
    · obtain ⟨⟨nm, ne⟩, hf⟩ : ∃ y, ex[k]? = some y := ⟨_, List.getElem?_eq_getElem (by have := HN3.out; omega)⟩
      obtain ⟨rfl, _, hb1⟩ := HA3.out (by omega)
      obtain ⟨cs, _, q1, rfl⟩ := HC3.out k _ hf
      obtain ⟨m0, m1⟩ := at2 (cells_later q1 HQ.out.2.1 (show b3 < base by have := HH.out; omega))
      simp only at m0 m1
      have hIn := HE.out _ (List.mem_of_getElem? hf)
      obtain ⟨sp, hsp⟩ : ∃ s : ByteArray, s.data.toList = NumM.dec ne := ⟨⟨(NumM.dec ne).toArray⟩, rfl⟩
      have QN := Lib.hid (num_as ne hIn sp hsp)
      have HSP := Lib.hid hsp
      have hn' := HN.out
      have ht' := HT.out
      simp only [List.length_append, List.length_map] at hn'
      rw [wls_app, wls_app, wls_app] at ht'
      have e1 : ((([[kSsa]] ++ cl.flatMap classLs) ++ gl.map (varL kGlobal)) ++ (ex.take k).map externL) ++ [[kExtern, nm, NumM.dec ne]] = (([[kSsa]] ++ cl.flatMap classLs) ++ gl.map (varL kGlobal)) ++ (ex.take (k + 1)).map externL := by rw [LinesM.take_next hf, List.map_append, ← List.append_assoc]; rfl
      have hw1 := wls_take externL ex (k + 1)
      have HT2 : Hid (wls (((([[kSsa]] ++ cl.flatMap classLs) ++ gl.map (varL kGlobal)) ++ (ex.take k).map externL) ++ [[kExtern, nm, NumM.dec ne]]) ≤ 1099511627776) := Lib.hid (by rw [e1, wls_app, wls_app, wls_app]; omega)
      have HE1 := Lib.hid e1
      have hl2 : ls.length + ((([[kSsa]] ++ cl.flatMap classLs) ++ gl.map (varL kGlobal)) ++ (ex.take k).map externL).length ≤ 1099511627776 := by simp only [List.length_append, List.length_map, List.length_take]; omega
      have HLN := Lib.hid hl2
      have HBX := Lib.hid (Own.made wr 51 [str nm, i64 ne])
      have HX := Lib.hid ((Below.refl wr.heap.size wr).alloc (Nat.le_refl _) (.cells #[str nm, i64 ne] 51))
      clear hn' ht' e1 hw1 hl2 hIn hsp hf q1
      go_wp2_with fail
      go_region_law (first
        | (go_simp; go_at_call 74; (with_reducible refine (QN.out _).mono ?_); rintro e w5 ⟨rfl, hb5⟩; have hb7 := (Below.refl _ _).drew.trans hb5; have p0 := own_hold6 HBX.out hb7 (by simp) 0 rfl; have HL5 := Lib.hid (HQ.out.below (HX.out.trans (hb7.mono (by simp)))); have hr := made_row (base := base) (g := w5.heap.size) (w := w5) [.string ⟨#[101, 120, 116, 101, 114, 110]⟩, str nm, .string sp] [kExtern, nm, NumM.dec ne] rfl rfl HL5.out.size (by simp [LinesM.strs, ← HSP.out, kExtern]) (by simp); have QL := Lib.hid (Laid.more (v := .slice (some ⟨w5.heap.size, 0, none⟩) 3 3) (HL5.out.below ((Below.refl _ _).alloc (Nat.le_refl _) _)) hr HLN.out HT2.out h1 h2); clear hr hb5 hb7)
        | (go_simp; (refine QL.out.mono ?_); rintro e w15 ⟨rfl, hp, _⟩; have HP15 := Lib.hid hp; clear hp))
      all_goals
        go_wp2_with fail
        go_roundw
        case rel => exact ⟨k + 1, by omega, by go_num, Lib.hid (by rw [← HE1.out]; exact HP15.out)⟩
        case measure => simp [intOf]; omega
    · have hkn : ex.take k = ex := List.take_of_length_le (by have := HN3.out; omega)
      rw [hkn] at HQ
      go_wp2
      go_end0
      refine ⟨rfl, ?_⟩
      have h9 := HQ.out
      have e : (([[kSsa]] ++ cl.flatMap classLs) ++ gl.map (varL kGlobal)) ++ ex.map externL = [[kSsa]] ++ (cl.flatMap classLs ++ (gl.map (varL kGlobal) ++ ex.map externL)) := by simp [List.append_assoc]
      rw [e] at h9
      exact h9
set_option maxRecDepth 100000 in
set_option maxHeartbeats 8000000 in
theorem layHeads_false (lo hi : Nat) (w : World) (base lb fb : Nat) (ls : List (List Wd)) (left : Int) (A1 A2 A3 A4 : Option Addr) (n1 n2 n3 n4 c1 c2 c3 c4 : Nat) (cl : List Class) (gl : List Var) (ex : List Extern) (k1 : Classes lo hi w (.slice A1 n1 c1) cl) (k2 : Vars lo hi w (.slice A2 n2 c2) gl) (k3 : Externs lo hi w (.slice A3 n3 c3) ex) (hh : hi ≤ base) (hE : ∀ e ∈ ex, NumM.In e.n) (hS : LayS base lb fb w ls left) (hl : ls.length ≤ 274877906944) (hN : ([] ++ (cl.flatMap classLs ++ (gl.map (varL kGlobal) ++ ex.map externL))).length ≤ 274877906944) (hT : wls ([] ++ (cl.flatMap classLs ++ (gl.map (varL kGlobal) ++ ex.map externL))) ≤ 274877906944) (h1 : -1152921504606846976 ≤ left) (h2 : left ≤ 4194304) :
    Calls Tryd.prog 47 #[.agg #[.bool false, .slice A1 n1 c1, .slice A2 n2 c2, .slice A3 n3 c3, .slice A4 n4 c4], layV fb lb] w (LaidP base lb fb w ls left ([] ++ (cl.flatMap classLs ++ (gl.map (varL kGlobal) ++ ex.map externL)))) := by
  obtain ⟨W, hW⟩ : ∃ W, w.alloc (.cells #[.bool false, .slice A1 n1 c1, .slice A2 n2 c2, .slice A3 n3 c3, .slice A4 n4 c4] 27) = W := ⟨_, rfl⟩
  have hO : Own W w.heap.size 27 [.bool false, .slice A1 n1 c1, .slice A2 n2 c2, .slice A3 n3 c3, .slice A4 n4 c4] := by rw [← hW]; exact Own.made w _ [.bool false, .slice A1 n1 c1, .slice A2 n2 c2, .slice A3 n3 c3, .slice A4 n4 c4]
  have hbW : Below w.heap.size w W := by rw [← hW]; exact (Below.refl _ _).alloc (Nat.le_refl _) _
  have hbs : base ≤ w.heap.size := Nat.le_trans hS.1 (by obtain ⟨_, _, _, _, _, o, _⟩ := hS; exact Nat.le_of_lt o.lt)
  have HS0 := Lib.hid (Laid.start hS hbW)
  have HO := Lib.hid hO
  have HW := Lib.hid hW
  have HT := Lib.hid hT
  have HN := Lib.hid hN
  have HE := Lib.hid hE
  have HH := Lib.hid hh
  have K2 := Lib.hid k2
  obtain ⟨b1, f1, hn1, hm1, ha1, hc1⟩ := k1.get
  obtain ⟨b3, f3, hn3, hm3, ha3, hc3⟩ := k3.get
  have HC1 := Lib.hid hc1
  have HC3 := Lib.hid hc3
  have HA1 := Lib.hid ha1
  have HA3 := Lib.hid ha3
  have HN1 := Lib.hid hn1
  have HN3 := Lib.hid hn3
  clear hO hW hT hN hE hh k1 k2 k3 hc1 hc3 ha1 ha3 hn1 hn3 hbW hbs hS
  go_enter Tryd.func47, Tryd.ntmps47
  have HP7 := HS0
  have HO7 := HO
  have g1 := HO7.out.cell 1
  simp only [List.getElem?_cons_succ, List.getElem?_cons_zero] at g1
  go_wp2_with fail
  rw [HW.out]
  go_wp2
  clear g1
  go_loopw [16] (fun i wr => ∃ k : Nat, k ≤ n1 ∧ i = .int .i64 k ∧ Hid (Laid base lb fb w ls left ([] ++ (cl.take k).flatMap classLs) wr) ∧ Hid (Own wr w.heap.size 27 [.bool false, .slice A1 n1 c1, .slice A2 n2 c2, .slice A3 n3 c3, .slice A4 n4 c4])) (fun i _ => n1 - (intOf i).toNat)
  case atStart => exact ⟨0, Nat.zero_le _, rfl, Lib.hid (by simpa using HP7.out), HO7⟩
  case round =>
  obtain ⟨k, hk, rfl, HP, HOr⟩ := hrel
  by_cases hlt : k < n1
  · obtain ⟨⟨nm, fds⟩, hf⟩ : ∃ y, cl[k]? = some y := ⟨_, List.getElem?_eq_getElem (by have := HN1.out; omega)⟩
    obtain ⟨rfl, _, hb1⟩ := HA1.out (by omega)
    obtain ⟨cs, _, q1, u, rfl, hv⟩ := HC1.out k _ hf
    obtain ⟨B4, c4, rfl⟩ := hv.form
    simp only at q1 hv
    obtain ⟨m0, m1⟩ := at2 (cells_later q1 HP.out.2.1 (show b1 < base by have := HH.out; omega))
    have hbx : Below wr.heap.size wr ((wr.alloc (.cells #[str nm, .slice B4 fds.length c4] 49)).alloc (.cells #[.string ⟨#[99, 108, 97, 115, 115]⟩, str nm] 9)) := ((Below.refl _ _).alloc (Nat.le_refl _) _).alloc (by simp) _
    have hr := made_row (base := base) (g := wr.heap.size + 1) (w := wr.alloc (.cells #[str nm, .slice B4 fds.length c4] 49)) [.string ⟨#[99, 108, 97, 115, 115]⟩, str nm] [kClass, nm] rfl (by simp) (by have := HP.out.size; simp; omega) (by simp [LinesM.strs, kClass]) (by simp)
    have e1 : (cl.take (k + 1)).flatMap classLs = (cl.take k).flatMap classLs ++ classLs ⟨nm, fds⟩ := by rw [LinesM.take_next hf, List.flatMap_append]; simp
    have hw1 := flat_wls classLs cl (k + 1)
    have hw2 := flat_len classLs cl (k + 1)
    rw [e1, wls_app] at hw1
    rw [e1, List.length_append] at hw2
    have hT' := HT.out
    have hN' := HN.out
    rw [wls_app, wls_app] at hT'
    simp only [List.length_append, List.length_nil] at hN'
    have hcl : wls (classLs ⟨nm, fds⟩) = wls [[kClass, nm]] + wls (fds.map (varL kField)) := by unfold classLs; rw [← wls_app]; rfl
    have hcn : (classLs ⟨nm, fds⟩).length = 1 + fds.length := by unfold classLs; simp; omega
    have QL := Lib.hid (Laid.more (v := .slice (some ⟨wr.heap.size + 1, 0, none⟩) 2 2) (HP.out.below hbx) hr (by simp only [List.length_append, List.length_nil]; omega) (by rw [wls_app, wls_app]; omega) h1 h2)
    have HBX := Lib.hid ((Own.made wr 49 [str nm, .slice B4 fds.length c4]).alloc (.cells #[.string ⟨#[99, 108, 97, 115, 115]⟩, str nm] 9))
    have HO8 := Lib.hid (HOr.out.below hbx HOr.out.lt)
    have HV := Lib.hid hv
    have HE1 := Lib.hid e1
    have HLN : Hid (ls.length + (([] ++ (cl.take k).flatMap classLs) ++ [[kClass, nm]]).length + fds.length ≤ 1099511627776) := Lib.hid (by simp only [List.length_append, List.length_cons, List.length_nil]; omega)
    have HWL : Hid (wls ((([] ++ (cl.take k).flatMap classLs) ++ [[kClass, nm]]) ++ fds.map (varL kField)) ≤ 1099511627776) := Lib.hid (by rw [wls_app, wls_app, wls_app]; omega)
    clear hbx hr e1 hw1 hw2 hT' hN' hcl hcn hv hf q1
    go_wp2_with (first
      | ((refine QL.out.mono ?_); rintro e w9 ⟨rfl, hp, hk9⟩; have HL9 := Lib.hid hp; have HB9 := hk9 _ _ _ HBX.out (by decide) (by decide) (by decide); have HO9 := Lib.hid (hk9 _ _ _ HO8.out (by decide) (by decide) (by decide)); have p1 := HB9.cell 1; simp only [List.getElem?_cons_succ, List.getElem?_cons_zero] at p1; clear hp hk9 HB9)
      | ((refine (Laid.vars HL9.out kField ⟨#[102, 105, 101, 108, 100]⟩ rfl (Vars.move (Still.of_below (HL9.out.2.1.mono HH.out)) HV.out) HH.out HLN.out HWL.out h1 h2).mono ?_); rintro e w11 ⟨rfl, hp, hk11⟩; have HP11 := Lib.hid hp; have HO11 := Lib.hid (hk11 _ _ _ HO9.out (by decide) (by decide) (by decide)); clear hp hk11))
    go_roundw
    case rel =>
      refine ⟨k + 1, by omega, by go_num, Lib.hid ?_, HO11⟩
      have h9 := HP11.out
      rw [HE1.out]
      simpa [classLs] using h9
    case measure => simp [intOf]; omega
  · have hkn : cl.take k = cl := List.take_of_length_le (by have := HN1.out; omega)
    rw [hkn] at HP
    have g2 := HOr.out.cell 2
    have g3 := HOr.out.cell 3
    simp only [List.getElem?_cons_succ, List.getElem?_cons_zero] at g2 g3
    have HV2 := Lib.hid (Vars.move (Still.of_below (HP.out.2.1.mono HH.out)) K2.out)
    have hn' := HN.out
    have ht' := HT.out
    simp only [List.length_append, List.length_map] at hn'
    rw [wls_app, wls_app, wls_app] at ht'
    have HLN2 : Hid (ls.length + ([] ++ cl.flatMap classLs).length + gl.length ≤ 1099511627776) := Lib.hid (by simp only [List.length_append]; omega)
    have HWL2 : Hid (wls (([] ++ cl.flatMap classLs) ++ gl.map (varL kGlobal)) ≤ 1099511627776) := Lib.hid (by rw [wls_app, wls_app]; omega)
    clear hn' ht' hkn
    go_wp2_with ((refine (Laid.vars HP.out kGlobal ⟨#[103, 108, 111, 98, 97, 108]⟩ rfl HV2.out HH.out HLN2.out HWL2.out h1 h2).mono ?_); rintro e w13 ⟨rfl, hp, hk13⟩; have HP13 := Lib.hid hp; have HO13 := Lib.hid (hk13 _ _ _ HOr.out (by decide) (by decide) (by decide)); clear g2 g3; have g3 := HO13.out.cell 3; simp only [List.getElem?_cons_succ, List.getElem?_cons_zero] at g3; clear hp hk13)
    clear g3 hlt hk
    go_loopw [37] (fun i wr => ∃ k : Nat, k ≤ n3 ∧ i = .int .i64 k ∧ Hid (Laid base lb fb w ls left ((([] ++ cl.flatMap classLs) ++ gl.map (varL kGlobal)) ++ (ex.take k).map externL) wr)) (fun i _ => n3 - (intOf i).toNat)
    case atStart => exact ⟨0, Nat.zero_le _, rfl, Lib.hid (by simpa using HP13.out)⟩
    case round =>
    obtain ⟨k, hk, rfl, HQ⟩ := hrel
    by_cases hlt : k < n3
    · obtain ⟨⟨nm, ne⟩, hf⟩ : ∃ y, ex[k]? = some y := ⟨_, List.getElem?_eq_getElem (by have := HN3.out; omega)⟩
      obtain ⟨rfl, _, hb1⟩ := HA3.out (by omega)
      obtain ⟨cs, _, q1, rfl⟩ := HC3.out k _ hf
      obtain ⟨m0, m1⟩ := at2 (cells_later q1 HQ.out.2.1 (show b3 < base by have := HH.out; omega))
      simp only at m0 m1
      have hIn := HE.out _ (List.mem_of_getElem? hf)
      obtain ⟨sp, hsp⟩ : ∃ s : ByteArray, s.data.toList = NumM.dec ne := ⟨⟨(NumM.dec ne).toArray⟩, rfl⟩
      have QN := Lib.hid (num_as ne hIn sp hsp)
      have HSP := Lib.hid hsp
      have hn' := HN.out
      have ht' := HT.out
      simp only [List.length_append, List.length_map] at hn'
      rw [wls_app, wls_app, wls_app] at ht'
      have e1 : ((([] ++ cl.flatMap classLs) ++ gl.map (varL kGlobal)) ++ (ex.take k).map externL) ++ [[kExtern, nm, NumM.dec ne]] = (([] ++ cl.flatMap classLs) ++ gl.map (varL kGlobal)) ++ (ex.take (k + 1)).map externL := by rw [LinesM.take_next hf, List.map_append, ← List.append_assoc]; rfl
      have hw1 := wls_take externL ex (k + 1)
      have HT2 : Hid (wls (((([] ++ cl.flatMap classLs) ++ gl.map (varL kGlobal)) ++ (ex.take k).map externL) ++ [[kExtern, nm, NumM.dec ne]]) ≤ 1099511627776) := Lib.hid (by rw [e1, wls_app, wls_app, wls_app]; omega)
      have HE1 := Lib.hid e1
      have hl2 : ls.length + ((([] ++ cl.flatMap classLs) ++ gl.map (varL kGlobal)) ++ (ex.take k).map externL).length ≤ 1099511627776 := by simp only [List.length_append, List.length_map, List.length_take]; omega
      have HLN := Lib.hid hl2
      have HBX := Lib.hid (Own.made wr 51 [str nm, i64 ne])
      have HX := Lib.hid ((Below.refl wr.heap.size wr).alloc (Nat.le_refl _) (.cells #[str nm, i64 ne] 51))
      clear hn' ht' e1 hw1 hl2 hIn hsp hf q1
      go_wp2_with fail
      go_region_law (first
        | (go_simp; go_at_call 74; (with_reducible refine (QN.out _).mono ?_); rintro e w5 ⟨rfl, hb5⟩; have hb7 := (Below.refl _ _).drew.trans hb5; have p0 := own_hold6 HBX.out hb7 (by simp) 0 rfl; have HL5 := Lib.hid (HQ.out.below (HX.out.trans (hb7.mono (by simp)))); have hr := made_row (base := base) (g := w5.heap.size) (w := w5) [.string ⟨#[101, 120, 116, 101, 114, 110]⟩, str nm, .string sp] [kExtern, nm, NumM.dec ne] rfl rfl HL5.out.size (by simp [LinesM.strs, ← HSP.out, kExtern]) (by simp); have QL := Lib.hid (Laid.more (v := .slice (some ⟨w5.heap.size, 0, none⟩) 3 3) (HL5.out.below ((Below.refl _ _).alloc (Nat.le_refl _) _)) hr HLN.out HT2.out h1 h2); clear hr hb5 hb7)
        | (go_simp; (refine QL.out.mono ?_); rintro e w15 ⟨rfl, hp, _⟩; have HP15 := Lib.hid hp; clear hp))
      all_goals
        go_wp2_with fail
        go_roundw
        case rel => exact ⟨k + 1, by omega, by go_num, Lib.hid (by rw [← HE1.out]; exact HP15.out)⟩
        case measure => simp [intOf]; omega
    · have hkn : ex.take k = ex := List.take_of_length_le (by have := HN3.out; omega)
      rw [hkn] at HQ
      go_wp2
      go_end0
      refine ⟨rfl, ?_⟩
      have h9 := HQ.out
      have e : (([] ++ cl.flatMap classLs) ++ gl.map (varL kGlobal)) ++ ex.map externL = [] ++ (cl.flatMap classLs ++ (gl.map (varL kGlobal) ++ ex.map externL)) := by simp [List.append_assoc]
      rw [e] at h9
      exact h9
/-- The heads of a program, laid. -/
theorem layHeads_any (lo hi : Nat) (w : World) (base lb fb : Nat) (ls : List (List Wd)) (left : Int) (cs : List Value) (q : Prog) (hp : ProgC lo hi w cs q) (hh : hi ≤ base) (hE : ∀ e ∈ q.externs, NumM.In e.n) (hS : LayS base lb fb w ls left) (hl : ls.length ≤ 274877906944) (hN : (headLs q).length ≤ 274877906944) (hT : wls (headLs q) ≤ 274877906944) (h1 : -1152921504606846976 ≤ left) (h2 : left ≤ 4194304) :
    Calls Tryd.prog 47 #[.agg cs.toArray, layV fb lb] w (LaidP base lb fb w ls left (headLs q)) := by
  obtain ⟨s, cl, gl, ex, fu⟩ := q
  obtain ⟨u1, u2, u3, u4, rfl, k1, k2, k3, k4⟩ := hp
  simp only at k1 k2 k3 k4 hE ⊢
  obtain ⟨B1, c1, rfl⟩ := k1.form
  obtain ⟨B2, c2, rfl⟩ := k2.form
  obtain ⟨B3, c3, rfl⟩ := k3.form
  obtain ⟨B4, c4, rfl⟩ := k4.form
  cases s with
  | true => exact layHeads_true lo hi w base lb fb ls left B1 B2 B3 B4 _ _ _ _ c1 c2 c3 c4 cl gl ex k1 k2 k3 hh hE hS hl hN hT h1 h2
  | false => exact layHeads_false lo hi w base lb fb ls left B1 B2 B3 B4 _ _ _ _ c1 c2 c3 c4 cl gl ex k1 k2 k3 hh hE hS hl hN hT h1 h2
end Go.Proofs.YtdgmdpphimenjaaDoor.Sh6
