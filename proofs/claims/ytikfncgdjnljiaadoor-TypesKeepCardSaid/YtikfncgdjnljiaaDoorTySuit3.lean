/-
  Package types: whether an instruction is given what it must be, by instruction.
-/
import Derived.Test.YtikfncgdjnljiaaDoorTySuit2
import Derived.Deep.QuietTactic
import Derived.BigQuiet
import Derived.Deep.RegionLaw
namespace Go.Proofs.YtikfncgdjnljiaaDoor.Ty7
open Go.RowKit Api Syn WordM Mem

def SaysT (w : World) (b : Bool) (e : Ending) (w' : World) : Prop := e = .returned (.bool b) ∧ Below w.heap.size w w'
theorem below_drewN {B : Nat} {a w : World} (h : Below B a w) (n : Nat) : Below B a (w.drewN n) := ⟨h.os, h.tape, h.output, h.size, h.block⟩
set_option linter.unusedVariables false
set_option maxRecDepth 100000 in
set_option maxHeartbeats 8000000 in
theorem suits_mov (lo hi lo2 hi2 : Nat) (w : World) (cs : List Value) (q : Prog) (hq : ProgC lo hi w cs q) (hh : hi ≤ w.heap.size) (_ : Int) (dn nm : Wd) (ag : List Arg) (fr : List Api.Frame) (ob : List Virt) (D1 D2 D3 : Option Addr) (d1 d2 d3 : Nat) (hi1 : InstrC lo hi w [i64 24, str dn, str nm, .slice D1 ag.length d1, .slice D2 fr.length d2, .slice D3 ob.length d3] ⟨24, dn, nm, ag, fr, ob⟩) (tv : Value) (ts : List Wd) (hT : LinesM.Strs lo2 hi2 w tv ts) (hh2 : hi2 ≤ w.heap.size) (hlen : ts.length = ag.length) (sd : ByteArray) (dst : Wd) (hsd : sd.toList = dst) (h1 : 1 ≤ ag.length) :
    Calls Tryd.prog 59 #[.agg cs.toArray, .agg #[i64 24, str dn, str nm, .slice D1 ag.length d1, .slice D2 fr.length d2, .slice D3 ob.length d3], tv, .string sd] w (SaysT w (suitsT q ⟨24, dn, nm, ag, fr, ob⟩ ts dst)) := by
  have hq0 := hq
  obtain ⟨u1, u2, u3, u4, rfl, k1, k2, k3, k4⟩ := hq
  obtain ⟨B1, c1, rfl⟩ := k1.form
  obtain ⟨B2, c2, rfl⟩ := k2.form
  obtain ⟨B3, c3, rfl⟩ := k3.form
  obtain ⟨B4, c4, rfl⟩ := k4.form
  obtain ⟨A, n, cap, b, off, rfl, hn, hm2, ha, hc⟩ := hT
  have hres : suitsT q ⟨24, dn, nm, ag, fr, ob⟩ ts dst = fitsT (ts.getD 0 []) dst := by unfold suitsT; dsimp only; rw [if_pos rfl]; try rfl
  rw [hres]
  obtain ⟨W, hW⟩ : ∃ W, (w.alloc (.cells #[.bool q.ssa, .slice B1 q.classes.length c1, .slice B2 q.globals.length c2, .slice B3 q.externs.length c3, .slice B4 q.funcs.length c4] 27)).alloc (.cells #[i64 24, str dn, str nm, .slice D1 ag.length d1, .slice D2 fr.length d2, .slice D3 ob.length d3] 59) = W := ⟨_, rfl⟩
  have hb : Below w.heap.size w W := by rw [← hW]; exact ((Below.refl _ _).alloc (Nat.le_refl _) _).alloc (by simp) _
  have HW := Lib.hid hW
  have HB := Lib.hid hb
  obtain ⟨t0, ht0⟩ : ∃ t, ts[0]? = some t := ⟨_, List.getElem?_eq_getElem (by omega)⟩
  obtain ⟨rfl, _, hb1⟩ := ha (by omega)
  have hg0 : ts.getD 0 [] = t0 := by rw [List.getD_eq_getElem?_getD, ht0]; rfl
  rw [hg0]
  obtain ⟨s0, hs0⟩ : ∃ s : ByteArray, s = ⟨t0.toArray⟩ := ⟨_, rfl⟩
  have hl0 : s0.toList = t0 := by rw [hs0, str_list]
  have q0 : w.cell? ⟨b, off, none⟩ = some (.string s0) := by rw [hs0]; exact hc 0 _ ht0
  have hbw : b < w.heap.size := by omega
  have hbw1 : b < w.heap.size + 1 := by omega
  have h0i : (0 : Int) < (ag.length : Int) := by omega
  have h0n : 0 < ag.length := by omega
  have QF := Lib.hid (fits_any W s0 sd _ (by rw [hl0, hsd]))
  clear hg0 hs0 hl0 ht0
  clear hW hb hc hres hq0 hi1 k1 k2 k3 k4 hsd
  go_enter Tryd.func59, Tryd.ntmps59
  go_wp2_with fail
  rw [HW.out]
  refine QF.out.mono ?_
  rintro e w5 ⟨rfl, hw5⟩
  obtain rfl := hw5
  go_wp2_with fail
  go_ret
  exact ⟨rfl, HB.out⟩
set_option maxRecDepth 100000 in
set_option maxHeartbeats 8000000 in
theorem suits_out (lo hi lo2 hi2 : Nat) (w : World) (cs : List Value) (q : Prog) (hq : ProgC lo hi w cs q) (hh : hi ≤ w.heap.size) (_ : Int) (dn nm : Wd) (ag : List Arg) (fr : List Api.Frame) (ob : List Virt) (D1 D2 D3 : Option Addr) (d1 d2 d3 : Nat) (hi1 : InstrC lo hi w [i64 33, str dn, str nm, .slice D1 ag.length d1, .slice D2 fr.length d2, .slice D3 ob.length d3] ⟨33, dn, nm, ag, fr, ob⟩) (tv : Value) (ts : List Wd) (hT : LinesM.Strs lo2 hi2 w tv ts) (hh2 : hi2 ≤ w.heap.size) (hlen : ts.length = ag.length) (sd : ByteArray) (dst : Wd) (hsd : sd.toList = dst) (h1 : 1 ≤ ag.length) :
    Calls Tryd.prog 59 #[.agg cs.toArray, .agg #[i64 33, str dn, str nm, .slice D1 ag.length d1, .slice D2 fr.length d2, .slice D3 ob.length d3], tv, .string sd] w (SaysT w (suitsT q ⟨33, dn, nm, ag, fr, ob⟩ ts dst)) := by
  have hq0 := hq
  obtain ⟨u1, u2, u3, u4, rfl, k1, k2, k3, k4⟩ := hq
  obtain ⟨B1, c1, rfl⟩ := k1.form
  obtain ⟨B2, c2, rfl⟩ := k2.form
  obtain ⟨B3, c3, rfl⟩ := k3.form
  obtain ⟨B4, c4, rfl⟩ := k4.form
  obtain ⟨A, n, cap, b, off, rfl, hn, hm2, ha, hc⟩ := hT
  have hres : suitsT q ⟨33, dn, nm, ag, fr, ob⟩ ts dst = numT (ts.getD 0 []) := by unfold suitsT; dsimp only; rw [if_neg (show ¬ (33 : Int) = 24 by decide)]; rw [if_neg (show ¬ (33 : Int) = 25 by decide)]; rw [if_neg (show ¬ (33 : Int) = 26 by decide)]; rw [if_neg (show ¬ (33 : Int) = 27 by decide)]; rw [if_neg (show ¬ (33 : Int) = 28 by decide)]; rw [if_neg (show ¬ (33 : Int) = 29 by decide)]; rw [if_neg (show ¬ (33 : Int) = 30 by decide)]; rw [if_neg (show ¬ (33 : Int) = 31 by decide)]; rw [if_neg (show ¬ (33 : Int) = 32 by decide)]; rw [if_pos rfl]; try rfl
  rw [hres]
  obtain ⟨W, hW⟩ : ∃ W, (w.alloc (.cells #[.bool q.ssa, .slice B1 q.classes.length c1, .slice B2 q.globals.length c2, .slice B3 q.externs.length c3, .slice B4 q.funcs.length c4] 27)).alloc (.cells #[i64 33, str dn, str nm, .slice D1 ag.length d1, .slice D2 fr.length d2, .slice D3 ob.length d3] 59) = W := ⟨_, rfl⟩
  have hb : Below w.heap.size w W := by rw [← hW]; exact ((Below.refl _ _).alloc (Nat.le_refl _) _).alloc (by simp) _
  have HW := Lib.hid hW
  have HB := Lib.hid hb
  obtain ⟨t0, ht0⟩ : ∃ t, ts[0]? = some t := ⟨_, List.getElem?_eq_getElem (by omega)⟩
  obtain ⟨rfl, _, hb1⟩ := ha (by omega)
  have hg0 : ts.getD 0 [] = t0 := by rw [List.getD_eq_getElem?_getD, ht0]; rfl
  rw [hg0]
  obtain ⟨s0, hs0⟩ : ∃ s : ByteArray, s = ⟨t0.toArray⟩ := ⟨_, rfl⟩
  have hl0 : s0.toList = t0 := by rw [hs0, str_list]
  have q0 : w.cell? ⟨b, off, none⟩ = some (.string s0) := by rw [hs0]; exact hc 0 _ ht0
  have hbw : b < w.heap.size := by omega
  have hbw1 : b < w.heap.size + 1 := by omega
  have h0i : (0 : Int) < (ag.length : Int) := by omega
  have h0n : 0 < ag.length := by omega
  have QF := Lib.hid (isNumber_any W s0 _ (by rw [hl0]))
  clear hg0 hs0 hl0 ht0
  clear hW hb hc hres hq0 hi1 k1 k2 k3 k4 hsd
  go_enter Tryd.func59, Tryd.ntmps59
  go_wp2_with fail
  rw [HW.out]
  refine QF.out.mono ?_
  rintro e w5 ⟨rfl, hw5⟩
  obtain rfl := hw5
  go_wp2_with fail
  go_ret
  exact ⟨rfl, HB.out⟩
set_option maxRecDepth 100000 in
set_option maxHeartbeats 8000000 in
theorem suits_guard (lo hi lo2 hi2 : Nat) (w : World) (cs : List Value) (q : Prog) (hq : ProgC lo hi w cs q) (hh : hi ≤ w.heap.size) (_ : Int) (dn nm : Wd) (ag : List Arg) (fr : List Api.Frame) (ob : List Virt) (D1 D2 D3 : Option Addr) (d1 d2 d3 : Nat) (hi1 : InstrC lo hi w [i64 34, str dn, str nm, .slice D1 ag.length d1, .slice D2 fr.length d2, .slice D3 ob.length d3] ⟨34, dn, nm, ag, fr, ob⟩) (tv : Value) (ts : List Wd) (hT : LinesM.Strs lo2 hi2 w tv ts) (hh2 : hi2 ≤ w.heap.size) (hlen : ts.length = ag.length) (sd : ByteArray) (dst : Wd) (hsd : sd.toList = dst)  :
    Calls Tryd.prog 59 #[.agg cs.toArray, .agg #[i64 34, str dn, str nm, .slice D1 ag.length d1, .slice D2 fr.length d2, .slice D3 ob.length d3], tv, .string sd] w (SaysT w (suitsT q ⟨34, dn, nm, ag, fr, ob⟩ ts dst)) := by
  have hq0 := hq
  obtain ⟨u1, u2, u3, u4, rfl, k1, k2, k3, k4⟩ := hq
  obtain ⟨B1, c1, rfl⟩ := k1.form
  obtain ⟨B2, c2, rfl⟩ := k2.form
  obtain ⟨B3, c3, rfl⟩ := k3.form
  obtain ⟨B4, c4, rfl⟩ := k4.form
  obtain ⟨A, n, cap, b, off, rfl, hn, hm2, ha, hc⟩ := hT
  have hres : suitsT q ⟨34, dn, nm, ag, fr, ob⟩ ts dst = true := by unfold suitsT; dsimp only; rw [if_neg (show ¬ (34 : Int) = 24 by decide)]; rw [if_neg (show ¬ (34 : Int) = 25 by decide)]; rw [if_neg (show ¬ (34 : Int) = 26 by decide)]; rw [if_neg (show ¬ (34 : Int) = 27 by decide)]; rw [if_neg (show ¬ (34 : Int) = 28 by decide)]; rw [if_neg (show ¬ (34 : Int) = 29 by decide)]; rw [if_neg (show ¬ (34 : Int) = 30 by decide)]; rw [if_neg (show ¬ (34 : Int) = 31 by decide)]; rw [if_neg (show ¬ (34 : Int) = 32 by decide)]; rw [if_neg (show ¬ (34 : Int) = 33 by decide)]; rw [if_pos rfl]; try rfl
  rw [hres]
  obtain ⟨W, hW⟩ : ∃ W, (w.alloc (.cells #[.bool q.ssa, .slice B1 q.classes.length c1, .slice B2 q.globals.length c2, .slice B3 q.externs.length c3, .slice B4 q.funcs.length c4] 27)).alloc (.cells #[i64 34, str dn, str nm, .slice D1 ag.length d1, .slice D2 fr.length d2, .slice D3 ob.length d3] 59) = W := ⟨_, rfl⟩
  have hb : Below w.heap.size w W := by rw [← hW]; exact ((Below.refl _ _).alloc (Nat.le_refl _) _).alloc (by simp) _
  have HW := Lib.hid hW
  have HB := Lib.hid hb
  clear hW hb hc hres hq0 hi1 k1 k2 k3 k4 hsd
  go_enter Tryd.func59, Tryd.ntmps59
  go_wp2_with fail
  rw [HW.out]
  go_ret
  exact ⟨rfl, HB.out⟩
set_option maxRecDepth 100000 in
set_option maxHeartbeats 8000000 in
theorem suits_same (lo hi lo2 hi2 : Nat) (w : World) (cs : List Value) (q : Prog) (hq : ProgC lo hi w cs q) (hh : hi ≤ w.heap.size) (_ : Int) (dn nm : Wd) (ag : List Arg) (fr : List Api.Frame) (ob : List Virt) (D1 D2 D3 : Option Addr) (d1 d2 d3 : Nat) (hi1 : InstrC lo hi w [i64 28, str dn, str nm, .slice D1 ag.length d1, .slice D2 fr.length d2, .slice D3 ob.length d3] ⟨28, dn, nm, ag, fr, ob⟩) (tv : Value) (ts : List Wd) (hT : LinesM.Strs lo2 hi2 w tv ts) (hh2 : hi2 ≤ w.heap.size) (hlen : ts.length = ag.length) (sd : ByteArray) (dst : Wd) (hsd : sd.toList = dst) (h1 : 2 ≤ ag.length) :
    Calls Tryd.prog 59 #[.agg cs.toArray, .agg #[i64 28, str dn, str nm, .slice D1 ag.length d1, .slice D2 fr.length d2, .slice D3 ob.length d3], tv, .string sd] w (SaysT w (suitsT q ⟨28, dn, nm, ag, fr, ob⟩ ts dst)) := by
  have hq0 := hq
  obtain ⟨u1, u2, u3, u4, rfl, k1, k2, k3, k4⟩ := hq
  obtain ⟨B1, c1, rfl⟩ := k1.form
  obtain ⟨B2, c2, rfl⟩ := k2.form
  obtain ⟨B3, c3, rfl⟩ := k3.form
  obtain ⟨B4, c4, rfl⟩ := k4.form
  obtain ⟨A, n, cap, b, off, rfl, hn, hm2, ha, hc⟩ := hT
  have hres : suitsT q ⟨28, dn, nm, ag, fr, ob⟩ ts dst = (sameT (ts.getD 0 []) (ts.getD 1 []) && (dst == intW)) := by unfold suitsT; dsimp only; rw [if_neg (show ¬ (28 : Int) = 24 by decide)]; rw [if_neg (show ¬ (28 : Int) = 25 by decide)]; rw [if_neg (show ¬ (28 : Int) = 26 by decide)]; rw [if_neg (show ¬ (28 : Int) = 27 by decide)]; rw [if_pos rfl]; try rfl
  rw [hres]
  obtain ⟨W, hW⟩ : ∃ W, (w.alloc (.cells #[.bool q.ssa, .slice B1 q.classes.length c1, .slice B2 q.globals.length c2, .slice B3 q.externs.length c3, .slice B4 q.funcs.length c4] 27)).alloc (.cells #[i64 28, str dn, str nm, .slice D1 ag.length d1, .slice D2 fr.length d2, .slice D3 ob.length d3] 59) = W := ⟨_, rfl⟩
  have hb : Below w.heap.size w W := by rw [← hW]; exact ((Below.refl _ _).alloc (Nat.le_refl _) _).alloc (by simp) _
  have HW := Lib.hid hW
  have HB := Lib.hid hb
  obtain ⟨t0, ht0⟩ : ∃ t, ts[0]? = some t := ⟨_, List.getElem?_eq_getElem (by omega)⟩
  obtain ⟨rfl, _, hb1⟩ := ha (by omega)
  have hg0 : ts.getD 0 [] = t0 := by rw [List.getD_eq_getElem?_getD, ht0]; rfl
  rw [hg0]
  obtain ⟨s0, hs0⟩ : ∃ s : ByteArray, s = ⟨t0.toArray⟩ := ⟨_, rfl⟩
  have hl0 : s0.toList = t0 := by rw [hs0, str_list]
  have q0 : w.cell? ⟨b, off, none⟩ = some (.string s0) := by rw [hs0]; exact hc 0 _ ht0
  have hbw : b < w.heap.size := by omega
  have hbw1 : b < w.heap.size + 1 := by omega
  have h0i : (0 : Int) < (ag.length : Int) := by omega
  have h0n : 0 < ag.length := by omega
  obtain ⟨t1, ht1⟩ : ∃ t, ts[1]? = some t := ⟨_, List.getElem?_eq_getElem (by omega)⟩
  have hg1 : ts.getD 1 [] = t1 := by rw [List.getD_eq_getElem?_getD, ht1]; rfl
  rw [hg1]
  obtain ⟨s1, hs1⟩ : ∃ s : ByteArray, s = ⟨t1.toArray⟩ := ⟨_, rfl⟩
  have hl1 : s1.toList = t1 := by rw [hs1, str_list]
  have q1 : w.cell? ⟨b, off + 1, none⟩ = some (.string s1) := by rw [hs1]; exact hc 1 _ ht1
  have h1i : (1 : Int) < (ag.length : Int) := by omega
  have h1n : 1 < ag.length := by omega
  obtain ⟨x1, hx1⟩ : ∃ x, sameT t0 t1 = x := ⟨_, rfl⟩
  obtain ⟨x2, hx2⟩ : ∃ x, (dst == intW) = x := ⟨_, rfl⟩
  have QF := Lib.hid fun w' => mayBe_any w' s0 s1 x1 (by rw [hl0, hl1]; exact hx1)
  have e2 : (sd.toList == [105, 110, 116]) = x2 := by rw [hsd]; exact hx2
  rw [hx1, hx2]
  clear hg0 hs0 hl0 ht0 hg1 hs1 hl1 ht1 hx1 hx2
  clear hW hb hc hres hq0 hi1 k1 k2 k3 k4 hsd
  cases x1 <;> cases x2
  all_goals
    go_enter Tryd.func59, Tryd.ntmps59
    go_wp2_with fail
    rw [HW.out]
    have p0 := (HB.out.cell (p := ⟨b, off, none⟩) hbw).trans q0
    have p1 := (HB.out.cell (p := ⟨b, off + 1, none⟩) hbw).trans q1
    go_quiet ((go_at_call 82; exact Calls.quiet_of_same ((QF.out _).mono fun _ _ h => ⟨h.1, h.2.symm⟩)))
    go_wp2_with fail
    go_ret
    exact ⟨rfl, below_drewN HB.out _⟩
set_option maxRecDepth 100000 in
set_option maxHeartbeats 8000000 in
theorem suits_gload (lo hi lo2 hi2 : Nat) (w : World) (cs : List Value) (q : Prog) (hq : ProgC lo hi w cs q) (hh : hi ≤ w.heap.size) (_ : Int) (dn nm : Wd) (ag : List Arg) (fr : List Api.Frame) (ob : List Virt) (D1 D2 D3 : Option Addr) (d1 d2 d3 : Nat) (hi1 : InstrC lo hi w [i64 29, str dn, str nm, .slice D1 ag.length d1, .slice D2 fr.length d2, .slice D3 ob.length d3] ⟨29, dn, nm, ag, fr, ob⟩) (tv : Value) (ts : List Wd) (hT : LinesM.Strs lo2 hi2 w tv ts) (hh2 : hi2 ≤ w.heap.size) (hlen : ts.length = ag.length) (sd : ByteArray) (dst : Wd) (hsd : sd.toList = dst)  :
    Calls Tryd.prog 59 #[.agg cs.toArray, .agg #[i64 29, str dn, str nm, .slice D1 ag.length d1, .slice D2 fr.length d2, .slice D3 ob.length d3], tv, .string sd] w (SaysT w (suitsT q ⟨29, dn, nm, ag, fr, ob⟩ ts dst)) := by
  have hq0 := hq
  obtain ⟨u1, u2, u3, u4, rfl, k1, k2, k3, k4⟩ := hq
  obtain ⟨B1, c1, rfl⟩ := k1.form
  obtain ⟨B2, c2, rfl⟩ := k2.form
  obtain ⟨B3, c3, rfl⟩ := k3.form
  obtain ⟨B4, c4, rfl⟩ := k4.form
  obtain ⟨A, n, cap, b, off, rfl, hn, hm2, ha, hc⟩ := hT
  have hres : suitsT q ⟨29, dn, nm, ag, fr, ob⟩ ts dst = (match varIn q.globals nm with | some v => v.type == dst | none => false) := by unfold suitsT; dsimp only; rw [if_neg (show ¬ (29 : Int) = 24 by decide)]; rw [if_neg (show ¬ (29 : Int) = 25 by decide)]; rw [if_neg (show ¬ (29 : Int) = 26 by decide)]; rw [if_neg (show ¬ (29 : Int) = 27 by decide)]; rw [if_neg (show ¬ (29 : Int) = 28 by decide)]; rw [if_pos rfl]; try rfl
  rw [hres]
  obtain ⟨W, hW⟩ : ∃ W, (w.alloc (.cells #[.bool q.ssa, .slice B1 q.classes.length c1, .slice B2 q.globals.length c2, .slice B3 q.externs.length c3, .slice B4 q.funcs.length c4] 27)).alloc (.cells #[i64 29, str dn, str nm, .slice D1 ag.length d1, .slice D2 fr.length d2, .slice D3 ob.length d3] 59) = W := ⟨_, rfl⟩
  have hb : Below w.heap.size w W := by rw [← hW]; exact ((Below.refl _ _).alloc (Nat.le_refl _) _).alloc (by simp) _
  have HW := Lib.hid hW
  have HB := Lib.hid hb
  have QV := Lib.hid (findVar_any lo hi W _ q.globals nm ⟨nm.toArray⟩ rfl (Vars.move (Still.of_below (hb.mono hh)) k2) (Nat.le_trans hh hb.size))
  obtain ⟨r, hr⟩ : ∃ r, varIn q.globals nm = r := ⟨_, rfl⟩
  rw [hr]
  have HRR : Hid ((q.globals.find? fun x => x.name == nm) = r) := Lib.hid hr
  clear hr
  have HSD := Lib.hid hsd
  clear hW hb hc hres hq0 hi1 k1 k2 k3 k4 hsd
  cases r with
  | none =>
    go_enter Tryd.func59, Tryd.ntmps59
    go_wp2_with fail
    rw [HW.out]
    refine QV.out.mono ?_
    intro e w5 hP
    simp only [HRR.out] at hP
    obtain ⟨rfl, hb5⟩ := VarP.none hP
    have HB5 := Lib.hid (HB.out.trans (hb5.mono HB.out.size))
    clear hP hb5 QV
    go_wp2_with fail
    go_ret
    exact ⟨rfl, HB5.out.alloc HB5.out.size _⟩
  | some v =>
    go_enter Tryd.func59, Tryd.ntmps59
    go_wp2_with fail
    rw [HW.out]
    refine QV.out.mono ?_
    intro e w5 hP
    simp only [HRR.out] at hP
    obtain ⟨rfl, hb5⟩ := VarP.some hP
    have HB5 := Lib.hid (HB.out.trans (hb5.mono HB.out.size))
    clear hP hb5 QV
    go_wp2_with fail
    go_ret
    exact ⟨by rw [← HSD.out]; rfl, HB5.out.alloc HB5.out.size _⟩
set_option maxRecDepth 100000 in
set_option maxHeartbeats 8000000 in
theorem suits_gstore (lo hi lo2 hi2 : Nat) (w : World) (cs : List Value) (q : Prog) (hq : ProgC lo hi w cs q) (hh : hi ≤ w.heap.size) (_ : Int) (dn nm : Wd) (ag : List Arg) (fr : List Api.Frame) (ob : List Virt) (D1 D2 D3 : Option Addr) (d1 d2 d3 : Nat) (hi1 : InstrC lo hi w [i64 30, str dn, str nm, .slice D1 ag.length d1, .slice D2 fr.length d2, .slice D3 ob.length d3] ⟨30, dn, nm, ag, fr, ob⟩) (tv : Value) (ts : List Wd) (hT : LinesM.Strs lo2 hi2 w tv ts) (hh2 : hi2 ≤ w.heap.size) (hlen : ts.length = ag.length) (sd : ByteArray) (dst : Wd) (hsd : sd.toList = dst) (h1 : 1 ≤ ag.length) :
    Calls Tryd.prog 59 #[.agg cs.toArray, .agg #[i64 30, str dn, str nm, .slice D1 ag.length d1, .slice D2 fr.length d2, .slice D3 ob.length d3], tv, .string sd] w (SaysT w (suitsT q ⟨30, dn, nm, ag, fr, ob⟩ ts dst)) := by
  have hq0 := hq
  obtain ⟨u1, u2, u3, u4, rfl, k1, k2, k3, k4⟩ := hq
  obtain ⟨B1, c1, rfl⟩ := k1.form
  obtain ⟨B2, c2, rfl⟩ := k2.form
  obtain ⟨B3, c3, rfl⟩ := k3.form
  obtain ⟨B4, c4, rfl⟩ := k4.form
  obtain ⟨A, n, cap, b, off, rfl, hn, hm2, ha, hc⟩ := hT
  have hres : suitsT q ⟨30, dn, nm, ag, fr, ob⟩ ts dst = (match varIn q.globals nm with | some v => fitsT (ts.getD 0 []) v.type | none => false) := by unfold suitsT; dsimp only; rw [if_neg (show ¬ (30 : Int) = 24 by decide)]; rw [if_neg (show ¬ (30 : Int) = 25 by decide)]; rw [if_neg (show ¬ (30 : Int) = 26 by decide)]; rw [if_neg (show ¬ (30 : Int) = 27 by decide)]; rw [if_neg (show ¬ (30 : Int) = 28 by decide)]; rw [if_neg (show ¬ (30 : Int) = 29 by decide)]; rw [if_pos rfl]; try rfl
  rw [hres]
  obtain ⟨W, hW⟩ : ∃ W, (w.alloc (.cells #[.bool q.ssa, .slice B1 q.classes.length c1, .slice B2 q.globals.length c2, .slice B3 q.externs.length c3, .slice B4 q.funcs.length c4] 27)).alloc (.cells #[i64 30, str dn, str nm, .slice D1 ag.length d1, .slice D2 fr.length d2, .slice D3 ob.length d3] 59) = W := ⟨_, rfl⟩
  have hb : Below w.heap.size w W := by rw [← hW]; exact ((Below.refl _ _).alloc (Nat.le_refl _) _).alloc (by simp) _
  have HW := Lib.hid hW
  have HB := Lib.hid hb
  obtain ⟨t0, ht0⟩ : ∃ t, ts[0]? = some t := ⟨_, List.getElem?_eq_getElem (by omega)⟩
  obtain ⟨rfl, _, hb1⟩ := ha (by omega)
  have hg0 : ts.getD 0 [] = t0 := by rw [List.getD_eq_getElem?_getD, ht0]; rfl
  obtain ⟨s0, hs0⟩ : ∃ s : ByteArray, s = ⟨t0.toArray⟩ := ⟨_, rfl⟩
  have hl0 : s0.toList = t0 := by rw [hs0, str_list]
  have q0 : w.cell? ⟨b, off, none⟩ = some (.string s0) := by rw [hs0]; exact hc 0 _ ht0
  have hbw : b < w.heap.size := by omega
  have hbw1 : b < w.heap.size + 1 := by omega
  have h0i : (0 : Int) < (ag.length : Int) := by omega
  have h0n : 0 < ag.length := by omega
  simp only [hg0]
  have QV := Lib.hid (findVar_any lo hi W _ q.globals nm ⟨nm.toArray⟩ rfl (Vars.move (Still.of_below (hb.mono hh)) k2) (Nat.le_trans hh hb.size))
  obtain ⟨r, hr⟩ : ∃ r, varIn q.globals nm = r := ⟨_, rfl⟩
  rw [hr]
  have HRR : Hid ((q.globals.find? fun x => x.name == nm) = r) := Lib.hid hr
  clear hr
  clear hg0 hs0 ht0
  clear hW hb hc hres hq0 hi1 k1 k2 k3 k4 hsd
  cases r with
  | none =>
    go_enter Tryd.func59, Tryd.ntmps59
    go_wp2_with fail
    rw [HW.out]
    refine QV.out.mono ?_
    intro e w5 hP
    simp only [HRR.out] at hP
    obtain ⟨rfl, hb5⟩ := VarP.none hP
    have HB5 := Lib.hid (HB.out.trans (hb5.mono HB.out.size))
    clear hP hb5 QV
    obtain ⟨W5, hW5⟩ : ∃ W5, w5.alloc (.cells #[str [], str []] 40) = W5 := ⟨_, rfl⟩
    have HB9 := Lib.hid (HB5.out.alloc HB5.out.size (.cells #[str [], str []] 40))
    rw [hW5] at HB9
    have HW5 := Lib.hid hW5
    clear hW5 q0
    go_wp2_with fail
    rw [HW5.out]
    go_quiet (fail)
    go_wp2_with fail
    go_ret
    exact ⟨rfl, below_drewN HB9.out _⟩
  | some v =>
    obtain ⟨sv, hsv⟩ : ∃ s : ByteArray, s = ⟨v.type.toArray⟩ := ⟨_, rfl⟩
    have QF := Lib.hid fun w' => fits_any w' s0 sv (fitsT t0 v.type) (by rw [hl0, hsv, str_list])
    have HSV := Lib.hid hsv
    clear hsv
    go_enter Tryd.func59, Tryd.ntmps59
    go_wp2_with fail
    rw [HW.out]
    refine QV.out.mono ?_
    intro e w5 hP
    simp only [HRR.out] at hP
    obtain ⟨rfl, hb5⟩ := VarP.some hP
    have HB5 := Lib.hid (HB.out.trans (hb5.mono HB.out.size))
    obtain ⟨W5, hW5⟩ : ∃ W5, w5.alloc (.cells #[str v.name, str v.type] 40) = W5 := ⟨_, rfl⟩
    have hb9 : Below w5.heap.size w5 W5 := by rw [← hW5]; exact (Below.refl _ _).alloc (Nat.le_refl _) _
    have ov : Own W5 w5.heap.size 40 [str v.name, str v.type] := by rw [← hW5]; exact Own.made w5 40 [str v.name, str v.type]
    have x0 := ov.cell 0
    have x1 := ov.cell 1
    simp only [List.getElem?_cons_succ, List.getElem?_cons_zero] at x0 x1
    have HB9 := Lib.hid (HB5.out.trans (hb9.mono HB5.out.size))
    have q0' : W5.cell? ⟨b, off, none⟩ = some (.string s0) := (HB9.out.cell (p := ⟨b, off, none⟩) hbw).trans q0
    rw [show (str v.type : Value) = .string sv by rw [HSV.out]] at x1
    have HW5 := Lib.hid hW5
    clear hP hb5 QV hW5 hb9 ov
    go_wp2_with fail
    rw [HW5.out]
    go_quiet ((go_at_call 24; exact Calls.quiet_of_same ((QF.out _).mono fun _ _ h => ⟨h.1, h.2.symm⟩)))
    go_wp2_with fail
    go_ret
    exact ⟨rfl, below_drewN HB9.out _⟩
set_option maxRecDepth 100000 in
set_option maxHeartbeats 8000000 in
theorem suits_new (lo hi lo2 hi2 : Nat) (w : World) (cs : List Value) (q : Prog) (hq : ProgC lo hi w cs q) (hh : hi ≤ w.heap.size) (_ : Int) (dn nm : Wd) (ag : List Arg) (fr : List Api.Frame) (ob : List Virt) (D1 D2 D3 : Option Addr) (d1 d2 d3 : Nat) (hi1 : InstrC lo hi w [i64 25, str dn, str nm, .slice D1 ag.length d1, .slice D2 fr.length d2, .slice D3 ob.length d3] ⟨25, dn, nm, ag, fr, ob⟩) (tv : Value) (ts : List Wd) (hT : LinesM.Strs lo2 hi2 w tv ts) (hh2 : hi2 ≤ w.heap.size) (hlen : ts.length = ag.length) (sd : ByteArray) (dst : Wd) (hsd : sd.toList = dst)  :
    Calls Tryd.prog 59 #[.agg cs.toArray, .agg #[i64 25, str dn, str nm, .slice D1 ag.length d1, .slice D2 fr.length d2, .slice D3 ob.length d3], tv, .string sd] w (SaysT w (suitsT q ⟨25, dn, nm, ag, fr, ob⟩ ts dst)) := by
  have hq0 := hq
  obtain ⟨u1, u2, u3, u4, rfl, k1, k2, k3, k4⟩ := hq
  obtain ⟨B1, c1, rfl⟩ := k1.form
  obtain ⟨B2, c2, rfl⟩ := k2.form
  obtain ⟨B3, c3, rfl⟩ := k3.form
  obtain ⟨B4, c4, rfl⟩ := k4.form
  obtain ⟨A, n, cap, b, off, rfl, hn, hm2, ha, hc⟩ := hT
  have hres : suitsT q ⟨25, dn, nm, ag, fr, ob⟩ ts dst = (match classIn q.classes nm with | some c => (c.name == dst) && (decide (ts.length = 0) || allFitT ts c.fields) | none => false) := by unfold suitsT; dsimp only; rw [if_neg (show ¬ (25 : Int) = 24 by decide)]; rw [if_pos rfl]; try rfl
  rw [hres]
  obtain ⟨W, hW⟩ : ∃ W, (w.alloc (.cells #[.bool q.ssa, .slice B1 q.classes.length c1, .slice B2 q.globals.length c2, .slice B3 q.externs.length c3, .slice B4 q.funcs.length c4] 27)).alloc (.cells #[i64 25, str dn, str nm, .slice D1 ag.length d1, .slice D2 fr.length d2, .slice D3 ob.length d3] 59) = W := ⟨_, rfl⟩
  have hb : Below w.heap.size w W := by rw [← hW]; exact ((Below.refl _ _).alloc (Nat.le_refl _) _).alloc (by simp) _
  have HW := Lib.hid hW
  have HB := Lib.hid hb
  have QV := Lib.hid (findClass_any lo hi W _ q.classes nm ⟨nm.toArray⟩ rfl (Classes.move (Still.of_below (hb.mono hh)) k1) (Nat.le_trans hh hb.size))
  obtain ⟨r, hr⟩ : ∃ r, classIn q.classes nm = r := ⟨_, rfl⟩
  rw [hr]
  have HRR : Hid ((q.classes.find? fun x => x.name == nm) = r) := Lib.hid hr
  clear hr
  have HT2 : Hid (LinesM.Strs lo2 hi2 w (.slice A ag.length cap) ts) := Lib.hid ⟨A, ag.length, cap, b, off, rfl, by omega, by omega, fun h => ha (by omega), hc⟩
  have HSD := Lib.hid hsd
  have HLEN := Lib.hid hlen
  obtain rfl : n = ag.length := by omega
  clear hlen hn
  clear hW hb hc hres hq0 hi1 k1 k2 k3 k4
  clear hsd
  cases r with
  | none =>
    go_enter Tryd.func59, Tryd.ntmps59
    go_wp2_with fail
    rw [HW.out]
    refine QV.out.mono ?_
    intro e w5 hP
    simp only [HRR.out] at hP
    obtain ⟨hb5, rfl⟩ := hP
    have HB5 := Lib.hid (HB.out.trans (hb5.mono HB.out.size))
    obtain ⟨W5, hW5⟩ : ∃ W5, w5.alloc (.cells #[str [], .slice none 0 0] 36) = W5 := ⟨_, rfl⟩
    have HB9 := Lib.hid (HB5.out.alloc HB5.out.size (.cells #[str [], .slice none 0 0] 36))
    rw [hW5] at HB9
    have ov : Own W5 w5.heap.size 36 [str [], .slice none 0 0] := by rw [← hW5]; exact Own.made w5 36 [str [], .slice none 0 0]
    have x0 := ov.cell 0
    have x1 := ov.cell 1
    simp only [List.getElem?_cons_succ, List.getElem?_cons_zero] at x0 x1
    have HW5 := Lib.hid hW5
    clear hW5 hb5 QV ov
    go_wp2_with fail
    rw [HW5.out]
    try go_quiet (fail)
    go_wp2_with fail
    go_ret
    first | exact ⟨rfl, below_drewN HB9.out _⟩ | exact ⟨rfl, HB9.out⟩
  | some c =>
    obtain ⟨y1, hy1⟩ : ∃ y, (c.name == dst) = y := ⟨_, rfl⟩
    obtain ⟨y2, hy2⟩ : ∃ y, allFitT ts c.fields = y := ⟨_, rfl⟩
    have HY1 := Lib.hid hy1
    have HY2 := Lib.hid hy2
    go_enter Tryd.func59, Tryd.ntmps59
    go_wp2_with fail
    rw [HW.out]
    refine QV.out.mono ?_
    intro e w5 hP
    simp only [HRR.out] at hP
    obtain ⟨hb5, cs5, rfl, u5, rfl, hv5⟩ := hP
    obtain ⟨E1, e1, rfl⟩ := hv5.form
    have HB5 := Lib.hid (HB.out.trans (hb5.mono HB.out.size))
    obtain ⟨W5, hW5⟩ : ∃ W5, w5.alloc (.cells #[str c.name, .slice E1 c.fields.length e1] 36) = W5 := ⟨_, rfl⟩
    have hb9 : Below w5.heap.size w5 W5 := by rw [← hW5]; exact (Below.refl _ _).alloc (Nat.le_refl _) _
    have HB9 := Lib.hid (HB5.out.trans (hb9.mono HB5.out.size))
    have ov : Own W5 w5.heap.size 36 [str c.name, .slice E1 c.fields.length e1] := by rw [← hW5]; exact Own.made w5 36 [str c.name, .slice E1 c.fields.length e1]
    have x0 := ov.cell 0
    have x1 := ov.cell 1
    simp only [List.getElem?_cons_succ, List.getElem?_cons_zero] at x0 x1
    have eq1 : (c.name == sd.toList) = y1 := by rw [HSD.out]; exact hy1
    have QA := Lib.hid (allFit_any lo2 hi2 lo hi W5 (.slice A ag.length cap) (.slice E1 c.fields.length e1) ts c.fields (LinesM.Strs.below HT2.out (HB9.out.mono hh2)) (Vars.move (Still.of_below (hb9.mono (Nat.le_trans hh HB5.out.size))) hv5))
    have HW5 := Lib.hid hW5
    clear hW5 hb5 QV ov hv5 hb9 hy1 hy2
    by_cases hz : ag.length = 0
    · have ez : ((ag.length : Int) == 0) = true := by simp [hz]
      have HZ0 : Hid (decide (ts.length = 0) = true) := Lib.hid (decide_eq_true (by rw [HLEN.out]; exact hz))
      clear hz
      cases y1
      all_goals
        go_wp2_with fail
        rw [HW5.out]
        try go_quiet (fail)
        go_wp2_with fail
        go_ret
        first | exact ⟨by simp only [HY1.out, HZ0.out]; rfl, below_drewN HB9.out _⟩ | exact ⟨by simp only [HY1.out, HZ0.out]; rfl, HB9.out⟩
    · have ez : ((ag.length : Int) == 0) = false := by simpa using hz
      have HZ0 : Hid (decide (ts.length = 0) = false) := Lib.hid (decide_eq_false (by rw [HLEN.out]; exact hz))
      clear hz
      cases y1
      · go_wp2_with fail
        rw [HW5.out]
        try go_quiet (fail)
        go_wp2_with fail
        go_ret
        first | exact ⟨by simp only [HY1.out]; rfl, below_drewN HB9.out _⟩ | exact ⟨by simp only [HY1.out]; rfl, HB9.out⟩
      · go_wp2_with fail
        rw [HW5.out]
        refine QA.out.mono ?_
        rintro e w6 ⟨rfl, hw6⟩
        obtain rfl := hw6
        go_wp2_with fail
        go_ret
        first | exact ⟨by simp only [HY1.out, HZ0.out]; rfl, below_drewN HB9.out _⟩ | exact ⟨by simp only [HY1.out, HZ0.out]; rfl, HB9.out⟩
set_option maxRecDepth 100000 in
set_option maxHeartbeats 8000000 in
theorem suits_call (lo hi lo2 hi2 : Nat) (w : World) (cs : List Value) (q : Prog) (hq : ProgC lo hi w cs q) (hh : hi ≤ w.heap.size) (_ : Int) (dn nm : Wd) (ag : List Arg) (fr : List Api.Frame) (ob : List Virt) (D1 D2 D3 : Option Addr) (d1 d2 d3 : Nat) (hi1 : InstrC lo hi w [i64 31, str dn, str nm, .slice D1 ag.length d1, .slice D2 fr.length d2, .slice D3 ob.length d3] ⟨31, dn, nm, ag, fr, ob⟩) (tv : Value) (ts : List Wd) (hT : LinesM.Strs lo2 hi2 w tv ts) (hh2 : hi2 ≤ w.heap.size) (hlen : ts.length = ag.length) (sd : ByteArray) (dst : Wd) (hsd : sd.toList = dst)  :
    Calls Tryd.prog 59 #[.agg cs.toArray, .agg #[i64 31, str dn, str nm, .slice D1 ag.length d1, .slice D2 fr.length d2, .slice D3 ob.length d3], tv, .string sd] w (SaysT w (suitsT q ⟨31, dn, nm, ag, fr, ob⟩ ts dst)) := by
  have hq0 := hq
  obtain ⟨u1, u2, u3, u4, rfl, k1, k2, k3, k4⟩ := hq
  obtain ⟨B1, c1, rfl⟩ := k1.form
  obtain ⟨B2, c2, rfl⟩ := k2.form
  obtain ⟨B3, c3, rfl⟩ := k3.form
  obtain ⟨B4, c4, rfl⟩ := k4.form
  obtain ⟨A, n, cap, b, off, rfl, hn, hm2, ha, hc⟩ := hT
  have hres : suitsT q ⟨31, dn, nm, ag, fr, ob⟩ ts dst = (match funcIn q.funcs nm with | some f => allFitT ts f.params && (f.result == dst) | none => false) := by unfold suitsT; dsimp only; rw [if_neg (show ¬ (31 : Int) = 24 by decide)]; rw [if_neg (show ¬ (31 : Int) = 25 by decide)]; rw [if_neg (show ¬ (31 : Int) = 26 by decide)]; rw [if_neg (show ¬ (31 : Int) = 27 by decide)]; rw [if_neg (show ¬ (31 : Int) = 28 by decide)]; rw [if_neg (show ¬ (31 : Int) = 29 by decide)]; rw [if_neg (show ¬ (31 : Int) = 30 by decide)]; rw [if_pos rfl]; try rfl
  rw [hres]
  obtain ⟨W, hW⟩ : ∃ W, (w.alloc (.cells #[.bool q.ssa, .slice B1 q.classes.length c1, .slice B2 q.globals.length c2, .slice B3 q.externs.length c3, .slice B4 q.funcs.length c4] 27)).alloc (.cells #[i64 31, str dn, str nm, .slice D1 ag.length d1, .slice D2 fr.length d2, .slice D3 ob.length d3] 59) = W := ⟨_, rfl⟩
  have hb : Below w.heap.size w W := by rw [← hW]; exact ((Below.refl _ _).alloc (Nat.le_refl _) _).alloc (by simp) _
  have HW := Lib.hid hW
  have HB := Lib.hid hb
  have QV := Lib.hid (findFunc_any lo hi W _ q.funcs nm ⟨nm.toArray⟩ rfl (Funcs.move (Still.of_below (hb.mono hh)) k4) (Nat.le_trans hh hb.size))
  obtain ⟨r, hr⟩ : ∃ r, funcIn q.funcs nm = r := ⟨_, rfl⟩
  rw [hr]
  have HRR : Hid ((q.funcs.find? fun x => x.name == nm) = r) := Lib.hid hr
  clear hr
  have HT2 : Hid (LinesM.Strs lo2 hi2 w (.slice A ag.length cap) ts) := Lib.hid ⟨A, ag.length, cap, b, off, rfl, by omega, by omega, fun h => ha (by omega), hc⟩
  have HSD := Lib.hid hsd
  have HLEN := Lib.hid hlen
  obtain rfl : n = ag.length := by omega
  clear hlen hn
  clear hW hb hc hres hq0 hi1 k1 k2 k3 k4
  clear hsd
  cases r with
  | none =>
    go_enter Tryd.func59, Tryd.ntmps59
    go_wp2_with fail
    rw [HW.out]
    refine QV.out.mono ?_
    intro e w5 hP
    simp only [HRR.out] at hP
    obtain ⟨hb5, rfl⟩ := hP
    have HB5 := Lib.hid (HB.out.trans (hb5.mono HB.out.size))
    obtain ⟨W5, hW5⟩ : ∃ W5, w5.alloc (.cells #[str [], str [], .slice none 0 0, .slice none 0 0, .slice none 0 0] 30) = W5 := ⟨_, rfl⟩
    have HB9 := Lib.hid (HB5.out.alloc HB5.out.size (.cells #[str [], str [], .slice none 0 0, .slice none 0 0, .slice none 0 0] 30))
    rw [hW5] at HB9
    have ov : Own W5 w5.heap.size 30 [str [], str [], .slice none 0 0, .slice none 0 0, .slice none 0 0] := by rw [← hW5]; exact Own.made w5 30 [str [], str [], .slice none 0 0, .slice none 0 0, .slice none 0 0]
    have HW5 := Lib.hid hW5
    clear hW5 hb5 QV ov
    go_wp2_with fail
    rw [HW5.out]
    try go_quiet (fail)
    go_wp2_with fail
    go_ret
    first | exact ⟨rfl, below_drewN HB9.out _⟩ | exact ⟨rfl, HB9.out⟩
  | some c =>
    obtain ⟨y1, hy1⟩ : ∃ y, (c.result == dst) = y := ⟨_, rfl⟩
    obtain ⟨y2, hy2⟩ : ∃ y, allFitT ts c.params = y := ⟨_, rfl⟩
    have HY1 := Lib.hid hy1
    have HY2 := Lib.hid hy2
    go_enter Tryd.func59, Tryd.ntmps59
    go_wp2_with fail
    rw [HW.out]
    refine QV.out.mono ?_
    intro e w5 hP
    simp only [HRR.out] at hP
    obtain ⟨hb5, cs5, rfl, u5, u6, u7, rfl, hv5, hv6, hv7⟩ := hP
    obtain ⟨E1, e1, rfl⟩ := hv5.form
    obtain ⟨E2, e2, rfl⟩ := hv6.form
    obtain ⟨E3, e3, rfl⟩ := hv7.form
    have HB5 := Lib.hid (HB.out.trans (hb5.mono HB.out.size))
    obtain ⟨W5, hW5⟩ : ∃ W5, w5.alloc (.cells #[str c.name, str c.result, .slice E1 c.params.length e1, .slice E2 c.vars.length e2, .slice E3 c.blocks.length e3] 30) = W5 := ⟨_, rfl⟩
    have hb9 : Below w5.heap.size w5 W5 := by rw [← hW5]; exact (Below.refl _ _).alloc (Nat.le_refl _) _
    have HB9 := Lib.hid (HB5.out.trans (hb9.mono HB5.out.size))
    have ov : Own W5 w5.heap.size 30 [str c.name, str c.result, .slice E1 c.params.length e1, .slice E2 c.vars.length e2, .slice E3 c.blocks.length e3] := by rw [← hW5]; exact Own.made w5 30 [str c.name, str c.result, .slice E1 c.params.length e1, .slice E2 c.vars.length e2, .slice E3 c.blocks.length e3]
    have x1 := ov.cell 1
    have x2 := ov.cell 2
    simp only [List.getElem?_cons_succ, List.getElem?_cons_zero] at x1 x2
    have eq1 : (c.result == sd.toList) = y1 := by rw [HSD.out]; exact hy1
    have QA := allFit_any lo2 hi2 lo hi W5 (.slice A ag.length cap) (.slice E1 c.params.length e1) ts c.params (LinesM.Strs.below HT2.out (HB9.out.mono hh2)) (Vars.move (Still.of_below (hb9.mono (Nat.le_trans hh HB5.out.size))) hv5)
    rw [hy2] at QA
    have HQA := Lib.hid QA
    have HW5 := Lib.hid hW5
    clear hW5 hb5 QV ov hv5 hv6 hv7 hb9 hy1 hy2 QA
    cases y2 <;> cases y1
    all_goals
      go_wp2_with fail
      rw [HW5.out]
      refine HQA.out.mono ?_
      rintro e w6 ⟨rfl, hw6⟩
      obtain rfl := hw6
      go_wp2_with fail
      try go_quiet (fail)
      go_wp2_with fail
      go_ret
      first | exact ⟨by simp only [HY1.out, HY2.out]; rfl, below_drewN HB9.out _⟩ | exact ⟨by simp only [HY1.out, HY2.out]; rfl, HB9.out⟩
set_option maxRecDepth 100000 in
set_option maxHeartbeats 8000000 in
theorem suits_ext (lo hi lo2 hi2 : Nat) (w : World) (cs : List Value) (q : Prog) (hq : ProgC lo hi w cs q) (hh : hi ≤ w.heap.size) (_ : Int) (dn nm : Wd) (ag : List Arg) (fr : List Api.Frame) (ob : List Virt) (D1 D2 D3 : Option Addr) (d1 d2 d3 : Nat) (hi1 : InstrC lo hi w [i64 32, str dn, str nm, .slice D1 ag.length d1, .slice D2 fr.length d2, .slice D3 ob.length d3] ⟨32, dn, nm, ag, fr, ob⟩) (tv : Value) (ts : List Wd) (hT : LinesM.Strs lo2 hi2 w tv ts) (hh2 : hi2 ≤ w.heap.size) (hlen : ts.length = ag.length) (sd : ByteArray) (dst : Wd) (hsd : sd.toList = dst)  :
    Calls Tryd.prog 59 #[.agg cs.toArray, .agg #[i64 32, str dn, str nm, .slice D1 ag.length d1, .slice D2 fr.length d2, .slice D3 ob.length d3], tv, .string sd] w (SaysT w (suitsT q ⟨32, dn, nm, ag, fr, ob⟩ ts dst)) := by
  have hq0 := hq
  obtain ⟨u1, u2, u3, u4, rfl, k1, k2, k3, k4⟩ := hq
  obtain ⟨B1, c1, rfl⟩ := k1.form
  obtain ⟨B2, c2, rfl⟩ := k2.form
  obtain ⟨B3, c3, rfl⟩ := k3.form
  obtain ⟨B4, c4, rfl⟩ := k4.form
  obtain ⟨A, n, cap, b, off, rfl, hn, hm2, ha, hc⟩ := hT
  have hres : suitsT q ⟨32, dn, nm, ag, fr, ob⟩ ts dst = (match extIn q.externs nm with | some e => decide ((ts.length : Int) = e.n) && (allAreT ts intW && (dst == intW)) | none => false) := by unfold suitsT; dsimp only; rw [if_neg (show ¬ (32 : Int) = 24 by decide)]; rw [if_neg (show ¬ (32 : Int) = 25 by decide)]; rw [if_neg (show ¬ (32 : Int) = 26 by decide)]; rw [if_neg (show ¬ (32 : Int) = 27 by decide)]; rw [if_neg (show ¬ (32 : Int) = 28 by decide)]; rw [if_neg (show ¬ (32 : Int) = 29 by decide)]; rw [if_neg (show ¬ (32 : Int) = 30 by decide)]; rw [if_neg (show ¬ (32 : Int) = 31 by decide)]; rw [if_pos rfl]; try rfl
  rw [hres]
  obtain ⟨W, hW⟩ : ∃ W, (w.alloc (.cells #[.bool q.ssa, .slice B1 q.classes.length c1, .slice B2 q.globals.length c2, .slice B3 q.externs.length c3, .slice B4 q.funcs.length c4] 27)).alloc (.cells #[i64 32, str dn, str nm, .slice D1 ag.length d1, .slice D2 fr.length d2, .slice D3 ob.length d3] 59) = W := ⟨_, rfl⟩
  have hb : Below w.heap.size w W := by rw [← hW]; exact ((Below.refl _ _).alloc (Nat.le_refl _) _).alloc (by simp) _
  have HW := Lib.hid hW
  have HB := Lib.hid hb
  have QV := Lib.hid (findExtern_any lo hi W _ q.externs nm ⟨nm.toArray⟩ rfl (Externs.move (Still.of_below (hb.mono hh)) k3) (Nat.le_trans hh hb.size))
  obtain ⟨r, hr⟩ : ∃ r, extIn q.externs nm = r := ⟨_, rfl⟩
  rw [hr]
  have HRR : Hid ((q.externs.find? fun x => x.name == nm) = r) := Lib.hid hr
  clear hr
  have HT2 : Hid (LinesM.Strs lo2 hi2 w (.slice A ag.length cap) ts) := Lib.hid ⟨A, ag.length, cap, b, off, rfl, by omega, by omega, fun h => ha (by omega), hc⟩
  have HSD := Lib.hid hsd
  have HLEN := Lib.hid hlen
  obtain rfl : n = ag.length := by omega
  clear hlen hn
  clear hW hb hc hres hq0 hi1 k1 k2 k3 k4
  clear hsd
  cases r with
  | none =>
    go_enter Tryd.func59, Tryd.ntmps59
    go_wp2_with fail
    rw [HW.out]
    refine QV.out.mono ?_
    intro e w5 hP
    simp only [HRR.out] at hP
    obtain ⟨hb5, rfl⟩ := hP
    have HB5 := Lib.hid (HB.out.trans (hb5.mono HB.out.size))
    obtain ⟨W5, hW5⟩ : ∃ W5, w5.alloc (.cells #[str [], i64 0] 47) = W5 := ⟨_, rfl⟩
    have HB9 := Lib.hid (HB5.out.alloc HB5.out.size (.cells #[str [], i64 0] 47))
    rw [hW5] at HB9
    have ov : Own W5 w5.heap.size 47 [str [], i64 0] := by rw [← hW5]; exact Own.made w5 47 [str [], i64 0]
    have HW5 := Lib.hid hW5
    clear hW5 hb5 QV ov
    go_wp2_with fail
    rw [HW5.out]
    try go_quiet (fail)
    go_wp2_with fail
    go_ret
    first | exact ⟨rfl, below_drewN HB9.out _⟩ | exact ⟨rfl, HB9.out⟩
  | some c =>
    obtain ⟨y1, hy1⟩ : ∃ y, (dst == intW) = y := ⟨_, rfl⟩
    obtain ⟨y2, hy2⟩ : ∃ y, allAreT ts intW = y := ⟨_, rfl⟩
    obtain ⟨y3, hy3⟩ : ∃ y, decide ((ts.length : Int) = c.n) = y := ⟨_, rfl⟩
    have HY1 := Lib.hid hy1
    have HY2 := Lib.hid hy2
    have HY3 := Lib.hid hy3
    go_enter Tryd.func59, Tryd.ntmps59
    go_wp2_with fail
    rw [HW.out]
    refine QV.out.mono ?_
    intro e w5 hP
    simp only [HRR.out] at hP
    obtain ⟨hb5, cs5, rfl, hcs⟩ := hP
    have hcs2 : cs5 = [str c.name, i64 c.n] := hcs
    subst hcs2
    clear hcs
    have HB5 := Lib.hid (HB.out.trans (hb5.mono HB.out.size))
    obtain ⟨W5, hW5⟩ : ∃ W5, w5.alloc (.cells #[str c.name, i64 c.n] 47) = W5 := ⟨_, rfl⟩
    have hb9 : Below w5.heap.size w5 W5 := by rw [← hW5]; exact (Below.refl _ _).alloc (Nat.le_refl _) _
    have HB9 := Lib.hid (HB5.out.trans (hb9.mono HB5.out.size))
    have ov : Own W5 w5.heap.size 47 [str c.name, i64 c.n] := by rw [← hW5]; exact Own.made w5 47 [str c.name, i64 c.n]
    have x0 := ov.cell 0
    have x1 := ov.cell 1
    simp only [List.getElem?_cons_succ, List.getElem?_cons_zero] at x0 x1
    have eq1 : (sd.toList == [105, 110, 116]) = y1 := by rw [HSD.out]; exact hy1
    have eq3 : ((ag.length : Int) == c.n) = y3 := by rw [← hy3, ← HLEN.out]; rfl
    have QA := allAre_any lo2 hi2 W5 (.slice A ag.length cap) ts (LinesM.Strs.below HT2.out (HB9.out.mono hh2)) ⟨#[105, 110, 116]⟩ intW (by rw [ByteArray.toList_eq]; rfl)
    rw [hy2] at QA
    have HQA := Lib.hid QA
    have HW5 := Lib.hid hW5
    clear hW5 hb5 QV ov hb9 hy1 hy2 hy3 QA
    cases y3
    · go_wp2_with fail
      rw [HW5.out]
      try go_quiet (fail)
      go_wp2_with fail
      go_ret
      first | exact ⟨by simp only [HY3.out]; rfl, below_drewN HB9.out _⟩ | exact ⟨by simp only [HY3.out]; rfl, HB9.out⟩
    · cases y2 <;> cases y1
      all_goals
        go_wp2_with fail
        rw [HW5.out]
        refine HQA.out.mono ?_
        rintro e w6 ⟨rfl, hw6⟩
        obtain rfl := hw6
        go_wp2_with fail
        go_ret
        exact ⟨by simp only [HY1.out, HY2.out, HY3.out]; rfl, HB9.out⟩
set_option maxRecDepth 100000 in
set_option maxHeartbeats 8000000 in
theorem suits_num (lo hi lo2 hi2 : Nat) (w : World) (cs : List Value) (q : Prog) (hq : ProgC lo hi w cs q) (hh : hi ≤ w.heap.size) (op : Int) (dn nm : Wd) (ag : List Arg) (fr : List Api.Frame) (ob : List Virt) (D1 D2 D3 : Option Addr) (d1 d2 d3 : Nat) (hi1 : InstrC lo hi w [i64 op, str dn, str nm, .slice D1 ag.length d1, .slice D2 fr.length d2, .slice D3 ob.length d3] ⟨op, dn, nm, ag, fr, ob⟩) (tv : Value) (ts : List Wd) (hT : LinesM.Strs lo2 hi2 w tv ts) (hh2 : hi2 ≤ w.heap.size) (hlen : ts.length = ag.length) (sd : ByteArray) (dst : Wd) (hsd : sd.toList = dst) (hop : 1 ≤ op ∧ op ≤ 23) :
    Calls Tryd.prog 59 #[.agg cs.toArray, .agg #[i64 op, str dn, str nm, .slice D1 ag.length d1, .slice D2 fr.length d2, .slice D3 ob.length d3], tv, .string sd] w (SaysT w (suitsT q ⟨op, dn, nm, ag, fr, ob⟩ ts dst)) := by
  have hq0 := hq
  obtain ⟨u1, u2, u3, u4, rfl, k1, k2, k3, k4⟩ := hq
  obtain ⟨B1, c1, rfl⟩ := k1.form
  obtain ⟨B2, c2, rfl⟩ := k2.form
  obtain ⟨B3, c3, rfl⟩ := k3.form
  obtain ⟨B4, c4, rfl⟩ := k4.form
  obtain ⟨A, n, cap, b, off, rfl, hn, hm2, ha, hc⟩ := hT
  have hres : suitsT q ⟨op, dn, nm, ag, fr, ob⟩ ts dst = (allAreT ts (ofNums op).1 && (dst == (ofNums op).2)) := by unfold suitsT; dsimp only; rw [if_neg (show ¬ op = 24 by omega)]; rw [if_neg (show ¬ op = 25 by omega)]; rw [if_neg (show ¬ op = 26 by omega)]; rw [if_neg (show ¬ op = 27 by omega)]; rw [if_neg (show ¬ op = 28 by omega)]; rw [if_neg (show ¬ op = 29 by omega)]; rw [if_neg (show ¬ op = 30 by omega)]; rw [if_neg (show ¬ op = 31 by omega)]; rw [if_neg (show ¬ op = 32 by omega)]; rw [if_neg (show ¬ op = 33 by omega)]; rw [if_neg (show ¬ op = 34 by omega)]; skip
  rw [hres]
  obtain ⟨W, hW⟩ : ∃ W, (w.alloc (.cells #[.bool q.ssa, .slice B1 q.classes.length c1, .slice B2 q.globals.length c2, .slice B3 q.externs.length c3, .slice B4 q.funcs.length c4] 27)).alloc (.cells #[i64 op, str dn, str nm, .slice D1 ag.length d1, .slice D2 fr.length d2, .slice D3 ob.length d3] 59) = W := ⟨_, rfl⟩
  have hb : Below w.heap.size w W := by rw [← hW]; exact ((Below.refl _ _).alloc (Nat.le_refl _) _).alloc (by simp) _
  have HW := Lib.hid hW
  have HB := Lib.hid hb
  have HT2 : Hid (LinesM.Strs lo2 hi2 w (.slice A ag.length cap) ts) := Lib.hid ⟨A, ag.length, cap, b, off, rfl, by omega, by omega, fun h => ha (by omega), hc⟩
  have HSD := Lib.hid hsd
  have HLEN := Lib.hid hlen
  obtain rfl : n = ag.length := by omega
  clear hlen hn
  have n24 : (op == 24) = false := beq_false_of_ne (by omega)
  have n25 : (op == 25) = false := beq_false_of_ne (by omega)
  have n26 : (op == 26) = false := beq_false_of_ne (by omega)
  have n27 : (op == 27) = false := beq_false_of_ne (by omega)
  have n28 : (op == 28) = false := beq_false_of_ne (by omega)
  have n29 : (op == 29) = false := beq_false_of_ne (by omega)
  have n30 : (op == 30) = false := beq_false_of_ne (by omega)
  have n31 : (op == 31) = false := beq_false_of_ne (by omega)
  have n32 : (op == 32) = false := beq_false_of_ne (by omega)
  have n33 : (op == 33) = false := beq_false_of_ne (by omega)
  have n34 : (op == 34) = false := beq_false_of_ne (by omega)
  obtain ⟨f1, hf1⟩ : ∃ f, (ofNums op).1 = f := ⟨_, rfl⟩
  obtain ⟨f2, hf2⟩ : ∃ f, (ofNums op).2 = f := ⟨_, rfl⟩
  have QN := ofNum_any W op
  rw [hf1, hf2] at QN ⊢
  obtain ⟨y1, hy1⟩ : ∃ y, (dst == f2) = y := ⟨_, rfl⟩
  obtain ⟨y2, hy2⟩ : ∃ y, allAreT ts f1 = y := ⟨_, rfl⟩
  have eq1 : (sd.toList == f2) = y1 := by rw [HSD.out]; exact hy1
  have QA := allAre_any lo2 hi2 W (.slice A ag.length cap) ts (LinesM.Strs.below HT2.out (hb.mono hh2)) ⟨f1.toArray⟩ f1 (by rw [ByteArray.toList_eq])
  rw [hy1, hy2] 
  rw [hy2] at QA
  have HQA := Lib.hid QA
  have HQN := Lib.hid QN
  clear hy1 hy2 hf1 hf2 QA QN hop
  clear hW hb hc hres hq0 hi1 k1 k2 k3 k4
  clear hsd
  cases y2 <;> cases y1
  all_goals
    go_enter Tryd.func59, Tryd.ntmps59
    go_wp2_with fail
    rw [HW.out]
    refine HQN.out.mono ?_
    rintro e w5 ⟨rfl, hw5⟩
    obtain rfl := hw5
    go_wp2_with fail
    refine HQA.out.mono ?_
    rintro e w6 ⟨rfl, hw6⟩
    obtain rfl := hw6
    go_wp2_with fail
    go_ret
    exact ⟨rfl, HB.out⟩
end Go.Proofs.YtikfncgdjnljiaaDoor.Ty7
