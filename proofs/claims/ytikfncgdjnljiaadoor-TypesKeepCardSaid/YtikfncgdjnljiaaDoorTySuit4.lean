/-
  Package types: whether a Load is given what it must be (3 minutes).
-/
import Derived.Test.YtikfncgdjnljiaaDoorTySuit3
import Derived.Deep.QuietTactic
import Derived.BigQuiet
import Derived.Deep.RegionLaw
namespace Go.Proofs.YtikfncgdjnljiaaDoor.Ty7
open Go.RowKit Api Syn WordM Mem

set_option linter.unusedVariables false
set_option maxRecDepth 100000 in
set_option maxHeartbeats 8000000 in
theorem suits_load (lo hi lo2 hi2 : Nat) (w : World) (cs : List Value) (q : Prog) (hq : ProgC lo hi w cs q) (hh : hi ≤ w.heap.size) (_ : Int) (dn nm : Wd) (ag : List Arg) (fr : List Api.Frame) (ob : List Virt) (D1 D2 D3 : Option Addr) (d1 d2 d3 : Nat) (hi1 : InstrC lo hi w [i64 26, str dn, str nm, .slice D1 ag.length d1, .slice D2 fr.length d2, .slice D3 ob.length d3] ⟨26, dn, nm, ag, fr, ob⟩) (tv : Value) (ts : List Wd) (hT : LinesM.Strs lo2 hi2 w tv ts) (hh2 : hi2 ≤ w.heap.size) (hlen : ts.length = ag.length) (sd : ByteArray) (dst : Wd) (hsd : sd.toList = dst) (h1 : 1 ≤ ag.length) :
    Calls Tryd.prog 59 #[.agg cs.toArray, .agg #[i64 26, str dn, str nm, .slice D1 ag.length d1, .slice D2 fr.length d2, .slice D3 ob.length d3], tv, .string sd] w (SaysT w (suitsT q ⟨26, dn, nm, ag, fr, ob⟩ ts dst)) := by
  have hq0 := hq
  obtain ⟨u1, u2, u3, u4, rfl, k1, k2, k3, k4⟩ := hq
  obtain ⟨B1, c1, rfl⟩ := k1.form
  obtain ⟨B2, c2, rfl⟩ := k2.form
  obtain ⟨B3, c3, rfl⟩ := k3.form
  obtain ⟨B4, c4, rfl⟩ := k4.form
  obtain ⟨A, n, cap, b, off, rfl, hn, hm2, ha, hc⟩ := hT
  have hres : suitsT q ⟨26, dn, nm, ag, fr, ob⟩ ts dst = (match fieldIn q (ts.getD 0 []) nm with | some v => decide ((ag.getD 0 ⟨0, [], 0⟩).kind = 1) && (v.type == dst) | none => false) := by unfold suitsT; dsimp only; rw [if_neg (show ¬ (26 : Int) = 24 by decide)]; rw [if_neg (show ¬ (26 : Int) = 25 by decide)]; rw [if_pos rfl]; try rfl
  rw [hres]
  obtain ⟨W, hW⟩ : ∃ W, (w.alloc (.cells #[.bool q.ssa, .slice B1 q.classes.length c1, .slice B2 q.globals.length c2, .slice B3 q.externs.length c3, .slice B4 q.funcs.length c4] 27)).alloc (.cells #[i64 26, str dn, str nm, .slice D1 ag.length d1, .slice D2 fr.length d2, .slice D3 ob.length d3] 59) = W := ⟨_, rfl⟩
  have hb : Below w.heap.size w W := by rw [← hW]; exact ((Below.refl _ _).alloc (Nat.le_refl _) _).alloc (by simp) _
  have HW := Lib.hid hW
  have HB := Lib.hid hb
  obtain ⟨t0, ht0⟩ : ∃ t, ts[0]? = some t := ⟨_, List.getElem?_eq_getElem (by omega)⟩
  obtain ⟨rfl, _, hb1⟩ := ha (by omega)
  have hg0 : ts.getD 0 [] = t0 := by rw [List.getD_eq_getElem?_getD, ht0]; rfl
  obtain ⟨s0, hs0⟩ : ∃ s : ByteArray, s = ⟨t0.toArray⟩ := ⟨_, rfl⟩
  have hl0 : s0.toList = t0 := by rw [hs0, str_list]
  have q0 : w.cell? ⟨b, off, none⟩ = some (.string s0) := by rw [hs0]; exact hc 0 _ ht0
  have hbw : b < w.heap.size := by omega
  have hbw1 : b < w.heap.size + 1 := by omega
  have h0i : (0 : Int) < (ag.length : Int) := by omega
  have h0n : 0 < ag.length := by omega
  simp only [hg0]
  have QV := Lib.hid (fieldOf_any lo hi (W.alloc (.cells #[str [], str []] 40)).drew _ _ q ⟨26, dn, nm, ag, fr, ob⟩ (ProgC.move (Still.of_below ((hb.mono hh).alloc (Nat.le_trans hh hb.size) _).drew) hq0) (InstrC.move (Still.of_below ((hb.mono hh).alloc (Nat.le_trans hh hb.size) _).drew) hi1) (by have := hb.size; simp; omega) t0 s0 (by rw [← ByteArray.toList_eq]; exact hl0) (by show 0 < ag.length; omega))
  have QW := Lib.hid (fieldOf_any lo hi W.drew _ _ q ⟨26, dn, nm, ag, fr, ob⟩ (ProgC.move (Still.of_below (hb.mono hh).drew) hq0) (InstrC.move (Still.of_below (hb.mono hh).drew) hi1) (Nat.le_trans hh hb.size) t0 s0 (by rw [← ByteArray.toList_eq]; exact hl0) (by show 0 < ag.length; omega))
  obtain ⟨r, hr⟩ : ∃ r, (if ((ag.getD 0 ⟨0, [], 0⟩)).kind = 1 then fieldIn q t0 nm else none) = r := ⟨_, rfl⟩
  have HRR : Hid ((if ((ag.getD 0 ⟨0, [], 0⟩)).kind = 1 then fieldIn q t0 nm else none) = r) := Lib.hid hr
  have hsay : (match fieldIn q t0 nm with | some v => decide ((ag.getD 0 ⟨0, [], 0⟩).kind = 1) && (v.type == dst) | none => false) = (match (if (ag.getD 0 ⟨0, [], 0⟩).kind = 1 then fieldIn q t0 nm else none) with | some v => v.type == dst | none => false) := by
    by_cases hk : (ag.getD 0 ⟨0, [], 0⟩).kind = 1
    · rw [if_pos hk, decide_eq_true hk]; cases fieldIn q t0 nm <;> simp
    · rw [if_neg hk, decide_eq_false hk]; cases fieldIn q t0 nm <;> simp
  rw [hsay]
  simp only [hr]
  clear hg0 hs0 hl0 ht0 hr hsay
  have HSD := Lib.hid hsd
  clear hW hb hc hres hq0 hi1 k1 k2 k3 k4 hsd
  have HZW : Hid (W.heap.size = w.heap.size + 1 + 1) := Lib.hid (by rw [← HW.out]; simp)
  have HOP : Hid (Own W w.heap.size 27 [.bool q.ssa, .slice B1 q.classes.length c1, .slice B2 q.globals.length c2, .slice B3 q.externs.length c3, .slice B4 q.funcs.length c4] ∧ Own W (w.heap.size + 1) 59 [i64 26, str dn, str nm, .slice D1 ag.length d1, .slice D2 fr.length d2, .slice D3 ob.length d3]) := Lib.hid (by
    rw [← HW.out]
    refine ⟨(Own.made w 27 [.bool q.ssa, .slice B1 q.classes.length c1, .slice B2 q.globals.length c2, .slice B3 q.externs.length c3, .slice B4 q.funcs.length c4]).alloc _, ?_⟩
    have := Own.made (w.alloc (.cells #[.bool q.ssa, .slice B1 q.classes.length c1, .slice B2 q.globals.length c2, .slice B3 q.externs.length c3, .slice B4 q.funcs.length c4] 27)) 59 [i64 26, str dn, str nm, .slice D1 ag.length d1, .slice D2 fr.length d2, .slice D3 ob.length d3]
    rw [show (w.alloc (.cells #[.bool q.ssa, .slice B1 q.classes.length c1, .slice B2 q.globals.length c2, .slice B3 q.externs.length c3, .slice B4 q.funcs.length c4] 27)).heap.size = w.heap.size + 1 by simp] at this
    exact this)
  cases r with
  | none =>
    go_enter Tryd.func59, Tryd.ntmps59
    go_wp2_with fail
    rw [HW.out]
    have a0 := HOP.out.1.cell 0
    have a1 := HOP.out.1.cell 1
    have a2 := HOP.out.1.cell 2
    have a3 := HOP.out.1.cell 3
    have a4 := HOP.out.1.cell 4
    have i0 := HOP.out.2.cell 0
    have i1 := HOP.out.2.cell 1
    have i2 := HOP.out.2.cell 2
    have i3 := HOP.out.2.cell 3
    have i4 := HOP.out.2.cell 4
    have i5 := HOP.out.2.cell 5
    simp only [List.getElem?_cons_succ, List.getElem?_cons_zero] at a0 a1 a2 a3 a4 i0 i1 i2 i3 i4 i5
    have p0 := (HB.out.cell (p := ⟨b, off, none⟩) hbw).trans q0
    have r0 : b < W.heap.size := Nat.lt_of_lt_of_le hbw HB.out.size
    have r1 : w.heap.size < W.heap.size := HOP.out.1.lt
    have r2 : w.heap.size + 1 < W.heap.size := HOP.out.2.lt
    go_region_law (first | (go_simp; go_at_call 81; (with_reducible refine QV.out.mono ?_); intro e w5 hP; simp only [HRR.out] at hP; obtain ⟨rfl, hb5⟩ := VarP.none hP; have HB5 := Lib.hid (((HB.out.alloc HB.out.size (.cells #[str [], str []] 40)).drew).trans (hb5.mono (by simp [HZW.out]; omega))); have ov := ((Own.made W 40 [str [], str []]).drew).below hb5 (by simp); have z0 := (ov.cell 0).trans rfl; have t0' := ov.thaw 0; have z1 := (ov.cell 1).trans rfl; have t1' := ov.thaw 1; have ylt := ov.lt; clear hP hb5 ov) | (go_simp; go_at_call 81; (with_reducible refine QW.out.mono ?_); intro e w5 hP; simp only [HRR.out] at hP; obtain ⟨rfl, hb5⟩ := VarP.none hP; have HB5 := Lib.hid (HB.out.drew.trans (hb5.mono HB.out.size)); clear hP hb5))
    all_goals
      go_wp2_with fail
      go_ret
      first | exact ⟨rfl, two_in HB5.out HB.out.size⟩ | exact ⟨rfl, HB5.out.alloc HB5.out.size _⟩
  | some v =>
    go_enter Tryd.func59, Tryd.ntmps59
    go_wp2_with fail
    rw [HW.out]
    have a0 := HOP.out.1.cell 0
    have a1 := HOP.out.1.cell 1
    have a2 := HOP.out.1.cell 2
    have a3 := HOP.out.1.cell 3
    have a4 := HOP.out.1.cell 4
    have i0 := HOP.out.2.cell 0
    have i1 := HOP.out.2.cell 1
    have i2 := HOP.out.2.cell 2
    have i3 := HOP.out.2.cell 3
    have i4 := HOP.out.2.cell 4
    have i5 := HOP.out.2.cell 5
    simp only [List.getElem?_cons_succ, List.getElem?_cons_zero] at a0 a1 a2 a3 a4 i0 i1 i2 i3 i4 i5
    have p0 := (HB.out.cell (p := ⟨b, off, none⟩) hbw).trans q0
    have r0 : b < W.heap.size := Nat.lt_of_lt_of_le hbw HB.out.size
    have r1 : w.heap.size < W.heap.size := HOP.out.1.lt
    have r2 : w.heap.size + 1 < W.heap.size := HOP.out.2.lt
    go_region_law (first | (go_simp; go_at_call 81; (with_reducible refine QV.out.mono ?_); intro e w5 hP; simp only [HRR.out] at hP; obtain ⟨rfl, hb5⟩ := VarP.some hP; have HB5 := Lib.hid (((HB.out.alloc HB.out.size (.cells #[str [], str []] 40)).drew).trans (hb5.mono (by simp [HZW.out]; omega))); have ov := ((Own.made W 40 [str [], str []]).drew).below hb5 (by simp); have z0 := (ov.cell 0).trans rfl; have t0' := ov.thaw 0; have z1 := (ov.cell 1).trans rfl; have t1' := ov.thaw 1; have ylt := ov.lt; clear hP hb5 ov) | (go_simp; go_at_call 81; (with_reducible refine QW.out.mono ?_); intro e w5 hP; simp only [HRR.out] at hP; obtain ⟨rfl, hb5⟩ := VarP.some hP; have HB5 := Lib.hid (HB.out.drew.trans (hb5.mono HB.out.size)); clear hP hb5))
    all_goals
      go_wp2_with fail
      go_ret
      first | exact ⟨by rw [← HSD.out]; rfl, two_in HB5.out HB.out.size⟩ | exact ⟨by rw [← HSD.out]; rfl, HB5.out.alloc HB5.out.size _⟩
end Go.Proofs.YtikfncgdjnljiaaDoor.Ty7
