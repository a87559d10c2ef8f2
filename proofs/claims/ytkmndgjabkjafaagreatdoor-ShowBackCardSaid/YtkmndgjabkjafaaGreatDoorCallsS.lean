/-
  The document's Same of programs (layer 6), where both are the same.
  The document's Same of blocks, of functions, of programs (layer 6), where both are the same.
  The document's Same of functions, of programs (layer 6), where both are the same.
-/
import Derived.Test.YtkmndgjabkjafaaGreatDoorProg
import Derived.Test.YtkmndgjabkjafaaGreatDoorMem
import Derived.Test.YtkmndgjabkjafaaGreatDoorPlainS
import Derived.Lib.Hide
import Derived.Lib.Walk
import Derived.Deep.QuietTactic
import Derived.BigQuiet
import Derived.Deep.RegionHeld3
import Derived.StillTailTactics
namespace Go.Proofs.YtkmndgjabkjafaaGreatDoor.R06
open Go.RowKit Api Mem

theorem below_drewN {B : Nat} {a w : World} (h : Below B a w) (n : Nat) : Below B a (w.drewN n) := ⟨h.os, h.tape, h.output, h.size, h.block⟩
/-- Nothing but draws. -/
def Drawn (w w' : World) : Prop := ∃ m, w' = w.drewN m
theorem Drawn.refl (w : World) : Drawn w w := ⟨0, rfl⟩
theorem Drawn.more {w w' : World} (h : Drawn w w') (n : Nat) : Drawn w (w'.drewN n) := by
  obtain ⟨m, rfl⟩ := h; exact ⟨m + n, by rw [World.drewN_drewN]⟩
theorem Drawn.trans {a b c : World} (h : Drawn a b) (k : Drawn b c) : Drawn a c := by
  obtain ⟨m, rfl⟩ := k; exact h.more m
theorem Drawn.below {w w' : World} (h : Drawn w w') (B : Nat) : Below B w w' := by
  obtain ⟨m, rfl⟩ := h; exact below_drewN (Below.refl _ _) _
theorem Drawn.size {w w' : World} (h : Drawn w w') : w'.heap.size = w.heap.size := by
  obtain ⟨m, rfl⟩ := h; rfl
/-- two things, boxed one behind the other. -/
theorem boxed2 {w W : World} {t : TypeId} {c1 c2 : List Value} (h : (w.alloc (.cells c1.toArray t)).alloc (.cells c2.toArray t) = W) : Own W w.heap.size t c1 ∧ Own W (w.heap.size + 1) t c2 ∧ Below w.heap.size w W ∧ W.heap.size = w.heap.size + 1 + 1 := by
  subst h
  refine ⟨(Own.made w t c1).alloc _, ?_, ((Below.refl _ _).alloc (Nat.le_refl _) _).alloc (by simp) _, by simp⟩
  have e : (w.alloc (.cells c1.toArray t)).heap.size = w.heap.size + 1 := by simp
  have := Own.made (w.alloc (.cells c1.toArray t)) t c2
  rw [e] at this
  exact this
theorem Own.later {w w' : World} {g B : Nat} {t : TypeId} {cs : List Value} (o : Own w g t cs) (hb : Below B w w') (hg : g < B) (i : Nat) {u : Value} (h : cs[i]? = some u) : w'.cell? ⟨g, i, none⟩ = some u := ((o.below hb hg).cell i).trans h

set_option maxHeartbeats 2000000 in
theorem vars_any (lo1 hi1 lo2 hi2 : Nat) (w : World) (v1 v2 : Value) (l : List Var) (h1 : Vars lo1 hi1 w v1 l) (h2 : Vars lo2 hi2 w v2 l) (hh1 : hi1 ≤ w.heap.size) (hh2 : hi2 ≤ w.heap.size) :
    Calls Tryz.prog 21 #[v1, v2] w fun e w' => e = .returned (.bool true) ∧ Drawn w w' := by
  obtain ⟨A, n, cap, b, off, rfl, hn, hm, ha, hc⟩ := h1
  obtain ⟨A', n', cap', b', off', rfl, hn', hm', ha', hc'⟩ := h2
  obtain rfl : n = n' := by omega
  have HC := Lib.hid hc
  have HA := Lib.hid ha
  have HC' := Lib.hid hc'
  have HA' := Lib.hid ha'
  have HN := Lib.hid hn
  clear hc ha hn hc' ha' hn'
  have e0 : (n != n) = false := by simp
  go_enter Tryz.func21, Tryz.ntmps21
  go_wp2
  go_loopw [5] (fun i wr => ∃ k : Nat, k ≤ n ∧ i = .int .i64 k ∧ Hid (Drawn w wr)) (fun i _ => n - (intOf i).toNat)
  case atStart => exact ⟨0, Nat.zero_le _, rfl, Lib.hid (Drawn.refl _)⟩
  case round =>
    obtain ⟨k, hk, rfl, HD⟩ := hrel
    by_cases hlt : k < n
    · obtain ⟨x, hx⟩ : ∃ x, l[k]? = some x := ⟨_, List.getElem?_eq_getElem (by have := HN.out; omega)⟩
      obtain ⟨rfl, _, hb⟩ := HA.out (by omega)
      obtain ⟨rfl, _, hb'⟩ := HA'.out (by omega)
      obtain ⟨cs, _, q1, rfl⟩ := HC.out k x hx
      obtain ⟨cs', _, q2, rfl⟩ := HC'.out k x hx
      have HB := Lib.hid (HD.out.below w.heap.size)
      obtain ⟨c0, c1⟩ := at2 (cells_later q1 HB.out (by omega))
      obtain ⟨d0, d1⟩ := at2 (cells_later q2 HB.out (by omega))
      clear q1 q2 hx
      go_wp2
      go_quiet (fail)
      go_wp2
      go_roundw
      case rel => exact ⟨k + 1, by omega, by go_num, Lib.hid (HD.out.more _)⟩
      case measure => simp [intOf]; omega
    · go_wp2
      go_ret
      exact ⟨rfl, HD.out⟩

set_option maxHeartbeats 2000000 in
theorem args_any (lo1 hi1 lo2 hi2 : Nat) (w : World) (v1 v2 : Value) (l : List Arg) (h1 : Args lo1 hi1 w v1 l) (h2 : Args lo2 hi2 w v2 l) (hh1 : hi1 ≤ w.heap.size) (hh2 : hi2 ≤ w.heap.size) :
    Calls Tryz.prog 142 #[v1, v2] w fun e w' => e = .returned (.bool true) ∧ Drawn w w' := by
  obtain ⟨A, n, cap, b, off, rfl, hn, hm, ha, hc⟩ := h1
  obtain ⟨A', n', cap', b', off', rfl, hn', hm', ha', hc'⟩ := h2
  obtain rfl : n = n' := by omega
  have HC := Lib.hid hc
  have HA := Lib.hid ha
  have HC' := Lib.hid hc'
  have HA' := Lib.hid ha'
  have HN := Lib.hid hn
  clear hc ha hn hc' ha' hn'
  have e0 : (n != n) = false := by simp
  go_enter Tryz.func142, Tryz.ntmps142
  go_wp2
  go_loopw [5] (fun i wr => ∃ k : Nat, k ≤ n ∧ i = .int .i64 k ∧ Hid (Drawn w wr)) (fun i _ => n - (intOf i).toNat)
  case atStart => exact ⟨0, Nat.zero_le _, rfl, Lib.hid (Drawn.refl _)⟩
  case round =>
    obtain ⟨k, hk, rfl, HD⟩ := hrel
    by_cases hlt : k < n
    · obtain ⟨x, hx⟩ : ∃ x, l[k]? = some x := ⟨_, List.getElem?_eq_getElem (by have := HN.out; omega)⟩
      obtain ⟨rfl, _, hb⟩ := HA.out (by omega)
      obtain ⟨rfl, _, hb'⟩ := HA'.out (by omega)
      obtain ⟨cs, _, q1, rfl⟩ := HC.out k x hx
      obtain ⟨cs', _, q2, rfl⟩ := HC'.out k x hx
      have HB := Lib.hid (HD.out.below w.heap.size)
      obtain ⟨c0, c1, c2⟩ := at3 (cells_later q1 HB.out (by omega))
      obtain ⟨d0, d1, d2⟩ := at3 (cells_later q2 HB.out (by omega))
      clear q1 q2 hx
      go_wp2
      go_quiet (fail)
      go_wp2
      go_roundw
      case rel => exact ⟨k + 1, by omega, by go_num, Lib.hid (HD.out.more _)⟩
      case measure => simp [intOf]; omega
    · go_wp2
      go_ret
      exact ⟨rfl, HD.out⟩

set_option maxHeartbeats 8000000 in
set_option maxRecDepth 100000 in
theorem instr_any (lo1 hi1 lo2 hi2 : Nat) (w : World) (cs1 cs2 : List Value) (x : Instr) (h1 : InstrC lo1 hi1 w cs1 x) (h2 : InstrC lo2 hi2 w cs2 x) (hh1 : hi1 ≤ w.heap.size) (hh2 : hi2 ≤ w.heap.size) :
    Calls Tryz.prog 101 #[.agg cs1.toArray, .agg cs2.toArray] w fun e w' => e = .returned (.bool true) ∧ Below w.heap.size w w' := by
  obtain ⟨u1, u2, u3, rfl, ua, uf, uo⟩ := h1
  obtain ⟨v1, v2, v3, rfl, va, vf, vo⟩ := h2
  obtain ⟨op, dst, name, args, frames, objs⟩ := x
  simp only at ua uf uo va vf vo ⊢
  obtain ⟨A2, c2, rfl⟩ := uf.form
  obtain ⟨A3, c3, rfl⟩ := uo.form
  obtain ⟨B2, d2, rfl⟩ := vf.form
  obtain ⟨B3, d3, rfl⟩ := vo.form
  have e1 : (frames.length != frames.length) = false := by simp
  have e2 : (objs.length != objs.length) = false := by simp
  have UA := Lib.hid ua
  have UF := Lib.hid uf
  have UO := Lib.hid uo
  have VA := Lib.hid va
  have VF := Lib.hid vf
  have VO := Lib.hid vo
  clear ua uf uo va vf vo
  obtain ⟨W2, hW2⟩ : ∃ W2, (w.alloc (.cells #[i64 op, str dst, str name, u1, .slice A2 frames.length c2, .slice A3 objs.length c3] 52)).alloc (.cells #[i64 op, str dst, str name, v1, .slice B2 frames.length d2, .slice B3 objs.length d3] 52) = W2 := ⟨_, rfl⟩
  obtain ⟨o1', o2', hb0, hz0⟩ := boxed2 (c1 := [i64 op, str dst, str name, u1, .slice A2 frames.length c2, .slice A3 objs.length c3]) (c2 := [i64 op, str dst, str name, v1, .slice B2 frames.length d2, .slice B3 objs.length d3]) hW2
  have O1 := Lib.hid o1'
  have O2 := Lib.hid o2'
  have HB0 := Lib.hid hb0
  have HZ0 := Lib.hid hz0
  have HW2 := Lib.hid hW2
  have k1 := HB0.out.mono hh1
  have k2 := HB0.out.mono hh2
  have UA2 := Lib.hid (Args.move (Still.of_below k1) UA.out)
  have VA2 := Lib.hid (Args.move (Still.of_below k2) VA.out)
  have UF2 := Lib.hid (Frames.move (Still.of_below k1) UF.out)
  have VF2 := Lib.hid (Frames.move (Still.of_below k2) VF.out)
  have UO2 := Lib.hid (Virts.move (Still.of_below k1) UO.out)
  have VO2 := Lib.hid (Virts.move (Still.of_below k2) VO.out)
  have Q := Lib.hid (args_any lo1 hi1 lo2 hi2 W2 u1 v1 args UA2.out VA2.out (by omega) (by omega))
  clear o1' o2' hb0 hz0 hW2 k1 k2 UA VA UF VF UO VO
  go_enter Tryz.func101, Tryz.ntmps101
  go_wp2_with fail
  rw [HW2.out]
  refine Q.out.mono ?_; rintro e w1 ⟨rfl, hd1⟩
  have HD1 := Lib.hid hd1
  have HS1 : Hid (w1.heap.size = w.heap.size + 1 + 1) := Lib.hid (hd1.size.trans HZ0.out)
  have HB1 := Lib.hid (hd1.below (w.heap.size + 1 + 1))
  have f1 : w1.cell? ⟨w.heap.size, 4, none⟩ = some (.slice A2 frames.length c2) := Own.later O1.out HB1.out (by omega) 4 rfl
  have f2 : w1.cell? ⟨w.heap.size + 1, 4, none⟩ = some (.slice B2 frames.length d2) := Own.later O2.out HB1.out (by omega) 4 rfl
  have f3 : w1.cell? ⟨w.heap.size, 5, none⟩ = some (.slice A3 objs.length c3) := Own.later O1.out HB1.out (by omega) 5 rfl
  have f4 : w1.cell? ⟨w.heap.size + 1, 5, none⟩ = some (.slice B3 objs.length d3) := Own.later O2.out HB1.out (by omega) 5 rfl
  clear hd1
  go_wp2_with fail
  go_loopw [5] (fun i wr => ∃ k : Nat, k ≤ frames.length ∧ i = .int .i64 k ∧ Hid (Below (w.heap.size + 1 + 1) W2 wr)) (fun i _ => frames.length - (intOf i).toNat)
  case atStart => exact ⟨0, Nat.zero_le _, rfl, HB1⟩
  case round =>
  obtain ⟨k, hk, rfl, HBr⟩ := hrel
  have f1 : wr.cell? ⟨w.heap.size, 4, none⟩ = some (.slice A2 frames.length c2) := Own.later O1.out HBr.out (by omega) 4 rfl
  have f2 : wr.cell? ⟨w.heap.size + 1, 4, none⟩ = some (.slice B2 frames.length d2) := Own.later O2.out HBr.out (by omega) 4 rfl
  by_cases hlt : k < frames.length
  · obtain ⟨⟨fn, bl, pos, vs⟩, hx⟩ : ∃ x, frames[k]? = some x := ⟨_, List.getElem?_eq_getElem hlt⟩
    obtain ⟨b1, of1, _, hm1, a1, j1⟩ := UF2.out.get
    obtain ⟨b2, of2, _, hm2, a2, j2⟩ := VF2.out.get
    obtain ⟨rfl, _, hb1⟩ := a1 (by omega)
    obtain ⟨rfl, _, hb2⟩ := a2 (by omega)
    obtain ⟨cs1, _, q1, u, rfl, hu⟩ := j1 k _ hx
    obtain ⟨cs2, _, q2, v, rfl, hv⟩ := j2 k _ hx
    simp only at hu hv q1 q2
    obtain ⟨Au, cu, rfl⟩ := hu.form
    obtain ⟨Av, cv, rfl⟩ := hv.form
    obtain ⟨m0, m1, m2, m3⟩ := at4 (cells_later q1 HBr.out (by omega))
    obtain ⟨n0, n1, n2, n3⟩ := at4 (cells_later q2 HBr.out (by omega))
    have HU := Lib.hid hu
    have HV := Lib.hid hv
    have e3 : (vs.length != vs.length) = false := by simp
    have hz1 := HBr.out.size
    rw [HZ0.out] at hz1
    have hz2 : w.heap.size < wr.heap.size := by omega
    have hz3 : w.heap.size + 1 < wr.heap.size := by omega
    have hz4 : b1 < wr.heap.size := by omega
    have hz5 : b2 < wr.heap.size := by omega
    clear j1 j2 a1 a2 q1 q2 hx hu hv hz1
    obtain ⟨wo, rfl⟩ : ∃ wo : World, wo = wr := ⟨_, rfl⟩
    obtain ⟨W3, hW3⟩ : ∃ W3, (wo.alloc (.cells #[str fn, str bl, i64 pos, .slice Au vs.length cu] 167)).alloc (.cells #[str fn, str bl, i64 pos, .slice Av vs.length cv] 167) = W3 := ⟨_, rfl⟩
    obtain ⟨p1, p2, hb3, hz3'⟩ := boxed2 (c1 := [str fn, str bl, i64 pos, .slice Au vs.length cu]) (c2 := [str fn, str bl, i64 pos, .slice Av vs.length cv]) hW3
    have P1 := Lib.hid p1
    have P2 := Lib.hid p2
    have HW3 := Lib.hid hW3
    have HB3 := Lib.hid (HBr.out.trans (hb3.mono (by omega)))
    clear p1 p2 hW3 hb3 hz3'
    go_wp2
    rw [HW3.out]
    go_loopw [8] (fun j wq => ∃ q : Nat, q ≤ vs.length ∧ j = .int .i64 q ∧ Hid (Drawn W3 wq)) (fun j _ => vs.length - (intOf j).toNat)
    case atStart => exact ⟨0, Nat.zero_le _, rfl, Lib.hid (Drawn.refl _)⟩
    case round =>
    obtain ⟨q, hq, rfl, HD⟩ := hrel
    have HDB := Lib.hid (HD.out.below (wo.heap.size + 1 + 1))
    have g1 : wr.cell? ⟨wo.heap.size, 3, none⟩ = some (.slice Au vs.length cu) := Own.later P1.out HDB.out (by omega) 3 rfl
    have g2 : wr.cell? ⟨wo.heap.size + 1, 3, none⟩ = some (.slice Av vs.length cv) := Own.later P2.out HDB.out (by omega) 3 rfl
    by_cases hqt : q < vs.length
    · obtain ⟨z, hz⟩ : ∃ x, vs[q]? = some x := ⟨_, List.getElem?_eq_getElem hqt⟩
      obtain ⟨b3, of3, _, hm3, a3, j3⟩ := HU.out.get
      obtain ⟨b4, of4, _, hm4, a4, j4⟩ := HV.out.get
      obtain ⟨rfl, _, hb3⟩ := a3 (by omega)
      obtain ⟨rfl, _, hb4⟩ := a4 (by omega)
      obtain ⟨cs3, _, q3, rfl⟩ := j3 q _ hz
      obtain ⟨cs4, _, q4, rfl⟩ := j4 q _ hz
      have hbx := HB3.out.trans (HD.out.below (w.heap.size + 1 + 1))
      obtain ⟨r0, r1, r2, r3⟩ := at4 (cells_later q3 hbx (by omega))
      obtain ⟨t0, t1, t2, t3⟩ := at4 (cells_later q4 hbx (by omega))
      clear j3 j4 a3 a4 q3 q4 hz hbx
      go_wp2
      go_quiet (fail)
      go_wp2
      go_roundw
      case rel => exact ⟨q + 1, by omega, by go_num, Lib.hid (HD.out.more _)⟩
      case measure => simp [intOf]; omega
    · go_wp2
      go_roundw
      case rel => exact ⟨k + 1, by omega, by go_num, Lib.hid (HB3.out.trans (HD.out.below _))⟩
      case measure => simp [intOf]; omega
  have f3 : wr.cell? ⟨w.heap.size, 5, none⟩ = some (.slice A3 objs.length c3) := Own.later O1.out HBr.out (by omega) 5 rfl
  have f4 : wr.cell? ⟨w.heap.size + 1, 5, none⟩ = some (.slice B3 objs.length d3) := Own.later O2.out HBr.out (by omega) 5 rfl
  obtain ⟨wp, rfl⟩ : ∃ wp : World, wp = wr := ⟨_, rfl⟩
  go_wp2
  go_loopw [9] (fun i wr => ∃ k : Nat, k ≤ objs.length ∧ i = .int .i64 k ∧ Hid (Drawn wp wr)) (fun i _ => objs.length - (intOf i).toNat)
  case atStart => exact ⟨0, Nat.zero_le _, rfl, Lib.hid (Drawn.refl _)⟩
  case round =>
  obtain ⟨k2, hk2, rfl, HD⟩ := hrel
  have HBx := Lib.hid (HBr.out.trans (HD.out.below (w.heap.size + 1 + 1)))
  have f3 : wr.cell? ⟨w.heap.size, 5, none⟩ = some (.slice A3 objs.length c3) := Own.later O1.out HBx.out (by omega) 5 rfl
  have f4 : wr.cell? ⟨w.heap.size + 1, 5, none⟩ = some (.slice B3 objs.length d3) := Own.later O2.out HBx.out (by omega) 5 rfl
  by_cases hlt2 : k2 < objs.length
  · obtain ⟨⟨cl, vals⟩, hx⟩ : ∃ x, objs[k2]? = some x := ⟨_, List.getElem?_eq_getElem hlt2⟩
    obtain ⟨b1, of1, _, hm1, a1, j1⟩ := UO2.out.get
    obtain ⟨b2, of2, _, hm2, a2, j2⟩ := VO2.out.get
    obtain ⟨rfl, _, hb1⟩ := a1 (by omega)
    obtain ⟨rfl, _, hb2⟩ := a2 (by omega)
    obtain ⟨cs1, _, q1, u, rfl, hu⟩ := j1 k2 _ hx
    obtain ⟨cs2, _, q2, v, rfl, hv⟩ := j2 k2 _ hx
    simp only at hu hv q1 q2
    obtain ⟨m0, m1⟩ := at2 (cells_later q1 HBx.out (by omega))
    obtain ⟨n0, n1⟩ := at2 (cells_later q2 HBx.out (by omega))
    have HU := Lib.hid (Args.move (Still.of_below (HBx.out.mono (by omega))) hu)
    have HV := Lib.hid (Args.move (Still.of_below (HBx.out.mono (by omega))) hv)
    have hzz : w.heap.size + 1 + 1 ≤ wr.heap.size := by have := HBx.out.size; rw [HZ0.out] at this; exact this
    have QA := Lib.hid fun n => args_any lo1 hi1 lo2 hi2 (wr.drewN n) u v vals (Args.move (Still.of_below (below_drewN (Below.refl _ _) n)) HU.out) (Args.move (Still.of_below (below_drewN (Below.refl _ _) n)) HV.out) (by show hi1 ≤ wr.heap.size; omega) (by show hi2 ≤ wr.heap.size; omega)
    clear j1 j2 a1 a2 q1 q2 hx hu hv hzz
    go_wp2
    go_quiet ((go_at_call 142; exact Calls.quiet_of (QA.out _)))
    go_wp2
    go_roundw
    case rel => exact ⟨k2 + 1, by omega, by go_num, Lib.hid (HD.out.more _)⟩
    case measure => simp [intOf]; omega
  · go_wp2
    go_ret
    exact ⟨rfl, (HB0.out.trans (HBx.out.mono (by omega)))⟩
end Go.Proofs.YtkmndgjabkjafaaGreatDoor.R06

namespace Go.Proofs.YtkmndgjabkjafaaGreatDoor.R06
open Go.RowKit Api Mem

theorem at1 {w : World} {b off k : Nat} {c : Value} (h : ∀ j u, [c][j]? = some u → w.cell? ⟨b, off + k * 1 + j, none⟩ = some u) : w.cell? ⟨b, off + k, none⟩ = some c := by
  have := h 0 _ rfl
  rw [Nat.mul_one, Nat.add_zero] at this
  exact this

set_option maxHeartbeats 16000000 in
set_option maxRecDepth 100000 in
theorem block_any (lo1 hi1 lo2 hi2 : Nat) (w : World) (cs1 cs2 : List Value) (x : Block) (h1 : BlockC lo1 hi1 w cs1 x) (h2 : BlockC lo2 hi2 w cs2 x) (hh1 : hi1 ≤ w.heap.size) (hh2 : hi2 ≤ w.heap.size) :
    Calls Tryz.prog 48 #[.agg cs1.toArray, .agg cs2.toArray] w fun e w' => e = .returned (.bool true) ∧ Below w.heap.size w w' := by
  obtain ⟨u1, u2, cs1, rfl, ua, uf, u3, rfl, uo⟩ := h1
  obtain ⟨v1, v2, cs2, rfl, va, vf, v3, rfl, vo⟩ := h2
  obtain ⟨name, phis, code, ⟨tk, ⟨ak, as_, an⟩, dest, tn⟩⟩ := x
  simp only at ua uf uo va vf vo ⊢
  obtain ⟨A1, c1, rfl⟩ := ua.form
  obtain ⟨A2, c2, rfl⟩ := uf.form
  obtain ⟨A3, c3, rfl⟩ := uo.form
  obtain ⟨B1, d1, rfl⟩ := va.form
  obtain ⟨B2, d2, rfl⟩ := vf.form
  obtain ⟨B3, d3, rfl⟩ := vo.form
  have e1 : (phis.length != phis.length) = false := by simp
  have e2 : (code.length != code.length) = false := by simp
  have e3 : (dest.length != dest.length) = false := by simp
  obtain ⟨W2, hW2⟩ : ∃ W2, (w.alloc (.cells #[str name, .slice A1 phis.length c1, .slice A2 code.length c2, i64 tk, i64 ak, str as_, i64 an, .slice A3 dest.length c3, i64 tn] 47)).alloc (.cells #[str name, .slice B1 phis.length d1, .slice B2 code.length d2, i64 tk, i64 ak, str as_, i64 an, .slice B3 dest.length d3, i64 tn] 47) = W2 := ⟨_, rfl⟩
  obtain ⟨o1', o2', hb0, hz0⟩ := boxed2 (c1 := [str name, .slice A1 phis.length c1, .slice A2 code.length c2, i64 tk, i64 ak, str as_, i64 an, .slice A3 dest.length c3, i64 tn]) (c2 := [str name, .slice B1 phis.length d1, .slice B2 code.length d2, i64 tk, i64 ak, str as_, i64 an, .slice B3 dest.length d3, i64 tn]) hW2
  have O1 := Lib.hid o1'
  have O2 := Lib.hid o2'
  have HB0 := Lib.hid hb0
  have HZ0 := Lib.hid hz0
  have HW2 := Lib.hid hW2
  have k1 := HB0.out.mono hh1
  have k2 := HB0.out.mono hh2
  have UA2 := Lib.hid (Phis.move (Still.of_below k1) ua)
  have VA2 := Lib.hid (Phis.move (Still.of_below k2) va)
  have UF2 := Lib.hid (Instrs.move (Still.of_below k1) uf)
  have VF2 := Lib.hid (Instrs.move (Still.of_below k2) vf)
  have UO2 := Lib.hid (Texts.move (Still.of_below k1) uo)
  have VO2 := Lib.hid (Texts.move (Still.of_below k2) vo)
  clear o1' o2' hb0 hz0 hW2 k1 k2 ua va uf vf uo vo
  go_enter Tryz.func48, Tryz.ntmps48
  go_wp2_with fail
  rw [HW2.out]
  go_loopw [5] (fun i wr => ∃ k : Nat, k ≤ dest.length ∧ i = .int .i64 k ∧ Hid (Drawn W2 wr)) (fun i _ => dest.length - (intOf i).toNat)
  case atStart => exact ⟨0, Nat.zero_le _, rfl, Lib.hid (Drawn.refl _)⟩
  case round =>
  obtain ⟨k, hk, rfl, HD⟩ := hrel
  have HBr := Lib.hid (HD.out.below (w.heap.size + 1 + 1))
  have f7a := Own.later (w' := wr) O1.out HBr.out (by omega) 7 rfl
  have f7b := Own.later (w' := wr) O2.out HBr.out (by omega) 7 rfl
  by_cases hlt : k < dest.length
  · obtain ⟨z, hx⟩ : ∃ x, dest[k]? = some x := ⟨_, List.getElem?_eq_getElem hlt⟩
    obtain ⟨b1, of1, _, hm1, a1, j1⟩ := UO2.out.get
    obtain ⟨b2, of2, _, hm2, a2, j2⟩ := VO2.out.get
    obtain ⟨rfl, _, hb1⟩ := a1 (by omega)
    obtain ⟨rfl, _, hb2⟩ := a2 (by omega)
    obtain ⟨cs1, _, q1, rfl⟩ := j1 k _ hx
    obtain ⟨cs2, _, q2, rfl⟩ := j2 k _ hx
    have m0 := at1 (cells_later q1 HBr.out (by omega))
    have n0 := at1 (cells_later q2 HBr.out (by omega))
    clear j1 j2 a1 a2 q1 q2 hx
    go_wp2
    go_quiet (fail)
    go_wp2
    go_roundw
    case rel => exact ⟨k + 1, by omega, by go_num, Lib.hid (HD.out.more _)⟩
    case measure => simp [intOf]; omega
  obtain ⟨wp, rfl⟩ : ∃ wp : World, wp = wr := ⟨_, rfl⟩
  go_wp2
  clear f7a f7b
  go_loopw [6, 7] (fun i _ wr => ∃ k : Nat, k ≤ phis.length ∧ i = .int .i64 k ∧ Hid (Drawn wp wr)) (fun i _ _ => phis.length - (intOf i).toNat)
  case atStart => exact ⟨0, Nat.zero_le _, rfl, Lib.hid (Drawn.refl _)⟩
  case round =>
  obtain ⟨k2, hk2, rfl, HD2⟩ := hrel
  have HBx := Lib.hid (HBr.out.trans (HD2.out.below (w.heap.size + 1 + 1)))
  have f1a := Own.later (w' := wr) O1.out HBx.out (by omega) 1 rfl
  have f1b := Own.later (w' := wr) O2.out HBx.out (by omega) 1 rfl
  by_cases hlt2 : k2 < phis.length
  · obtain ⟨⟨pd, ins⟩, hx⟩ : ∃ x, phis[k2]? = some x := ⟨_, List.getElem?_eq_getElem hlt2⟩
    obtain ⟨b1, of1, _, hm1, a1, j1⟩ := UA2.out.get
    obtain ⟨b2, of2, _, hm2, a2, j2⟩ := VA2.out.get
    obtain ⟨rfl, _, hb1⟩ := a1 (by omega)
    obtain ⟨rfl, _, hb2⟩ := a2 (by omega)
    obtain ⟨cs1, _, q1, u, rfl, hu⟩ := j1 k2 _ hx
    obtain ⟨cs2, _, q2, v, rfl, hv⟩ := j2 k2 _ hx
    simp only at hu hv q1 q2
    obtain ⟨Au, cu, rfl⟩ := hu.form
    obtain ⟨Av, cv, rfl⟩ := hv.form
    obtain ⟨m0, m1⟩ := at2 (cells_later q1 HBx.out (by omega))
    obtain ⟨n0, n1⟩ := at2 (cells_later q2 HBx.out (by omega))
    have HU := Lib.hid hu
    have HV := Lib.hid hv
    have Q1 := Lib.hid q1
    have Q2 := Lib.hid q2
    have e4 : (ins.length != ins.length) = false := by simp
    clear j1 j2 a1 a2 q1 q2 hx hu hv
    go_wp2
    go_quiet (fail)
    obtain ⟨wo, hwo⟩ : ∃ wo : World, wo = wr := ⟨_, rfl⟩
    go_wp2
    go_loopw [7] (fun j wq => ∃ q : Nat, q ≤ ins.length ∧ j = .int .i64 q ∧ Hid (Drawn wo wq)) (fun j _ => ins.length - (intOf j).toNat)
    case atStart => exact ⟨0, Nat.zero_le _, rfl, Lib.hid (by rw [hwo]; exact (Drawn.refl _).more _)⟩
    case round =>
    obtain ⟨q, hq, rfl, HD3⟩ := hrel
    have hb3' := HBx.out
    rw [← hwo] at hb3'
    have HBy := Lib.hid (hb3'.trans (HD3.out.below (w.heap.size + 1 + 1)))
    clear f1a f1b m0 m1 n0 n1 hb3'
    have f1a := Own.later (w' := wr) O1.out HBy.out (by omega) 1 rfl
    have f1b := Own.later (w' := wr) O2.out HBy.out (by omega) 1 rfl
    obtain ⟨m0, m1⟩ := at2 (cells_later Q1.out HBy.out (by omega))
    obtain ⟨n0, n1⟩ := at2 (cells_later Q2.out HBy.out (by omega))
    by_cases hqt : q < ins.length
    · obtain ⟨z, hz⟩ : ∃ x, ins[q]? = some x := ⟨_, List.getElem?_eq_getElem hqt⟩
      obtain ⟨b3, of3, _, hm3, a3, j3⟩ := HU.out.get
      obtain ⟨b4, of4, _, hm4, a4, j4⟩ := HV.out.get
      obtain ⟨rfl, _, hb3⟩ := a3 (by omega)
      obtain ⟨rfl, _, hb4⟩ := a4 (by omega)
      obtain ⟨cs3, _, q3, rfl⟩ := j3 q _ hz
      obtain ⟨cs4, _, q4, rfl⟩ := j4 q _ hz
      obtain ⟨r0, r1, r2, r3⟩ := at4 (cells_later q3 HBy.out (by omega))
      obtain ⟨t0, t1, t2, t3⟩ := at4 (cells_later q4 HBy.out (by omega))
      clear j3 j4 a3 a4 q3 q4 hz hwo
      go_wp2
      go_quiet (fail)
      go_wp2
      go_roundw
      case rel => exact ⟨q + 1, by omega, by go_num, Lib.hid (HD3.out.more _)⟩
      case measure => simp [intOf]; omega
    · have HWO := Lib.hid hwo
      clear hwo
      go_wp2
      go_roundw
      case rel => exact ⟨k2 + 1, by omega, by go_num, Lib.hid (HD2.out.trans (by have := HD3.out; rw [HWO.out] at this; exact this))⟩
      case measure => simp [intOf]; omega
  go_wp2
  clear f1a f1b
  go_loopw [8] (fun i wr => ∃ k : Nat, k ≤ code.length ∧ i = .int .i64 k ∧ Hid (Below (w.heap.size + 1 + 1) W2 wr)) (fun i _ => code.length - (intOf i).toNat)
  case atStart => exact ⟨0, Nat.zero_le _, rfl, HBx⟩
  case round =>
  obtain ⟨k3, hk3, rfl, HBy⟩ := hrel
  have f2a := Own.later (w' := wr) O1.out HBy.out (by omega) 2 rfl
  have f2b := Own.later (w' := wr) O2.out HBy.out (by omega) 2 rfl
  by_cases hlt3 : k3 < code.length
  · obtain ⟨z, hx⟩ : ∃ x, code[k3]? = some x := ⟨_, List.getElem?_eq_getElem hlt3⟩
    obtain ⟨b1, of1, _, hm1, a1, j1⟩ := UF2.out.get
    obtain ⟨b2, of2, _, hm2, a2, j2⟩ := VF2.out.get
    obtain ⟨rfl, _, hb1⟩ := a1 (by omega)
    obtain ⟨rfl, _, hb2⟩ := a2 (by omega)
    obtain ⟨cs1, _, q1, hu⟩ := j1 k3 _ hx
    obtain ⟨cs2, _, q2, hv⟩ := j2 k3 _ hx
    have hu2 := InstrC.move (Still.of_below (HBy.out.mono (by omega : hi1 ≤ w.heap.size + 1 + 1))) hu
    have hv2 := InstrC.move (Still.of_below (HBy.out.mono (by omega : hi2 ≤ w.heap.size + 1 + 1))) hv
    have hzz : w.heap.size + 1 + 1 ≤ wr.heap.size := by have := HBy.out.size; rw [HZ0.out] at this; exact this
    have QI := Lib.hid (instr_any lo1 hi1 lo2 hi2 wr.drew cs1 cs2 z (InstrC.move (Still.of_below (Below.refl _ _).drew) hu2) (InstrC.move (Still.of_below (Below.refl _ _).drew) hv2) (by show hi1 ≤ wr.heap.size; omega) (by show hi2 ≤ wr.heap.size; omega))
    obtain ⟨x1, x2, x3, e1, _⟩ := hu
    obtain ⟨y1, y2, y3, e2, _⟩ := hv
    subst e1 e2
    obtain ⟨m0, m1, m2, m3, m4, m5⟩ := at6 (cells_later q1 HBy.out (by omega))
    obtain ⟨n0, n1, n2, n3, n4, n5⟩ := at6 (cells_later q2 HBy.out (by omega))
    have HZZ := Lib.hid hzz
    clear j1 j2 a1 a2 q1 q2 hx hu2 hv2 hzz
    go_wp2
    go_still_tail 10, (by kernel_rfl)
    change wpList _ _ _ _ _ wr.drew
    go_wp2_with (go_at_call 101; (with_reducible refine (QI.out).mono ?_); rintro e w4 ⟨rfl, hb4⟩; have HB4 := Lib.hid (HBy.out.drew.trans (hb4.mono HZZ.out)); clear hb4)
    go_roundw
    case rel => exact ⟨k3 + 1, by omega, by go_num, HB4⟩
    case measure => simp [intOf]; omega
  · go_wp2
    go_ret
    exact ⟨rfl, HB0.out.trans (HBy.out.mono (by omega))⟩
end Go.Proofs.YtkmndgjabkjafaaGreatDoor.R06

namespace Go.Proofs.YtkmndgjabkjafaaGreatDoor.R06
open Go.RowKit Api Mem

set_option maxHeartbeats 16000000 in
set_option maxRecDepth 100000 in
theorem func_any (lo1 hi1 lo2 hi2 : Nat) (w : World) (cs1 cs2 : List Value) (x : Api.Func) (h1 : FuncC lo1 hi1 w cs1 x) (h2 : FuncC lo2 hi2 w cs2 x) (hh1 : hi1 ≤ w.heap.size) (hh2 : hi2 ≤ w.heap.size) :
    Calls Tryz.prog 22 #[.agg cs1.toArray, .agg cs2.toArray] w fun e w' => e = .returned (.bool true) ∧ Below w.heap.size w w' := by
  obtain ⟨u1, u2, u3, rfl, ua, uf, uo⟩ := h1
  obtain ⟨v1, v2, v3, rfl, va, vf, vo⟩ := h2
  obtain ⟨name, result, params, vars, blocks⟩ := x
  simp only at ua uf uo va vf vo ⊢
  obtain ⟨A1, c1, rfl⟩ := ua.form
  obtain ⟨A2, c2, rfl⟩ := uf.form
  obtain ⟨A3, c3, rfl⟩ := uo.form
  obtain ⟨B1, d1, rfl⟩ := va.form
  obtain ⟨B2, d2, rfl⟩ := vf.form
  obtain ⟨B3, d3, rfl⟩ := vo.form
  have e3 : (blocks.length != blocks.length) = false := by simp
  obtain ⟨W2, hW2⟩ : ∃ W2, (w.alloc (.cells #[str name, str result, .slice A1 params.length c1, .slice A2 vars.length c2, .slice A3 blocks.length c3] 38)).alloc (.cells #[str name, str result, .slice B1 params.length d1, .slice B2 vars.length d2, .slice B3 blocks.length d3] 38) = W2 := ⟨_, rfl⟩
  obtain ⟨o1', o2', hb0, hz0⟩ := boxed2 (c1 := [str name, str result, .slice A1 params.length c1, .slice A2 vars.length c2, .slice A3 blocks.length c3]) (c2 := [str name, str result, .slice B1 params.length d1, .slice B2 vars.length d2, .slice B3 blocks.length d3]) hW2
  have O1 := Lib.hid o1'
  have O2 := Lib.hid o2'
  have HB0 := Lib.hid hb0
  have HZ0 := Lib.hid hz0
  have HW2 := Lib.hid hW2
  have k1 := HB0.out.mono hh1
  have k2 := HB0.out.mono hh2
  have q1 := fun w' (hd : Drawn W2 w') => vars_any lo1 hi1 lo2 hi2 w' _ _ params (Vars.move (Still.of_below (k1.trans (hd.below hi1))) ua) (Vars.move (Still.of_below (k2.trans (hd.below hi2))) va) (by rw [hd.size]; omega) (by rw [hd.size]; omega)
  have q2 := fun w' (hd : Drawn W2 w') => vars_any lo1 hi1 lo2 hi2 w' _ _ vars (Vars.move (Still.of_below (k1.trans (hd.below hi1))) uf) (Vars.move (Still.of_below (k2.trans (hd.below hi2))) vf) (by rw [hd.size]; omega) (by rw [hd.size]; omega)
  have Q1 := Lib.hid q1
  have Q2 := Lib.hid q2
  have UO2 := Lib.hid (Blocks.move (Still.of_below k1) uo)
  have VO2 := Lib.hid (Blocks.move (Still.of_below k2) vo)
  clear o1' o2' hb0 hz0 hW2 k1 k2 ua va uf vf uo vo q1 q2
  go_enter Tryz.func22, Tryz.ntmps22
  go_wp2_with fail
  rw [HW2.out]
  refine (Q1.out _ (Drawn.refl _)).mono ?_; rintro e w1 ⟨rfl, hd1⟩
  have HD1 := Lib.hid hd1
  have g3 := Own.later O1.out (hd1.below (w.heap.size + 1 + 1)) (by omega) 3 rfl
  have g4 := Own.later O2.out (hd1.below (w.heap.size + 1 + 1)) (by omega) 3 rfl
  clear hd1
  go_wp2_with fail
  refine (Q2.out _ HD1.out).mono ?_; rintro e w2 ⟨rfl, hd2⟩
  have HB2 := Lib.hid ((HD1.out.trans hd2).below (w.heap.size + 1 + 1))
  have g5 := Own.later O1.out HB2.out (by omega) 4 rfl
  have g6 := Own.later O2.out HB2.out (by omega) 4 rfl
  clear hd2 g3 g4
  go_wp2_with fail
  go_loopw [5] (fun i wr => ∃ k : Nat, k ≤ blocks.length ∧ i = .int .i64 k ∧ Hid (Below (w.heap.size + 1 + 1) W2 wr)) (fun i _ => blocks.length - (intOf i).toNat)
  case atStart => exact ⟨0, Nat.zero_le _, rfl, HB2⟩
  case round =>
  obtain ⟨k3, hk3, rfl, HBy⟩ := hrel
  have f2a := Own.later (w' := wr) O1.out HBy.out (by omega) 4 rfl
  have f2b := Own.later (w' := wr) O2.out HBy.out (by omega) 4 rfl
  by_cases hlt3 : k3 < blocks.length
  · obtain ⟨z, hx⟩ : ∃ x, blocks[k3]? = some x := ⟨_, List.getElem?_eq_getElem hlt3⟩
    obtain ⟨b1, of1, _, hm1, a1, j1⟩ := UO2.out.get
    obtain ⟨b2, of2, _, hm2, a2, j2⟩ := VO2.out.get
    obtain ⟨rfl, _, hb1⟩ := a1 (by omega)
    obtain ⟨rfl, _, hb2⟩ := a2 (by omega)
    obtain ⟨cs1, _, q1, hu⟩ := j1 k3 _ hx
    obtain ⟨cs2, _, q2, hv⟩ := j2 k3 _ hx
    have hu2 := BlockC.move (Still.of_below (HBy.out.mono (by omega : hi1 ≤ w.heap.size + 1 + 1))) hu
    have hv2 := BlockC.move (Still.of_below (HBy.out.mono (by omega : hi2 ≤ w.heap.size + 1 + 1))) hv
    have hzz : w.heap.size + 1 + 1 ≤ wr.heap.size := by have := HBy.out.size; rw [HZ0.out] at this; exact this
    have QI := Lib.hid (block_any lo1 hi1 lo2 hi2 wr.drew cs1 cs2 z (BlockC.move (Still.of_below (Below.refl _ _).drew) hu2) (BlockC.move (Still.of_below (Below.refl _ _).drew) hv2) (by show hi1 ≤ wr.heap.size; omega) (by show hi2 ≤ wr.heap.size; omega))
    obtain ⟨x1, x2, ct1, e1, _, _, x3, e1', _⟩ := hu
    obtain ⟨y1, y2, ct2, e2, _, _, y3, e2', _⟩ := hv
    subst e1' e2'
    subst e1 e2
    obtain ⟨m0, m1, m2, m3, m4, m5, m6, m7, m8⟩ := at9 (cells_later q1 HBy.out (by omega))
    obtain ⟨n0, n1, n2, n3, n4, n5, n6, n7, n8⟩ := at9 (cells_later q2 HBy.out (by omega))
    have HZZ := Lib.hid hzz
    clear j1 j2 a1 a2 q1 q2 hx hu2 hv2 hzz
    go_wp2
    go_still_tail 10, (by kernel_rfl)
    change wpList _ _ _ _ _ wr.drew
    go_wp2_with (go_at_call 48; (with_reducible refine (QI.out).mono ?_); rintro e w4 ⟨rfl, hb4⟩; have HB4 := Lib.hid (HBy.out.drew.trans (hb4.mono HZZ.out)); clear hb4)
    go_roundw
    case rel => exact ⟨k3 + 1, by omega, by go_num, HB4⟩
    case measure => simp [intOf]; omega
  · go_wp2
    go_ret
    exact ⟨rfl, HB0.out.trans (HBy.out.mono (by omega))⟩

set_option maxHeartbeats 16000000 in
set_option maxRecDepth 100000 in
theorem same_any (lo1 hi1 lo2 hi2 : Nat) (w : World) (cs1 cs2 : List Value) (x : Prog) (h1 : ProgC lo1 hi1 w cs1 x) (h2 : ProgC lo2 hi2 w cs2 x) (hh1 : hi1 ≤ w.heap.size) (hh2 : hi2 ≤ w.heap.size) :
    Calls Tryz.prog 10 #[.agg cs1.toArray, .agg cs2.toArray] w fun e w' => e = .returned (.bool true) ∧ Below w.heap.size w w' := by
  obtain ⟨u1, u2, u3, u4, rfl, ua, uf, uo, up⟩ := h1
  obtain ⟨v1, v2, v3, v4, rfl, va, vf, vo, vp⟩ := h2
  obtain ⟨ssa, classes, globals, externs, funcs⟩ := x
  simp only at ua uf uo up va vf vo vp ⊢
  obtain ⟨A1, c1, rfl⟩ := ua.form
  obtain ⟨A2, c2, rfl⟩ := uf.form
  obtain ⟨A3, c3, rfl⟩ := uo.form
  obtain ⟨A4, c4, rfl⟩ := up.form
  obtain ⟨B1, d1, rfl⟩ := va.form
  obtain ⟨B2, d2, rfl⟩ := vf.form
  obtain ⟨B3, d3, rfl⟩ := vo.form
  obtain ⟨B4, d4, rfl⟩ := vp.form
  have e0 : (ssa != ssa) = false := by simp
  have e1 : (classes.length != classes.length) = false := by simp
  have e2 : (externs.length != externs.length) = false := by simp
  have e3 : (funcs.length != funcs.length) = false := by simp
  obtain ⟨W2, hW2⟩ : ∃ W2, (w.alloc (.cells #[.bool ssa, .slice A1 classes.length c1, .slice A2 globals.length c2, .slice A3 externs.length c3, .slice A4 funcs.length c4] 27)).alloc (.cells #[.bool ssa, .slice B1 classes.length d1, .slice B2 globals.length d2, .slice B3 externs.length d3, .slice B4 funcs.length d4] 27) = W2 := ⟨_, rfl⟩
  obtain ⟨o1', o2', hb0, hz0⟩ := boxed2 (c1 := [.bool ssa, .slice A1 classes.length c1, .slice A2 globals.length c2, .slice A3 externs.length c3, .slice A4 funcs.length c4]) (c2 := [.bool ssa, .slice B1 classes.length d1, .slice B2 globals.length d2, .slice B3 externs.length d3, .slice B4 funcs.length d4]) hW2
  have O1 := Lib.hid o1'
  have O2 := Lib.hid o2'
  have HB0 := Lib.hid hb0
  have HZ0 := Lib.hid hz0
  have HW2 := Lib.hid hW2
  have k1 := HB0.out.mono hh1
  have k2 := HB0.out.mono hh2
  have q1 := fun w' (hd : Drawn W2 w') => vars_any lo1 hi1 lo2 hi2 w' _ _ globals (Vars.move (Still.of_below (k1.trans (hd.below hi1))) uf) (Vars.move (Still.of_below (k2.trans (hd.below hi2))) vf) (by rw [hd.size]; omega) (by rw [hd.size]; omega)
  have Q1 := Lib.hid q1
  have UA2 := Lib.hid (Classes.move (Still.of_below k1) ua)
  have VA2 := Lib.hid (Classes.move (Still.of_below k2) va)
  have UO2 := Lib.hid (Externs.move (Still.of_below k1) uo)
  have VO2 := Lib.hid (Externs.move (Still.of_below k2) vo)
  have UP2 := Lib.hid (Funcs.move (Still.of_below k1) up)
  have VP2 := Lib.hid (Funcs.move (Still.of_below k2) vp)
  clear o1' o2' hb0 hz0 hW2 k1 k2 ua va uf vf uo vo up vp q1
  go_enter Tryz.func10, Tryz.ntmps10
  go_wp2_with fail
  rw [HW2.out]
  refine (Q1.out _ (Drawn.refl _)).mono ?_; rintro e w1 ⟨rfl, hd1⟩
  have HB1 := Lib.hid (hd1.below (w.heap.size + 1 + 1))
  have g3 := Own.later O1.out HB1.out (by omega) 3 rfl
  have g4 := Own.later O2.out HB1.out (by omega) 3 rfl
  have g5 := Own.later O1.out HB1.out (by omega) 4 rfl
  have g6 := Own.later O2.out HB1.out (by omega) 4 rfl
  clear hd1
  go_wp2_with fail
  go_loopw [5] (fun i wr => ∃ k : Nat, k ≤ classes.length ∧ i = .int .i64 k ∧ Hid (Below (w.heap.size + 1 + 1) W2 wr)) (fun i _ => classes.length - (intOf i).toNat)
  case atStart => exact ⟨0, Nat.zero_le _, rfl, HB1⟩
  case round =>
  obtain ⟨k, hk, rfl, HBr⟩ := hrel
  have f1a := Own.later (w' := wr) O1.out HBr.out (by omega) 1 rfl
  have f1b := Own.later (w' := wr) O2.out HBr.out (by omega) 1 rfl
  by_cases hlt : k < classes.length
  · obtain ⟨z, hx⟩ : ∃ x, classes[k]? = some x := ⟨_, List.getElem?_eq_getElem hlt⟩
    obtain ⟨b1, of1, _, hm1, a1, j1⟩ := UA2.out.get
    obtain ⟨b2, of2, _, hm2, a2, j2⟩ := VA2.out.get
    obtain ⟨rfl, _, hb1⟩ := a1 (by omega)
    obtain ⟨rfl, _, hb2⟩ := a2 (by omega)
    obtain ⟨cs1, _, q1, u, rfl, hu⟩ := j1 k _ hx
    obtain ⟨cs2, _, q2, v, rfl, hv⟩ := j2 k _ hx
    obtain ⟨m0, m1⟩ := at2 (cells_later q1 HBr.out (by omega))
    obtain ⟨n0, n1⟩ := at2 (cells_later q2 HBr.out (by omega))
    have hu2 := Vars.move (Still.of_below (HBr.out.mono (by omega : hi1 ≤ w.heap.size + 1 + 1))) hu
    have hv2 := Vars.move (Still.of_below (HBr.out.mono (by omega : hi2 ≤ w.heap.size + 1 + 1))) hv
    have hzz : w.heap.size + 1 + 1 ≤ wr.heap.size := by have := HBr.out.size; rw [HZ0.out] at this; exact this
    have QA := Lib.hid fun n => vars_any lo1 hi1 lo2 hi2 (wr.drewN n) u v z.fields (Vars.move (Still.of_below (below_drewN (Below.refl _ _) n)) hu2) (Vars.move (Still.of_below (below_drewN (Below.refl _ _) n)) hv2) (by show hi1 ≤ wr.heap.size; omega) (by show hi2 ≤ wr.heap.size; omega)
    clear j1 j2 a1 a2 q1 q2 hx hu hv hu2 hv2 hzz
    go_wp2
    go_quiet ((go_at_call 21; exact Calls.quiet_of (QA.out _)))
    go_wp2
    go_roundw
    case rel => exact ⟨k + 1, by omega, by go_num, Lib.hid (below_drewN HBr.out _)⟩
    case measure => simp [intOf]; omega
  have g3 := Own.later (w' := wr) O1.out HBr.out (by omega) 3 rfl
  have g4 := Own.later (w' := wr) O2.out HBr.out (by omega) 3 rfl
  go_wp2
  clear f1a f1b hlt hk
  go_loopw [6] (fun i wr => ∃ k : Nat, k ≤ externs.length ∧ i = .int .i64 k ∧ Hid (Below (w.heap.size + 1 + 1) W2 wr)) (fun i _ => externs.length - (intOf i).toNat)
  case atStart => exact ⟨0, Nat.zero_le _, rfl, HBr⟩
  case round =>
  clear HBr
  obtain ⟨k2, hk, rfl, HBr⟩ := hrel
  have f3a := Own.later (w' := wr) O1.out HBr.out (by omega) 3 rfl
  have f3b := Own.later (w' := wr) O2.out HBr.out (by omega) 3 rfl
  by_cases hlt : k2 < externs.length
  · obtain ⟨z, hx⟩ : ∃ x, externs[k2]? = some x := ⟨_, List.getElem?_eq_getElem hlt⟩
    obtain ⟨b1, of1, _, hm1, a1, j1⟩ := UO2.out.get
    obtain ⟨b2, of2, _, hm2, a2, j2⟩ := VO2.out.get
    obtain ⟨rfl, _, hb1⟩ := a1 (by omega)
    obtain ⟨rfl, _, hb2⟩ := a2 (by omega)
    obtain ⟨cs1, _, q1, rfl⟩ := j1 k2 _ hx
    obtain ⟨cs2, _, q2, rfl⟩ := j2 k2 _ hx
    obtain ⟨m0, m1⟩ := at2 (cells_later q1 HBr.out (by omega))
    obtain ⟨n0, n1⟩ := at2 (cells_later q2 HBr.out (by omega))
    clear j1 j2 a1 a2 q1 q2 hx
    go_wp2
    go_quiet (fail)
    go_wp2
    go_roundw
    case rel => exact ⟨k2 + 1, by omega, by go_num, Lib.hid (below_drewN HBr.out _)⟩
    case measure => simp [intOf]; omega
  go_wp2
  clear f3a f3b hlt hk
  go_loopw [7] (fun i wr => ∃ k : Nat, k ≤ funcs.length ∧ i = .int .i64 k ∧ Hid (Below (w.heap.size + 1 + 1) W2 wr)) (fun i _ => funcs.length - (intOf i).toNat)
  case atStart => exact ⟨0, Nat.zero_le _, rfl, HBr⟩
  case round =>
  clear HBr
  obtain ⟨k3, hk, rfl, HBr⟩ := hrel
  have f4a := Own.later (w' := wr) O1.out HBr.out (by omega) 4 rfl
  have f4b := Own.later (w' := wr) O2.out HBr.out (by omega) 4 rfl
  by_cases hlt : k3 < funcs.length
  · obtain ⟨z, hx⟩ : ∃ x, funcs[k3]? = some x := ⟨_, List.getElem?_eq_getElem hlt⟩
    obtain ⟨b1, of1, _, hm1, a1, j1⟩ := UP2.out.get
    obtain ⟨b2, of2, _, hm2, a2, j2⟩ := VP2.out.get
    obtain ⟨rfl, _, hb1⟩ := a1 (by omega)
    obtain ⟨rfl, _, hb2⟩ := a2 (by omega)
    obtain ⟨cs1, _, q1, hu⟩ := j1 k3 _ hx
    obtain ⟨cs2, _, q2, hv⟩ := j2 k3 _ hx
    have hu2 := FuncC.move (Still.of_below (HBr.out.mono (by omega : hi1 ≤ w.heap.size + 1 + 1))) hu
    have hv2 := FuncC.move (Still.of_below (HBr.out.mono (by omega : hi2 ≤ w.heap.size + 1 + 1))) hv
    have hzz : w.heap.size + 1 + 1 ≤ wr.heap.size := by have := HBr.out.size; rw [HZ0.out] at this; exact this
    have QI := Lib.hid (func_any lo1 hi1 lo2 hi2 wr.drew cs1 cs2 z (FuncC.move (Still.of_below (Below.refl _ _).drew) hu2) (FuncC.move (Still.of_below (Below.refl _ _).drew) hv2) (by show hi1 ≤ wr.heap.size; omega) (by show hi2 ≤ wr.heap.size; omega))
    obtain ⟨x1, x2, x3, e1, _⟩ := hu
    obtain ⟨y1, y2, y3, e2, _⟩ := hv
    subst e1 e2
    obtain ⟨m0, m1, m2, m3, m4⟩ := at5 (cells_later q1 HBr.out (by omega))
    obtain ⟨n0, n1, n2, n3, n4⟩ := at5 (cells_later q2 HBr.out (by omega))
    have HZZ := Lib.hid hzz
    clear j1 j2 a1 a2 q1 q2 hx hu2 hv2 hzz
    go_wp2
    go_still_tail 10, (by kernel_rfl)
    change wpList _ _ _ _ _ wr.drew
    go_wp2_with (go_at_call 22; (with_reducible refine (QI.out).mono ?_); rintro e w4 ⟨rfl, hb4⟩; have HB4 := Lib.hid (HBr.out.drew.trans (hb4.mono HZZ.out)); clear hb4)
    go_roundw
    case rel => exact ⟨k3 + 1, by omega, by go_num, HB4⟩
    case measure => simp [intOf]; omega
  · go_wp2
    go_ret
    exact ⟨rfl, HB0.out.trans (HBr.out.mono (by omega))⟩
end Go.Proofs.YtkmndgjabkjafaaGreatDoor.R06
