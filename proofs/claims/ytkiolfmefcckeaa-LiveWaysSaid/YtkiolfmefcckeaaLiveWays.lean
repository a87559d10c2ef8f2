/-
  The law LiveWays: what is live ahead of an instruction is what it uses, and what is live behind it but for what it sets; and so for ends.
-/
import Derived.Test.YtkiolfmefcckeaaRows
import Derived.Test.YtkiolfmefcckeaaLaw12
import Derived.Test.YtkiolfmefcckeaaOpenP
import Derived.Test.YtkiolfmefcckeaaLvPl
import Derived.Deep.RegionLaw
import Derived.Deep.QuietTactic
import Derived.BigQuiet
import Derived.Deep.RegionHeld3
import Derived.Test.YtkiolfmefcckeaaShell
import Derived.ProofKit
import Derived.OpenShut
import Derived.SizedLaws
namespace Go.Proofs.Ytkiolfmefcckeaa.liveWays
open Go.ChangeShapes Go.WideShapes Go.ChangeAt Go.RowKit
open Api Mem Sh8 Lv12
theorem drewN_below (w : World) (n : Nat) : Below w.heap.size w (w.drewN n) := ⟨rfl, rfl, rfl, Nat.le_refl _, fun _ _ => rfl⟩
theorem seven_next {w1 w' Wb : World} {a0 a1 a2 a3 a4 a5 a6 : Addr} {v0 v1 v2 v3 v4 v5 v6 : Value} (hb : Below w1.heap.size w1 w') (h : (w1.cell? a0 = some v0 ∧ w1.cell? a1 = some v1 ∧ w1.cell? a2 = some v2 ∧ w1.cell? a3 = some v3 ∧ w1.cell? a4 = some v4 ∧ w1.cell? a5 = some v5 ∧ w1.cell? a6 = some v6) ∧ Hid (Below Wb.heap.size Wb w1)) :
    (w'.cell? a0 = some v0 ∧ w'.cell? a1 = some v1 ∧ w'.cell? a2 = some v2 ∧ w'.cell? a3 = some v3 ∧ w'.cell? a4 = some v4 ∧ w'.cell? a5 = some v5 ∧ w'.cell? a6 = some v6) ∧ Hid (Below Wb.heap.size Wb w') :=
  have k : ∀ {a v}, w1.cell? a = some v → w'.cell? a = some v := fun h => (hb.cell (World.block_lt_of_cell? w1 _ h)).trans h
  ⟨⟨k h.1.1, k h.1.2.1, k h.1.2.2.1, k h.1.2.2.2.1, k h.1.2.2.2.2.1, k h.1.2.2.2.2.2.1, k h.1.2.2.2.2.2.2⟩, Lib.hid (h.2.out.trans (hb.mono h.2.out.size))⟩
theorem six_next {w1 w' Wb : World} {a0 a1 a2 a3 a4 a5 : Addr} {v0 v1 v2 v3 v4 v5 : Value} (hb : Below w1.heap.size w1 w') (h : (w1.cell? a0 = some v0 ∧ w1.cell? a1 = some v1 ∧ w1.cell? a2 = some v2 ∧ w1.cell? a3 = some v3 ∧ w1.cell? a4 = some v4 ∧ w1.cell? a5 = some v5) ∧ Hid (Below Wb.heap.size Wb w1)) :
    (w'.cell? a0 = some v0 ∧ w'.cell? a1 = some v1 ∧ w'.cell? a2 = some v2 ∧ w'.cell? a3 = some v3 ∧ w'.cell? a4 = some v4 ∧ w'.cell? a5 = some v5) ∧ Hid (Below Wb.heap.size Wb w') :=
  have k : ∀ {a v}, w1.cell? a = some v → w'.cell? a = some v := fun h => (hb.cell (World.block_lt_of_cell? w1 _ h)).trans h
  ⟨⟨k h.1.1, k h.1.2.1, k h.1.2.2.1, k h.1.2.2.2.1, k h.1.2.2.2.2.1, k h.1.2.2.2.2.2⟩, Lib.hid (h.2.out.trans (hb.mono h.2.out.size))⟩
set_option maxRecDepth 100000 in
set_option maxHeartbeats 16000000 in
theorem walk (v : Value) (q : Api.Func × List Value) {w : World} (hq : v = .agg q.2.toArray ∧ FuncC 0 w.heap.size w q.2 q.1 ∧ OpenP.funcG q.1) :
    Calls Try.prog 4 #[v] w fun e w' => e = .returned (.bool true) ∧ Below w.heap.size w w' := by
  obtain ⟨rfl, hfc, hG⟩ := hq
  obtain ⟨f, cs⟩ := q
  simp only at hfc hG
  have hfc0 := hfc
  obtain ⟨u1, u2, u3, rfl, kp, kv, kb⟩ := hfc
  obtain ⟨nm, rs, ps, vs, bl⟩ := f
  simp only at kp kv kb
  obtain ⟨A1, k1, rfl⟩ := kp.form
  obtain ⟨A2, k2, rfl⟩ := kv.form
  obtain ⟨A3, k3, rfl⟩ := kb.form
  obtain ⟨W, hW⟩ : ∃ W, w.alloc (.cells #[str nm, str rs, .slice A1 ps.length k1, .slice A2 vs.length k2, .slice A3 bl.length k3] 40) = W := ⟨_, rfl⟩
  obtain ⟨o1, b1, z1⟩ := box8 (c := [str nm, str rs, .slice A1 ps.length k1, .slice A2 vs.length k2, .slice A3 bl.length k3]) hW
  have HF0 := Lib.hid hfc0
  have HG := Lib.hid hG
  have KB := Lib.hid kb
  have KP := Lib.hid kp
  have HO := Lib.hid o1
  have HB := Lib.hid b1
  have HW := Lib.hid hW
  have zlt := o1.lt
  have hpl : ps.length ≤ 4611686018427387903 := by obtain ⟨_, _, _, h, _⟩ := Row.get kp; exact h
  clear o1 b1 hW kp kv kb hfc0 hG
  go_enter Try.func4, Try.ntmps4
  go_wp2_with fail
  rw [HW.out]
  refine (L12.awake12_any W).mono ?_
  rintro e w1 ⟨rfl, hb1⟩
  have HB1 := Lib.hid (HB.out.trans (hb1.mono HB.out.size))
  have HO1 := Lib.hid (HO.out.below hb1 HO.out.lt)
  have QF := Lib.hid (few12_any 0 w.heap.size w1 _ _ (FuncC.move (Still.of_below HB1.out) HF0.out) HB1.out.size (func_s12 HG.out))
  clear hb1
  have f0 := HO1.out.cell 0
  have f1 := HO1.out.cell 1
  have f2 := HO1.out.cell 2
  have f3 := HO1.out.cell 3
  have f4 := HO1.out.cell 4
  simp only [List.getElem?_cons_succ, List.getElem?_cons_zero] at f0 f1 f2 f3 f4
  go_wp2_with fail
  refine QF.out.mono ?_
  rintro e w2 ⟨b2, rfl, hfew, hb2⟩
  have HB2 := Lib.hid (HB1.out.trans (hb2.mono HB1.out.size))
  have HO2 := Lib.hid (HO1.out.below hb2 HO1.out.lt)
  clear hb2 f0 f1 f2 f3 f4
  cases b2 with
  | false =>
    clear hfew
    go_wp2_with fail
    refine (L12.awake12_any w2).mono ?_
    rintro e w3 ⟨rfl, hb3⟩
    have HB3 := Lib.hid (HB2.out.trans (hb3.mono HB2.out.size))
    clear hb3
    go_wp2_with fail
    go_ret
    exact ⟨rfl, HB3.out⟩
  | true =>
    have HFW := Lib.hid (hfew rfl)
    have hlb : bl.length ≤ 30 := HFW.out.2.2.1
    have HU := Lib.hid (uok_of HG.out HFW.out)
    have HOK := Lib.hid (fok_of HG.out HFW.out)
    clear hfew
    have f0 := HO2.out.cell 0
    have f1 := HO2.out.cell 1
    have f2 := HO2.out.cell 2
    have f3 := HO2.out.cell 3
    have f4 := HO2.out.cell 4
    simp only [List.getElem?_cons_succ, List.getElem?_cons_zero] at f0 f1 f2 f3 f4
    go_wp2_with fail
    refine (ins_any HU.out 0 w.heap.size w2 _ _ (FuncC.move (Still.of_below HB2.out) HF0.out) (HB2.out).size HOK.out).mono ?_
    rintro e w3 ⟨Bv, rfl, hr3, hb3⟩
    simp only at hr3
    have HR3 := Lib.hid hr3
    have HB3 := Lib.hid (HB2.out.trans (hb3.mono HB2.out.size))
    have HO3 := Lib.hid (HO2.out.below hb3 HO2.out.lt)
    have hz3 : w2.heap.size ≤ w3.heap.size := hb3.size
    clear hb3 hr3 f0 f1 f2 f3 f4
    go_wp2_with fail
    have HBr3 := Lib.hid (Below.refl w3.heap.size w3)
    have hz1 : w.heap.size < w3.heap.size := HO3.out.lt
    go_loopw [4] (fun iv wr => ∃ i : Nat, i ≤ bl.length ∧ iv = .int .i64 i ∧ Hid (Below w3.heap.size w3 wr)) (fun iv _ => bl.length - (intOf iv).toNat)
    case atStart => exact ⟨0, Nat.zero_le _, rfl, HBr3⟩
    case round =>
    clear HBr3
    obtain ⟨i, hi, rfl, HBr⟩ := hrel
    have HBa := Lib.hid (HB3.out.trans (HBr.out.mono (by omega)))
    have HOa := Lib.hid (HO3.out.below HBr.out hz1)
    have f0 := HOa.out.cell 0
    have f1 := HOa.out.cell 1
    have f2 := HOa.out.cell 2
    have f3 := HOa.out.cell 3
    have f4 := HOa.out.cell 4
    simp only [List.getElem?_cons_succ, List.getElem?_cons_zero] at f0 f1 f2 f3 f4
    by_cases hlt : i < bl.length
    · obtain ⟨b, hx⟩ : ∃ y, bl[i]? = some y := ⟨_, List.getElem?_eq_getElem hlt⟩
      obtain ⟨b3, o3, rfl, hb3, cs3, hcl3, hcs3, x1, x2, cs4, e4, kph, kco, x4, e5, kto⟩ := row_at KB.out hx
      subst e5
      subst e4
      obtain ⟨A5, k5, rfl⟩ := Row.form kph
      obtain ⟨A6, k6, rfl⟩ := Row.form kco
      obtain ⟨A7, k7, rfl⟩ := Row.form kto
      obtain ⟨m0, m1, m2, m3, m4, m5, m6, m7, m8⟩ := at9 (cells_later hcs3 HBa.out hb3)
      have HX := Lib.hid hx
      have KCO := Lib.hid kco
      have KTO := Lib.hid kto
      have hcl : b.code.length ≤ 4611686018427387903 := by obtain ⟨_, _, _, h, _⟩ := Row.get kco; exact h
      have htl : b.fin.dest.length ≤ 4611686018427387903 := by obtain ⟨_, _, _, h, _⟩ := Row.get kto; exact h
      obtain ⟨vI, rI, hcI, hrI, hmI, hoI⟩ := (HR3.out.below HBr.out).at hlt
      obtain ⟨AI, kI, rfl⟩ := row_form hoI
      have HRI := Lib.hid (show rI = rI ∧ Rise rI ∧ ∀ x, x ∈ rI ↔ LvB bl i x from ⟨rfl, hrI, hmI⟩)
      have HOI := Lib.hid hoI
      obtain ⟨bb, hbb⟩ : ∃ bb, wr.heap.size = bb := ⟨_, rfl⟩
      obtain ⟨Wb, hWb⟩ : ∃ Wb, wr.alloc (.cells #[str b.name, .slice A5 b.phis.length k5, .slice A6 b.code.length k6, i64 b.fin.kind, i64 b.fin.a.kind, str b.fin.a.s, i64 b.fin.a.n, .slice A7 b.fin.dest.length k7, i64 b.fin.n] 51) = Wb := ⟨_, rfl⟩
      have HBB := Lib.hid (show Below wr.heap.size wr Wb by rw [← hWb]; exact (Below.refl _ _).alloc (Nat.le_refl _) _)
      have HOB := Lib.hid (show Mem.Own Wb bb 51 [str b.name, .slice A5 b.phis.length k5, .slice A6 b.code.length k6, i64 b.fin.kind, i64 b.fin.a.kind, str b.fin.a.s, i64 b.fin.a.n, .slice A7 b.fin.dest.length k7, i64 b.fin.n] by rw [← hWb, ← hbb]; exact Mem.Own.made wr _ _)
      have HOW := Lib.hid (HOa.out.below HBB.out HOa.out.lt)
      have HBW := Lib.hid (show Below w.heap.size w Wb from HBa.out.trans (HBB.out.mono HBa.out.size))
      have HB3W := Lib.hid (show Below w3.heap.size w3 Wb from HBr.out.trans (HBB.out.mono HBr.out.size))
      have HRW := Lib.hid (HR3.out.below HB3W.out)
      have hzw : w.heap.size < Wb.heap.size := HOW.out.lt
      have hbl : bb < Wb.heap.size := HOB.out.lt
      have HOI2 := Lib.hid (own_below HOI.out HBB.out)
      have hcI2 := (HBB.out.cell (World.block_lt_of_cell? wr _ hcI)).trans hcI
      have HE := Lib.hid (show wr.heap.size = bb ∧ wr.alloc (.cells #[str b.name, .slice A5 b.phis.length k5, .slice A6 b.code.length k6, i64 b.fin.kind, i64 b.fin.a.kind, str b.fin.a.s, i64 b.fin.a.n, .slice A7 b.fin.dest.length k7, i64 b.fin.n] 51) = Wb from ⟨hbb, hWb⟩)
      clear hcs3 hx kph kco kto hrI hmI hoI hWb hbb
      go_wp2_with fail
      rw [HE.out.2, HE.out.1]
      clear hcI f0 f1 f2 f3 f4 m0 m1 m2 m3 m4 m5 m6 m7 m8
      have f0 := HOW.out.cell 0
      have f1 := HOW.out.cell 1
      have f2 := HOW.out.cell 2
      have f3 := HOW.out.cell 3
      have f4 := HOW.out.cell 4
      simp only [List.getElem?_cons_succ, List.getElem?_cons_zero] at f0 f1 f2 f3 f4
      have QA := Lib.hid (fun (kk : Nat) (z : Int) (hz : (kk : Int) = z) (hk : kk ≤ b.code.length) (W' : World) (hb : Below Wb.heap.size Wb W') => hz ▸ at_any HU.out 0 w.heap.size W' _ _ (FuncC.move (Still.of_below (HBW.out.trans (hb.mono (Nat.le_of_lt hzw)))) HF0.out) (HBW.out.trans (hb.mono (Nat.le_of_lt hzw))).size HOK.out i b HX.out kk hk)
      have HLN := Lib.hid (fun (Q : Wd → Prop) (hQ : ∀ x, Q x → x ∈ allN bl) (r : List Wd) (hr : Rise r) (hm : ∀ x, x ∈ r ↔ Q x) => (show r.length ≤ 1000000000000 from Nat.le_trans (sub_len hr.nd fun x hx => hQ x ((hm x).1 hx)) HU.out.len))
      have HAT := Lib.hid (fun (k : Nat) (x : Wd) (h : AtL bl i b k x) => (show x ∈ allN bl from at_in HOK.out HX.out h))
      have QS := Lib.hid (fun (W' : World) (hb : Below Wb.heap.size Wb W') (base : Nat) (r : List Wd) (hr : Rise r) (hm : ∀ x, x ∈ r ↔ AtL bl i b 0 x) (A : Option Addr) (c : Nat) (ho : W'.ownsRow base 9 1 (.slice A r.length c) r.length (r.map str)) => same_yes (own_below HOI2.out hb) ho (HLN.out (LvB bl i) (lv_in HOK.out i) rI HRI.out.2.1 HRI.out.2.2) (HLN.out _ (HAT.out 0) r hr hm) (rise_eq HRI.out.2.1 hr fun x => ((HRI.out.2.2 x).trans (lv_at0 HX.out x)).trans (hm x).symm))
      go_region_held3 (fun w' => (w'.cell? ⟨w.heap.size, 0, none⟩ = some (str nm) ∧ w'.cell? ⟨w.heap.size, 1, none⟩ = some (str rs) ∧ w'.cell? ⟨w.heap.size, 2, none⟩ = some (.slice A1 ps.length k1) ∧ w'.cell? ⟨w.heap.size, 3, none⟩ = some (.slice A2 vs.length k2) ∧ w'.cell? ⟨w.heap.size, 4, none⟩ = some (.slice (some ⟨b3, o3, none⟩) bl.length k3) ∧ w'.cell? ⟨Bv, i, none⟩ = some (.slice AI rI.length kI)) ∧ Hid (Below Wb.heap.size Wb w'))
        (first | exact ⟨⟨f0, f1, f2, f3, f4, hcI2⟩, Lib.hid (Below.refl _ _).drew⟩ | exact ⟨⟨f0, f1, f2, f3, f4, hcI2⟩, Lib.hid (Below.refl _ _)⟩ | exact six_next hb (by assumption))
        (first | (go_at_call 14; (with_reducible refine (QA.out 0 0 rfl (Nat.zero_le _) _ (Hid.out (And.right (by assumption)))).mono ?_); rintro e w' ⟨v9, r9, rfl, hr9, hm9, ho9, -, hb⟩; obtain ⟨A9, c9, rfl⟩ := row_form ho9) | (go_at_call 9; (with_reducible refine (QS.out _ (Hid.out (And.right (by assumption))) _ _ hr9 hm9 _ _ ho9).mono ?_); rintro e w' ⟨rfl, hb⟩))
      rename_i hHeld
      obtain ⟨-, HBk⟩ := hHeld
      have HOk := Lib.hid (HOB.out.below HBk.out hbl)
      have m0 := HOk.out.cell 0
      have m1 := HOk.out.cell 1
      have m2 := HOk.out.cell 2
      have m3 := HOk.out.cell 3
      have m4 := HOk.out.cell 4
      have m5 := HOk.out.cell 5
      have m6 := HOk.out.cell 6
      have m7 := HOk.out.cell 7
      have m8 := HOk.out.cell 8
      simp only [List.getElem?_cons_succ, List.getElem?_cons_zero] at m0 m1 m2 m3 m4 m5 m6 m7 m8
      clear f0 f1 f2 f3 f4 hcI2 hr9 hm9 ho9 QS
      go_wp2_with fail
      go_loopw [6] (fun iv wr => ∃ k : Nat, k ≤ b.code.length ∧ iv = .int .i64 k ∧ Hid (Below Wb.heap.size Wb wr)) (fun iv _ => b.code.length - (intOf iv).toNat)
      case atStart => exact ⟨0, Nat.zero_le _, rfl, HBk⟩
      case round =>
      clear HOk HBk m0 m1 m2 m3 m4 m5 m6 m7 m8
      obtain ⟨k, hk, rfl, HBk⟩ := hrel
      have HOk := Lib.hid (HOB.out.below HBk.out hbl)
      have m0 := HOk.out.cell 0
      have m1 := HOk.out.cell 1
      have m2 := HOk.out.cell 2
      have m3 := HOk.out.cell 3
      have m4 := HOk.out.cell 4
      have m5 := HOk.out.cell 5
      have m6 := HOk.out.cell 6
      have m7 := HOk.out.cell 7
      have m8 := HOk.out.cell 8
      simp only [List.getElem?_cons_succ, List.getElem?_cons_zero] at m0 m1 m2 m3 m4 m5 m6 m7 m8
      by_cases hltk : k < b.code.length
      · obtain ⟨c, hxc⟩ : ∃ y, b.code[k]? = some y := ⟨_, List.getElem?_eq_getElem hltk⟩
        obtain ⟨b6, o6, rfl, hb6, cs6, hcl6, hcs6, v1, v2, v3, rfl, j1, j2, j3⟩ := row_at KCO.out hxc
        obtain ⟨B1, d1, rfl⟩ := Row.form j1
        obtain ⟨B2, d2, rfl⟩ := Row.form j2
        obtain ⟨B3, d3, rfl⟩ := Row.form j3
        have hbW : Below w.heap.size w wr := HBW.out.trans (HBk.out.mono (Nat.le_of_lt hzw))
        obtain ⟨n0, n1, n2, n3, n4, n5⟩ := at6 (cells_later hcs6 hbW hb6)
        have HXC := Lib.hid hxc
        have HIC := Lib.hid (fun (W' : World) (hb : Below Wb.heap.size Wb W') => (show InstrC 0 w.heap.size W' [i64 c.op, str c.dst, str c.name, .slice B1 c.args.length d1, .slice B2 c.frames.length d2, .slice B3 c.objs.length d3] c from InstrC.move (Still.of_below (HBW.out.trans (hb.mono (Nat.le_of_lt hzw)))) ⟨_, _, _, rfl, j1, j2, j3⟩))
        have QU := Lib.hid (uses_any HU.out 0 w.heap.size _ c (HIC.out wr HBk.out) hbW.size (fun y hy => (HOK.out.uI b (List.mem_of_getElem? HX.out) c (List.mem_of_getElem? hxc)).2 y hy))
        clear hcs6 hxc j1 j2 j3 hbW
        go_wp2_with fail
        refine QU.out.mono ?_
        rintro e w5 ⟨vw, rw', rfl, hrw, hmw, how, -, hb5⟩
        obtain ⟨Aw, cw, rfl⟩ := row_form how
        have HB5 := Lib.hid (HBk.out.trans (hb5.mono HBk.out.size))
        have HO5 := Lib.hid (HOW.out.below HB5.out hzw)
        have HW5 := Lib.hid (show Rise rw' ∧ ∀ x, x ∈ rw' ↔ x ∈ usesI c from ⟨hrw, fun x => (hmw x).trans decide_eq_true_iff⟩)
        have HOw5 := Lib.hid how
        have f0 := HO5.out.cell 0
        have f1 := HO5.out.cell 1
        have f2 := HO5.out.cell 2
        have f3 := HO5.out.cell 3
        have f4 := HO5.out.cell 4
        simp only [List.getElem?_cons_succ, List.getElem?_cons_zero] at f0 f1 f2 f3 f4
        have hk1 : ((k + 1 : Nat) : Int) = (k : Int) + 1 := by omega
        clear hb5 hrw hmw how QU n0 n1 n2 n3 n4 n5 m0 m1 m2 m3 m4 m5 m6 m7 m8 HOk
        go_wp2_with fail
        refine (QA.out (k + 1) _ hk1 (by omega) _ HB5.out).mono ?_
        rintro e w6 ⟨vb, rb, rfl, hrb, hmb, hob, -, hb6'⟩
        obtain ⟨Ab, cb, rfl⟩ := row_form hob
        have HB6 := Lib.hid (HB5.out.trans (hb6'.mono HB5.out.size))
        have HRB := Lib.hid (show Rise rb ∧ ∀ x, x ∈ rb ↔ AtL bl i b (k + 1) x from ⟨hrb, hmb⟩)
        have HOB6 := Lib.hid hob
        have hrbl : rb.length ≤ 1000000000000 := HLN.out _ (HAT.out (k + 1)) rb hrb hmb
        have HT0 := Lib.hid (show Rise rw' ∧ ∀ x, x ∈ rw' ↔ x ∈ usesI c ∨ (x ∈ rb.take 0 ∧ ¬ (c.dst ≠ [] ∧ x = c.dst)) from ⟨HW5.out.1, fun x => by rw [HW5.out.2 x]; simp⟩)
        have HTO := Lib.hid (own_below HOw5.out hb6')
        have HR6 := Lib.hid (Below.refl w6.heap.size w6)
        clear hb6' hrb hmb hob f0 f1 f2 f3 f4 HB5 HO5 hk1
        go_wp2_with fail
        go_loopw [7, 9] (fun wv jv wr => ∃ (j : Nat) (T : List Wd) (AT : Option Addr) (cT base : Nat), j ≤ rb.length ∧ jv = .int .i64 j ∧ wv = .slice AT T.length cT ∧ Hid (Rise T ∧ ∀ x, x ∈ T ↔ x ∈ usesI c ∨ (x ∈ rb.take j ∧ ¬ (c.dst ≠ [] ∧ x = c.dst))) ∧ Hid (wr.ownsRow base 9 1 (.slice AT T.length cT) T.length (T.map str)) ∧ Hid (Below w6.heap.size w6 wr)) (fun _ jv _ => rb.length - (intOf jv).toNat)
        case atStart => exact ⟨0, rw', Aw, cw, _, Nat.zero_le _, rfl, rfl, HT0, HTO, HR6⟩
        case round =>
        clear HT0 HTO HR6
        obtain ⟨j, T, AT, cT, baseT, hj, rfl, rfl, HT, HTO, HR6⟩ := hrel
        have HBj := Lib.hid (HB6.out.trans (HR6.out.mono HB6.out.size))
        have HOj := Lib.hid (HOB.out.below HBj.out hbl)
        have m0 := HOj.out.cell 0
        have m1 := HOj.out.cell 1
        have m2 := HOj.out.cell 2
        have m3 := HOj.out.cell 3
        have m4 := HOj.out.cell 4
        have m5 := HOj.out.cell 5
        have m6 := HOj.out.cell 6
        have m7 := HOj.out.cell 7
        have m8 := HOj.out.cell 8
        simp only [List.getElem?_cons_succ, List.getElem?_cons_zero] at m0 m1 m2 m3 m4 m5 m6 m7 m8
        have HQT := Lib.hid (show ∀ x, (x ∈ usesI c ∨ (x ∈ rb.take j ∧ ¬ (c.dst ≠ [] ∧ x = c.dst))) → x ∈ allN bl from fun x h => by
          rcases h with h | ⟨h, _⟩
          · exact (HOK.out.uI b (List.mem_of_getElem? HX.out) c (List.mem_of_getElem? HXC.out)).2 x h
          · exact HAT.out _ x ((HRB.out.2 x).1 (List.mem_of_mem_take h)))
        have hTl : T.length ≤ 1000000000000 := HLN.out _ HQT.out T HT.out.1 HT.out.2
        by_cases hltj : j < rb.length
        · obtain ⟨x, hx⟩ : ∃ x, rb[j]? = some x := ⟨_, List.getElem?_eq_getElem hltj⟩
          have hob := own_below HOB6.out HR6.out
          obtain ⟨b8, rfl, hb8, hb88⟩ := own_addr hob hltj
          have p0 := own_at hob (show (rb.map str)[j]? = some (str x) by rw [List.getElem?_map, hx]; rfl)
          obtain ⟨b6x, o6x, e6, hb6x, cs6x, hcl6x, hcs6x, v1x, v2x, v3x, e6c, _, _, _⟩ := row_at KCO.out HXC.out
          cases e6
          subst e6c
          obtain ⟨n0, n1, n2, n3, n4, n5⟩ := at6 (cells_later hcs6x (HBW.out.trans (HBj.out.mono (Nat.le_of_lt hzw))) hb6x)
          have HXX := Lib.hid hx
          have QP := Lib.hid (put12_any baseT wr.heap.size wr _ T x (texts_own HTO.out rfl (by omega)) (Nat.le_refl _) hTl)
          obtain ⟨d1, hd1⟩ : ∃ d, x.isEmpty = d := ⟨_, rfl⟩
          obtain ⟨d2, hd2⟩ : ∃ d, (x == c.dst) = d := ⟨_, rfl⟩
          have HD := Lib.hid (show ((d1 = true ∨ d2 = false) ↔ ¬ (c.dst ≠ [] ∧ x = c.dst)) from by
            rw [← hd1, ← hd2]
            by_cases q1 : x = []
            · subst q1
              exact ⟨fun _ h => h.1 h.2.symm, fun _ => .inl rfl⟩
            · by_cases q2 : x = c.dst
              · rw [← q2]; simp [q1]
              · simp [q1, q2])
          have hd3 : (x != c.dst) = !d2 := by rw [← hd2]; rfl
          clear hx hob hcs6x
          have HNX := Lib.hid (show rb.take (j + 1) = rb.take j ++ [x] from take_at HXX.out)
          have hgo : (d1 = true ∨ d2 = false) ∨ ¬ (d1 = true ∨ d2 = false) := Classical.em _
          rcases hgo with hgo | hgo
          · have HP9 := Lib.hid (show Rise (putV T x) ∧ ∀ y, y ∈ putV T x ↔ y ∈ usesI c ∨ (y ∈ rb.take (j + 1) ∧ ¬ (c.dst ≠ [] ∧ y = c.dst)) from ⟨putV_rise HT.out.1 x, fun y => by
              rw [putV_mem, HT.out.2 y, HNX.out, List.mem_append, List.mem_singleton]
              constructor
              · rintro ((h | ⟨h1, h2⟩) | rfl)
                · exact .inl h
                · exact .inr ⟨.inl h1, h2⟩
                · exact .inr ⟨.inr rfl, HD.out.1 hgo⟩
              · rintro (h | ⟨h1 | h1, h2⟩)
                · exact .inl (.inl h)
                · exact .inl (.inr ⟨h1, h2⟩)
                · exact .inr h1⟩)
            have QP2 := Lib.hid (fun (W' : World) (hb : Below wr.heap.size wr W') => put12_any baseT W'.heap.size W' _ T x (texts_own (own_below HTO.out hb) rfl (by omega)) (Nat.le_refl _) hTl)
            have hcase : (d1 = true ∧ d2 = true) ∨ (d1 = true ∧ d2 = false) ∨ (d1 = false ∧ d2 = false) := by
              cases d1 <;> cases d2 <;> simp at hgo ⊢
            clear hgo
            rcases hcase with ⟨rfl, rfl⟩ | ⟨rfl, rfl⟩ | ⟨rfl, rfl⟩
            all_goals simp only [Bool.not_true, Bool.not_false] at hd3
            all_goals go_wp2_with fail
            all_goals go_quiet (fail)
            all_goals go_wp2_with fail
            all_goals refine (QP2.out _ (drewN_below _ _)).mono ?_
            all_goals (
              rintro e w9 ⟨v9, rfl, ho9, hb9⟩
              obtain ⟨A9, c9, rfl⟩ := row_form ho9
              have HO9 := Lib.hid ho9
              have HB9 := Lib.hid (show Below w6.heap.size w6 w9 from HR6.out.trans ((drewN_below wr _).trans hb9 |>.mono HR6.out.size))
              clear ho9 hb9
              go_wp2_with fail
              go_roundw
              · exact ⟨j + 1, putV T x, A9, c9, _, by omega, by go_num, rfl, HP9, HO9, HB9⟩
              · simp [intOf]; omega)
          · have HP9 := Lib.hid (show Rise T ∧ ∀ y, y ∈ T ↔ y ∈ usesI c ∨ (y ∈ rb.take (j + 1) ∧ ¬ (c.dst ≠ [] ∧ y = c.dst)) from ⟨HT.out.1, fun y => by
              rw [HT.out.2 y, HNX.out, List.mem_append, List.mem_singleton]
              constructor
              · rintro (h | ⟨h1, h2⟩)
                · exact .inl h
                · exact .inr ⟨.inl h1, h2⟩
              · rintro (h | ⟨h1 | rfl, h2⟩)
                · exact .inl h
                · exact .inr ⟨h1, h2⟩
                · exact absurd (HD.out.2 h2) hgo⟩)
            obtain ⟨rfl, rfl⟩ : d1 = false ∧ d2 = true := by cases d1 <;> cases d2 <;> simp at hgo ⊢
            clear hgo
            simp only [Bool.not_true] at hd3
            go_wp2_with fail
            go_quiet (fail)
            go_wp2_with fail
            refine ⟨⟨j + 1, T, AT, cT, baseT, by omega, by go_num, rfl, HP9, Lib.hid (own_below HTO.out (drewN_below _ _)), Lib.hid (HR6.out.trans ((drewN_below wr _).mono HR6.out.size))⟩, ?_⟩
            simp [intOf]
            omega
        · obtain rfl : j = rb.length := by omega
          have HTF := Lib.hid (show Rise T ∧ ∀ x, x ∈ T ↔ AtL bl i b k x from ⟨HT.out.1, fun x => by
            rw [HT.out.2 x, List.take_length, at_step HXC.out x, HRB.out.2 x]
            exact or_congr Iff.rfl and_comm⟩)
          have HOf := Lib.hid (HOW.out.below HBj.out hzw)
          have f0 := HOf.out.cell 0
          have f1 := HOf.out.cell 1
          have f2 := HOf.out.cell 2
          have f3 := HOf.out.cell 3
          have f4 := HOf.out.cell 4
          simp only [List.getElem?_cons_succ, List.getElem?_cons_zero] at f0 f1 f2 f3 f4
          go_wp2_with fail
          refine (QA.out k _ rfl (by omega) _ HBj.out).mono ?_
          rintro e w8 ⟨v8, r8, rfl, hr8, hm8, ho8, -, hb8⟩
          obtain ⟨A8, c8, rfl⟩ := row_form ho8
          have HB8 := Lib.hid (HBj.out.trans (hb8.mono HBj.out.size))
          have hTl2 : T.length ≤ 1000000000000 := hTl
          have QS8 := Lib.hid (same_yes ho8 (own_below HTO.out hb8) (HLN.out _ (HAT.out k) r8 hr8 hm8) hTl (rise_eq hr8 HTF.out.1 fun x => (hm8 x).trans (HTF.out.2 x).symm))
          clear hb8 hr8 hm8 ho8 f0 f1 f2 f3 f4
          go_wp2_with fail
          refine QS8.out.mono ?_
          rintro e w9 ⟨rfl, hb9⟩
          have HB9 := Lib.hid (HB8.out.trans (hb9.mono HB8.out.size))
          clear hb9
          go_wp2_with fail
          go_roundw
          case rel => exact ⟨k + 1, by omega, by go_num, HB9⟩
          case measure => simp [intOf]; omega
      · obtain rfl : k = b.code.length := by omega
        have HOf := Lib.hid (HOW.out.below HBk.out hzw)
        have f0 := HOf.out.cell 0
        have f1 := HOf.out.cell 1
        have f2 := HOf.out.cell 2
        have f3 := HOf.out.cell 3
        have f4 := HOf.out.cell 4
        simp only [List.getElem?_cons_succ, List.getElem?_cons_zero] at f0 f1 f2 f3 f4
        go_wp2_with fail
        refine (QA.out b.code.length _ rfl (Nat.le_refl _) _ HBk.out).mono ?_
        rintro e w5 ⟨ve, re, rfl, hre, hme, hoe, -, hbe⟩
        obtain ⟨Ae, ce, rfl⟩ := row_form hoe
        have HB5 := Lib.hid (HBk.out.trans (hbe.mono HBk.out.size))
        have HOE := Lib.hid hoe
        have HRE := Lib.hid (show ∀ x, x ∈ re ↔ LastP bl i x from fun x => (hme x).trans (at_last x))
        have hrel : re.length ≤ 1000000000000 := HLN.out _ (HAT.out _) re hre hme
        have HR5 := Lib.hid (Below.refl w5.heap.size w5)
        clear hbe hre hme hoe f0 f1 f2 f3 f4 m0 m1 m2 m3 m4 m5 m6 m7 m8 HOk HOf
        go_wp2_with fail
        go_loopw [11] (fun jv wr => ∃ j : Nat, j ≤ b.fin.dest.length ∧ jv = .int .i64 j ∧ Hid (Below w5.heap.size w5 wr)) (fun jv _ => b.fin.dest.length - (intOf jv).toNat)
        case atStart => exact ⟨0, Nat.zero_le _, rfl, HR5⟩
        case round =>
        clear HR5
        obtain ⟨j, hj, rfl, HR5⟩ := hrel
        have HBj := Lib.hid (HB5.out.trans (HR5.out.mono HB5.out.size))
        have HOj := Lib.hid (HOB.out.below HBj.out hbl)
        have HOf := Lib.hid (HOW.out.below HBj.out hzw)
        have m0 := HOj.out.cell 0
        have m1 := HOj.out.cell 1
        have m2 := HOj.out.cell 2
        have m3 := HOj.out.cell 3
        have m4 := HOj.out.cell 4
        have m5 := HOj.out.cell 5
        have m6 := HOj.out.cell 6
        have m7 := HOj.out.cell 7
        have m8 := HOj.out.cell 8
        simp only [List.getElem?_cons_succ, List.getElem?_cons_zero] at m0 m1 m2 m3 m4 m5 m6 m7 m8
        have f0 := HOf.out.cell 0
        have f1 := HOf.out.cell 1
        have f2 := HOf.out.cell 2
        have f3 := HOf.out.cell 3
        have f4 := HOf.out.cell 4
        simp only [List.getElem?_cons_succ, List.getElem?_cons_zero] at f0 f1 f2 f3 f4
        by_cases hltj : j < b.fin.dest.length
        · obtain ⟨d, hxd⟩ : ∃ x, b.fin.dest[j]? = some x := ⟨_, List.getElem?_eq_getElem hltj⟩
          obtain ⟨b8, o8, rfl, hb8, cs8, hcl8, hcs8, rfl⟩ := row_at KTO.out hxd
          have n0 := cells_later hcs8 (HBW.out.trans (HBj.out.mono (Nat.le_of_lt hzw))) hb8 0 _ rfl
          simp only [Nat.mul_one, Nat.add_zero] at n0
          have hdm := List.mem_of_getElem? hxd
          obtain ⟨t, ht⟩ : ∃ t, plc (names bl) d = some t := by
            cases e : plc (names bl) d with
            | none => exact absurd (HOK.out.dn b (List.mem_of_getElem? HX.out) d hdm) (plc_none.1 e)
            | some t => exact ⟨t, rfl⟩
          have htl : t < bl.length := by have := plc_lt ht; rwa [names_len] at this
          have QP := Lib.hid (fun (W' : World) (hb5 : Below w5.heap.size w5 W') => let hb := HB5.out.trans (hb5.mono HB5.out.size); rplace_any 0 w.heap.size W' _ _ (FuncC.move (Still.of_below (HBW.out.trans (hb.mono (Nat.le_of_lt hzw)))) HF0.out) (HBW.out.trans (hb.mono (Nat.le_of_lt hzw))).size d)
          simp only [ht, plN, plB, Option.getD_some, Option.isSome_some] at QP
          have HT := Lib.hid ht
          have HDM := Lib.hid hdm
          obtain ⟨cB, hxt⟩ : ∃ y, bl[t]? = some y := ⟨_, List.getElem?_eq_getElem htl⟩
          have HXT := Lib.hid hxt
          clear hxd hcs8 ht hdm hxt
          go_wp2_with fail
          go_region_held3 (fun w' => (w'.cell? ⟨w.heap.size, 0, none⟩ = some (str nm) ∧ w'.cell? ⟨w.heap.size, 1, none⟩ = some (str rs) ∧ w'.cell? ⟨w.heap.size, 2, none⟩ = some (.slice A1 ps.length k1) ∧ w'.cell? ⟨w.heap.size, 3, none⟩ = some (.slice A2 vs.length k2) ∧ w'.cell? ⟨w.heap.size, 4, none⟩ = some (.slice (some ⟨b3, o3, none⟩) bl.length k3) ∧ w'.cell? ⟨b8, o8 + j, none⟩ = some (str d) ∧ w'.cell? ⟨bb, 7, none⟩ = some (.slice (some ⟨b8, o8, none⟩) b.fin.dest.length k7)) ∧ Hid (Below w5.heap.size w5 w'))
            (first | exact ⟨⟨f0, f1, f2, f3, f4, n0, m7⟩, Lib.hid HR5.out.drew⟩ | exact ⟨⟨f0, f1, f2, f3, f4, n0, m7⟩, HR5⟩ | exact seven_next hb (by assumption))
            (first | (go_at_call 16; (with_reducible refine (QP.out _ (Hid.out (And.right (by assumption)))).mono ?_); rintro e w' ⟨rfl, hb⟩))
          rename_i hHeld
          obtain ⟨-, HRp⟩ := hHeld
          have HBp := Lib.hid (HB5.out.trans (HRp.out.mono HB5.out.size))
          obtain ⟨vT, rT, hcT, hrT, hmT, hoT⟩ := (HRW.out.below HBp.out).at htl
          obtain ⟨AT, kT, rfl⟩ := row_form hoT
          have hrTl : rT.length ≤ 1000000000000 := HLN.out _ (lv_in HOK.out t) rT hrT hmT
          have HOT := Lib.hid hoT
          have HMT := Lib.hid hmT
          have HCT := Lib.hid hcT
          have HRQ := Lib.hid (Below.refl w'.heap.size w')
          obtain ⟨b3x, o3x, e3x, hb3x, cs3x, hcl3x, hcs3x, y1, y2, cs4x, e4x, kphx, kcox, y4, e5x, ktox⟩ := row_at KB.out HXT.out
          cases e3x
          subst e5x
          subst e4x
          obtain ⟨AP, kP, rfl⟩ := Row.form kphx
          have hpl2 : cB.phis.length ≤ 4611686018427387903 := by obtain ⟨_, _, _, h, _⟩ := Row.get kphx; exact h
          have HS1 := Lib.hid (fun (W' : World) (hb : Below w.heap.size w W') => (at9 (cells_later hcs3x hb hb3x)).2.1)
          have KPX := Lib.hid kphx
          clear f0 f1 f2 f3 f4 m0 m1 m2 m3 m4 m5 m6 m7 m8 n0 hrT hmT hoT hcT QP HOj HOf hcs3x kphx kcox ktox
          go_wp2_with fail
          go_loopw [14] (fun zv wr => ∃ z : Nat, z ≤ rT.length ∧ zv = .int .i64 z ∧ Hid (Below w'.heap.size w' wr)) (fun zv _ => rT.length - (intOf zv).toNat)
          case atStart => exact ⟨0, Nat.zero_le _, rfl, HRQ⟩
          case round =>
          clear HRQ
          obtain ⟨z, hz, rfl, HRQ⟩ := hrel
          have HBz := Lib.hid (HBp.out.trans (HRQ.out.mono HBp.out.size))
          have HOz := Lib.hid (HOW.out.below HBz.out hzw)
          have hcT := (HRQ.out.cell (World.block_lt_of_cell? w' _ HCT.out)).trans HCT.out
          have f0 := HOz.out.cell 0
          have f1 := HOz.out.cell 1
          have f2 := HOz.out.cell 2
          have f3 := HOz.out.cell 3
          have f4 := HOz.out.cell 4
          simp only [List.getElem?_cons_succ, List.getElem?_cons_zero] at f0 f1 f2 f3 f4
          by_cases hltz : z < rT.length
          · obtain ⟨y, hy⟩ : ∃ x, rT[z]? = some x := ⟨_, List.getElem?_eq_getElem hltz⟩
            have hoz := own_below HOT.out HRQ.out
            obtain ⟨b9, rfl, hb9, hb99⟩ := own_addr hoz hltz
            have p0 := own_at hoz (show (rT.map str)[z]? = some (str y) by rw [List.getElem?_map, hy]; rfl)
            have s1 := HS1.out wr (HBW.out.trans (HBz.out.mono (Nat.le_of_lt hzw)))
            have HYZ := Lib.hid hy
            have HN0 := Lib.hid (show (false = true ↔ ∃ p ∈ cB.phis.take 0, p.dst = y) by simp)
            clear hy hoz
            go_wp2_with fail
            go_loopw [15, 16] (fun sv nv wr => ∃ (n : Nat) (s : Bool), n ≤ cB.phis.length ∧ nv = .int .i64 n ∧ sv = .bool s ∧ Hid (s = true ↔ ∃ p ∈ cB.phis.take n, p.dst = y) ∧ Hid (Below w'.heap.size w' wr)) (fun _ nv _ => cB.phis.length - (intOf nv).toNat)
            case atStart => exact ⟨0, false, Nat.zero_le _, rfl, rfl, HN0, HRQ⟩
            case round =>
            clear HN0 HRQ HBz HOz f0 f1 f2 f3 f4 p0 s1 hcT
            obtain ⟨n, s, hn, rfl, rfl, HN, HRQ⟩ := hrel
            have HBz := Lib.hid (HBp.out.trans (HRQ.out.mono HBp.out.size))
            have HOz := Lib.hid (HOW.out.below HBz.out hzw)
            have hcT := (HRQ.out.cell (World.block_lt_of_cell? w' _ HCT.out)).trans HCT.out
            have f0 := HOz.out.cell 0
            have f1 := HOz.out.cell 1
            have f2 := HOz.out.cell 2
            have f3 := HOz.out.cell 3
            have f4 := HOz.out.cell 4
            simp only [List.getElem?_cons_succ, List.getElem?_cons_zero] at f0 f1 f2 f3 f4
            have p0 := own_at (own_below HOT.out HRQ.out) (show (rT.map str)[z]? = some (str y) by rw [List.getElem?_map, HYZ.out]; rfl)
            have s1 := HS1.out wr (HBW.out.trans (HBz.out.mono (Nat.le_of_lt hzw)))
            by_cases hltn : n < cB.phis.length
            · obtain ⟨p, hxp⟩ : ∃ y, cB.phis[n]? = some y := ⟨_, List.getElem?_eq_getElem hltn⟩
              obtain ⟨b7, o7, rfl, hb7, cs7, hcl7, hcs7, u7', rfl, kin⟩ := row_at KPX.out hxp
              obtain ⟨q0, q1⟩ := at2 (cells_later hcs7 (HBW.out.trans (HBz.out.mono (Nat.le_of_lt hzw))) hb7)
              obtain ⟨d2, hd2⟩ : ∃ d, (p.dst == y) = d := ⟨_, rfl⟩
              have HN1 := Lib.hid (show ((s || d2) = true ↔ ∃ p ∈ cB.phis.take (n + 1), p.dst = y) by
                rw [take_at hxp, Bool.or_eq_true, HN.out, ← hd2, beq_iff_eq]
                constructor
                · rintro (⟨p', h1, h2⟩ | h)
                  · exact ⟨p', List.mem_append_left _ h1, h2⟩
                  · exact ⟨p, by simp, h⟩
                · rintro ⟨p', h1, h2⟩
                  rcases List.mem_append.1 h1 with h1 | h1
                  · exact .inl ⟨p', h1, h2⟩
                  · rw [List.mem_singleton.1 h1] at h2
                    exact .inr h2)
              clear hxp hcs7 kin
              cases s <;> cases d2
              all_goals go_wp2_with fail
              all_goals go_quiet (fail)
              all_goals go_wp2_with fail
              all_goals exact ⟨⟨n + 1, _, by omega, by go_num, rfl, HN1, Lib.hid (HRQ.out.trans ((drewN_below wr _).mono HRQ.out.size))⟩, by simp [intOf]; omega⟩
            · obtain rfl : n = cB.phis.length := by omega
              have HNF := Lib.hid (show (s = true ↔ ∃ p ∈ cB.phis, p.dst = y) by have := HN.out; rwa [List.take_length] at this)
              have HBE := Lib.hid (HRp.out.trans (HRQ.out.mono HRp.out.size))
              have QI := Lib.hid (fun (W' : World) (hb : Below wr.heap.size wr W') => in12_any _ _ W' _ re y (texts_own (own_below (own_below HOE.out HBE.out) hb) rfl (by omega)) (Nat.le_refl _))
              cases s with
              | true =>
                go_wp2_with fail
                exact ⟨⟨z + 1, by omega, by go_num, HRQ⟩, by simp [intOf]; omega⟩
              | false =>
                have HIN := Lib.hid (show y ∈ re from (HRE.out y).2 (last_of HX.out HDM.out HT.out HXT.out ((HMT.out y).1 (List.mem_of_getElem? HYZ.out)) (fun h => by have := HNF.out.2 h; cases this)))
                go_wp2_with fail
                refine (QI.out wr (Below.refl _ _)).mono ?_
                rintro e w9 ⟨q, rfl, hq, hb9⟩
                obtain rfl : q = true := hq.2 HIN.out
                have HRQ9 := Lib.hid (HRQ.out.trans (hb9.mono HRQ.out.size))
                clear hq hb9
                go_wp2_with fail
                go_roundw
                case rel => exact ⟨z + 1, by omega, by go_num, HRQ9⟩
                case measure => simp [intOf]; omega
          · obtain rfl : z = rT.length := by omega
            go_wp2_with fail
            go_roundw
            case rel => exact ⟨j + 1, by omega, by go_num, Lib.hid (HRp.out.trans (HRQ.out.mono HRp.out.size))⟩
            case measure => simp [intOf]; omega
        · obtain rfl : j = b.fin.dest.length := by omega
          go_wp2_with fail
          go_roundw
          case rel => exact ⟨i + 1, by omega, by go_num, Lib.hid (HB3W.out.trans (HBj.out.mono HB3W.out.size))⟩
          case measure => simp [intOf]; omega
    · obtain rfl : i = bl.length := by omega
      go_wp2_with fail
      go_ret
      exact ⟨rfl, HBa.out⟩

set_option maxRecDepth 100000 in
theorem lifted (os : Os) (started : os.Started) (H : Type) (enc : TypeId × Value → H) :
    ReturnsInHanded {} Try.checked os 4 .any (Rows.liveWaysSpec.pre6 enc Try.prog Try.f4 Rows.liveWaysRow.domain false) (Rows.liveWaysSpec.post enc Try.prog Try.f4 false true false false) := by
  refine returnsInHanded_of_change_sized (C := Try.checked) (by kernel_rfl) started (by kernel_rfl) Try.func4
    (ChangeSpec.witness6 (enc := enc) (C := Try.checked) false ⟨#[], #[.agg #[.string ⟨#[]⟩, .string ⟨#[]⟩, .slice none 0 0, .slice none 0 0, .slice none 0 0]], []⟩ 8 (by kernel_rfl) (by kernel_rfl) (by kernel_rfl) (by kernel_rfl)) ?_
  intro W base args ds gs before hval0 hW hcnd hsz0 _
  have hval : ∀ (j : Nat) t v, Try.f4.params[j]? = some t → args[j]? = some v → Value.okWide Try.prog W .any base t v := hval0
  have hW' := hW
  obtain ⟨p, q, hA0, hV, rfl, hfz, hnd⟩ := hW
  have hsz : (DataW.weightsEach Try.prog (Try.f4.params.toList ++ Rows.liveWaysSpec.plain.varTypes Try.prog) (ds ++ gs)).all (· ≤ reachBytes) = true := hsz0
  have hA : DataW.TrodAll enc Try.prog W 0 (fun _ => true) true Try.f4.params.toList args.toList ds p := hA0
  rw [Try.params4] at hA hval hsz
  obtain ⟨v0, vs0, d0, ds0, p0, q0, hargs, rfl, rfl, h0, r0⟩ := trodAll_cons hA
  obtain ⟨rfl, rfl, rfl⟩ := trodAll_nil r0
  obtain rfl : args = #[v0] := by cases args; simp_all
  obtain ⟨rfl, rfl⟩ := trodVars_none hV
  obtain ⟨xs0, hG0⟩ := OpenP.open_func hsz (j := 0) rfl rfl (hval 0 40 v0 rfl rfl) h0
  clear hA0 hval0
  simp only [List.append_nil] at hW'
  refine (walk v0 xs0 hG0).mono fun e W' ⟨he, hg⟩ => ?_
  subst he
  exact ⟨_, rfl, Shell.lawPost (by kernel_rfl) rfl (by kernel_rfl) rfl Try.underlying4 hW' rfl hg⟩

/-- The statement. -/
theorem proved : Rows.LiveWaysSaid :=
  OpenClaim.holds_of_wide 4 Try.f4 rfl rfl rfl rfl rfl rfl rfl ⟨rfl, rfl, rfl, rfl, rfl⟩ rfl rfl rfl rfl rfl (by kernel_rfl) Try.func4 (by kernel_rfl)
    (of_decide_eq_true (by kernel_rfl)) (by unfold Func.isWrapper; first | (rw [if_pos (by decide +kernel)]; kernel_rfl) | (rw [if_neg (by decide +kernel)]; exact ⟨rfl, rfl⟩))
    (fun os started H enc _ => lifted os started H enc)
end Go.Proofs.Ytkiolfmefcckeaa.liveWays
