/-
  Of whatever function whose shape is right: its graph is as the document says.
-/
import Derived.Test.YtnonbkaanplcjaaRows
import Derived.Test.YtnonbkaanplcjaaLaw09
import Derived.Test.YtnonbkaanplcjaaOpenP
import Derived.Test.YtnonbkaanplcjaaShRRight
import Derived.Test.YtnonbkaanplcjaaFlOf
import Derived.Deep.RegionHeld3
import Derived.Test.YtnonbkaanplcjaaShell
import Derived.ProofKit
import Derived.OpenShut
import Derived.SizedLaws
namespace Go.Proofs.Ytnonbkaanplcjaa.flowGraphs
open Go.ChangeShapes Go.WideShapes Go.ChangeAt Go.RowKit
open Api Mem Sh8 Fl9
/-- a function's box, and that what was there stays. -/
theorem fn_first {w w' : World} {g : Nat} {t : TypeId} {c0 c1 c2 c3 c4 : Value} (o : Own w' g t [c0, c1, c2, c3, c4]) (b : Below g w w') : (w'.cell? ⟨g, 0, none⟩ = some c0 ∧ w'.cell? ⟨g, 1, none⟩ = some c1 ∧ w'.cell? ⟨g, 2, none⟩ = some c2 ∧ w'.cell? ⟨g, 3, none⟩ = some c3 ∧ w'.cell? ⟨g, 4, none⟩ = some c4) ∧ Hid (Own w' g t [c0, c1, c2, c3, c4]) ∧ Hid (Below g w w') :=
  ⟨⟨o.cell 0, o.cell 1, o.cell 2, o.cell 3, o.cell 4⟩, Lib.hid o, Lib.hid b⟩
theorem fn_next {w w1 w' : World} {g : Nat} {t : TypeId} {c0 c1 c2 c3 c4 : Value} (hb : Below w1.heap.size w1 w') (h : (w1.cell? ⟨g, 0, none⟩ = some c0 ∧ w1.cell? ⟨g, 1, none⟩ = some c1 ∧ w1.cell? ⟨g, 2, none⟩ = some c2 ∧ w1.cell? ⟨g, 3, none⟩ = some c3 ∧ w1.cell? ⟨g, 4, none⟩ = some c4) ∧ Hid (Own w1 g t [c0, c1, c2, c3, c4]) ∧ Hid (Below g w w1)) :
    (w'.cell? ⟨g, 0, none⟩ = some c0 ∧ w'.cell? ⟨g, 1, none⟩ = some c1 ∧ w'.cell? ⟨g, 2, none⟩ = some c2 ∧ w'.cell? ⟨g, 3, none⟩ = some c3 ∧ w'.cell? ⟨g, 4, none⟩ = some c4) ∧ Hid (Own w' g t [c0, c1, c2, c3, c4]) ∧ Hid (Below g w w') :=
  fn_first (h.2.1.out.below hb h.2.1.out.lt) (h.2.2.out.trans (hb.mono (Nat.le_of_lt h.2.1.out.lt)))
theorem bp_yes {P : Program} {f : FuncId} {args : Array Value} {p : Prop} {w w0 : World} (h : Calls P f args w (BP p w0)) (hp : p) : Calls P f args w fun e w' => e = .returned (.bool true) ∧ Below w0.heap.size w0 w' := h.mono (by
  rintro e w' ⟨b, rfl, hb, hw⟩
  obtain rfl : b = true := hb.2 hp
  exact ⟨rfl, hw⟩)
theorem bp_no {P : Program} {f : FuncId} {args : Array Value} {p : Prop} {w w0 : World} (h : Calls P f args w (BP p w0)) (hp : ¬ p) : Calls P f args w fun e w' => e = .returned (.bool false) ∧ Below w0.heap.size w0 w' := h.mono (by
  rintro e w' ⟨b, rfl, hb, hw⟩
  cases b with
  | false => exact ⟨rfl, hw⟩
  | true => exact absurd (hb.1 rfl) hp)
theorem same_b {p : Prop} {b c : Bool} (h : b = true ↔ p) (g : c = true ↔ p) : (b == c) = true := by
  rw [Bool.eq_iff_iff.2 (h.trans g.symm)]
  simp
theorem nm_of {f : Api.Func} (h : OpenP.funcG f) : nmG f.blocks := fun b hb => (h.2.2.2 b hb).1
theorem to_of {f : Api.Func} (h : OpenP.funcG f) : toG f.blocks := fun b hb x hx => (h.2.2.2 b hb).2.2.2.2.2.1 x hx
theorem all_right {bl : List Bl} (h : RightP bl) : allG bl := fun b hb x hx => ((h.2.2.1 b hb).2 x hx).1
theorem short_of {bl : List Bl} (h : fewT bl) : ∀ l ∈ ofV bl, l.length ≤ 4611686018427387903 := by
  intro l hl
  obtain ⟨b, hb, rfl⟩ := List.mem_map.1 hl
  have := h b hb
  unfold toL
  rw [List.length_map]
  omega
set_option maxRecDepth 100000 in
set_option maxHeartbeats 16000000 in
theorem walk (v : Value) (q : Api.Func × List Value) {w : World} (hq : v = .agg q.2.toArray ∧ FuncC 0 w.heap.size w q.2 q.1 ∧ OpenP.funcG q.1) :
    Calls Try.prog 3 #[v] w fun e w' => e = .returned (.bool true) ∧ Below w.heap.size w w' := by
  obtain ⟨rfl, hfc, hG⟩ := hq
  obtain ⟨f, cs⟩ := q
  simp only at hfc hG
  have hfc0 := hfc
  obtain ⟨u1, u2, u3, rfl, kp, kv, kb⟩ := hfc
  obtain ⟨nm, rs, ps, vs, bl⟩ := f
  simp only at kp kv kb
  obtain ⟨A1, k1, rfl⟩ := kp.form
  obtain ⟨A2, k2, rfl⟩ := kv.form
  obtain ⟨A3, k3, rfl⟩ := kb.form
  obtain ⟨W, hW⟩ : ∃ W, w.alloc (.cells #[str nm, str rs, .slice A1 ps.length k1, .slice A2 vs.length k2, .slice A3 bl.length k3] 25) = W := ⟨_, rfl⟩
  obtain ⟨o1, b1, z1⟩ := box8 (c := [str nm, str rs, .slice A1 ps.length k1, .slice A2 vs.length k2, .slice A3 bl.length k3]) hW
  have HF0 := Lib.hid hfc0
  have HG := Lib.hid hG
  have HO := Lib.hid o1
  have HB := Lib.hid b1
  have HW := Lib.hid hW
  have zlt := o1.lt
  clear o1 b1 hW kp kv kb hfc0 hG
  go_enter Try.func3, Try.ntmps3
  go_wp2_with fail
  rw [HW.out]
  refine (L09.awake_any W).mono ?_
  rintro e w1 ⟨rfl, hb1⟩
  have HB1 := Lib.hid (HB.out.trans (hb1.mono HB.out.size))
  have HO1 := Lib.hid (HO.out.below hb1 HO.out.lt)
  have QF := Lib.hid (few_any 0 w.heap.size w1 _ _ (FuncC.move (Still.of_below HB1.out) HF0.out) HB1.out.size)
  clear hb1
  have f0 := HO1.out.cell 0
  have f1 := HO1.out.cell 1
  have f2 := HO1.out.cell 2
  have f3 := HO1.out.cell 3
  have f4 := HO1.out.cell 4
  simp only [List.getElem?_cons_succ, List.getElem?_cons_zero] at f0 f1 f2 f3 f4
  go_wp2_with fail
  refine QF.out.mono ?_
  rintro e w2 ⟨b2, rfl, hfew, hb2⟩
  have HB2 := Lib.hid (HB1.out.trans (hb2.mono HB1.out.size))
  have HO2 := Lib.hid (HO1.out.below hb2 HO1.out.lt)
  clear hb2 f0 f1 f2 f3 f4
  cases b2 with
  | false =>
    clear hfew
    go_wp2_with fail
    refine (L09.awake_any w2).mono ?_
    rintro e w3 ⟨rfl, hb3⟩
    have HB3 := Lib.hid (HB2.out.trans (hb3.mono HB2.out.size))
    clear hb3
    go_wp2_with fail
    go_ret
    exact ⟨rfl, HB3.out⟩
  | true =>
    have hfw := hfew rfl
    have hlb : bl.length ≤ 60 := hfw.1
    have HFW := Lib.hid hfw
    clear hfew hfw
    have f0 := HO2.out.cell 0
    have f1 := HO2.out.cell 1
    have f2 := HO2.out.cell 2
    have f3 := HO2.out.cell 3
    have f4 := HO2.out.cell 4
    simp only [List.getElem?_cons_succ, List.getElem?_cons_zero] at f0 f1 f2 f3 f4
    have HL60 := Lib.hid hlb
    by_cases hR : RightP bl
    · have QR := Lib.hid (bp_yes (rright_any 0 w.heap.size w2 _ _ (FuncC.move (Still.of_below HB2.out) HF0.out) HB2.out.size (by show bl.length ≤ _; omega)) hR)
      have HR := Lib.hid hR
      clear hR
      go_wp2_with fail
      refine QR.out.mono ?_
      rintro e w3 ⟨rfl, hb3⟩
      have HB3 := Lib.hid (HB2.out.trans (hb3.mono HB2.out.size))
      have HO3 := Lib.hid (HO2.out.below hb3 HO2.out.lt)
      clear hb3 f0 f1 f2 f3 f4
      have f0 := HO3.out.cell 0
      have f1 := HO3.out.cell 1
      have f2 := HO3.out.cell 2
      have f3 := HO3.out.cell 3
      have f4 := HO3.out.cell 4
      simp only [List.getElem?_cons_succ, List.getElem?_cons_zero] at f0 f1 f2 f3 f4
      have QO := Lib.hid (fun (w5 : World) (hb : Below w.heap.size w w5) => of_any9 0 w.heap.size w5 _ _ (FuncC.move (Still.of_below hb) HF0.out) hb.size HL60.out (nm_of HG.out) (to_of HG.out) (all_right HR.out) (fun b hb => (HFW.out.2 b hb).1))
      have QS := Lib.hid (fun (w5 : World) (hb : Below w.heap.size w w5) => rof_any9 0 w.heap.size w5 _ _ (FuncC.move (Still.of_below hb) HF0.out) hb.size HL60.out (nm_of HG.out) (fun b hb => (HFW.out.2 b hb).1))
      have HSH := Lib.hid (And.intro (show (ofV bl).length ≤ 4611686018427387903 by rw [ofV_len]; omega) (short_of (bl := bl) (fun b hb => (HFW.out.2 b hb).1)))
      clear hlb
      go_wp2_with fail
      go_region_held3 (fun w' => (w'.cell? ⟨w.heap.size, 0, none⟩ = some (str nm) ∧ w'.cell? ⟨w.heap.size, 1, none⟩ = some (str rs) ∧ w'.cell? ⟨w.heap.size, 2, none⟩ = some (.slice A1 ps.length k1) ∧ w'.cell? ⟨w.heap.size, 3, none⟩ = some (.slice A2 vs.length k2) ∧ w'.cell? ⟨w.heap.size, 4, none⟩ = some (.slice A3 bl.length k3)) ∧ Hid (Own w' w.heap.size 25 [str nm, str rs, .slice A1 ps.length k1, .slice A2 vs.length k2, .slice A3 bl.length k3]) ∧ Hid (Below w.heap.size w w'))
        (first | exact fn_first HO3.out HB3.out | exact fn_first HO3.out.drew HB3.out.drew | exact fn_next hb (by assumption))
        (first | (go_at_call 12; (with_reducible refine (QO.out _ (Hid.out (And.right (And.right (by assumption))))).mono ?_); rintro e w4 ⟨vo, rfl, ho, hb⟩; have HV := Lib.hid (show Graph _ w4.heap.size w4 vo (ofV bl) from ho.graph (Nat.le_refl _) HSH.out.1 HSH.out.2); clear ho) | (go_at_call 13; (with_reducible refine (QS.out _ (Hid.out (And.right (And.right (by assumption))))).mono ?_); rintro e w5 ⟨vp, rfl, ho, hb⟩; have HV2 := Lib.hid (Graph.move (L09.still_up hb hb.size) HV.out); have HVP := Lib.hid (Graph.move (Still.wide _ (Nat.zero_le _) (Nat.le_refl _)) (show Graph _ w5.heap.size w5 vp (ofV bl) from ho.graph (Nat.le_refl _) HSH.out.1 HSH.out.2)); clear ho) | (go_at_call 11; refine (L09.yes9 (lists_any 0 _ _ _ _ (ofV bl) (ofV bl) HV2.out HVP.out (Nat.le_refl _)) rfl).mono ?_; rintro e w6 ⟨rfl, hb⟩))
      rename_i hHeld
      have HB6 := hHeld.2.2
      clear hHeld
      go_wp2_with fail
      go_ret
      exact ⟨by simp, HB6.out⟩
    · have QR := Lib.hid (bp_no (rright_any 0 w.heap.size w2 _ _ (FuncC.move (Still.of_below HB2.out) HF0.out) HB2.out.size (by show bl.length ≤ _; omega)) hR)
      clear hR
      go_wp2_with fail
      refine QR.out.mono ?_
      rintro e w3 ⟨rfl, hb3⟩
      have HB3 := Lib.hid (HB2.out.trans (hb3.mono HB2.out.size))
      clear hb3 f0 f1 f2 f3 f4
      go_wp2_with fail
      refine (L09.awake_any w3).mono ?_
      rintro e w4 ⟨rfl, hb4⟩
      have HB4 := Lib.hid (HB3.out.trans (hb4.mono HB3.out.size))
      clear hb4
      go_wp2_with fail
      go_ret
      exact ⟨rfl, HB4.out⟩

set_option maxRecDepth 100000 in
theorem lifted (os : Os) (started : os.Started) (H : Type) (enc : TypeId × Value → H) :
    ReturnsInHanded {} Try.checked os 3 .any (Rows.flowGraphsSpec.pre6 enc Try.prog Try.f3 Rows.flowGraphsRow.domain false) (Rows.flowGraphsSpec.post enc Try.prog Try.f3 false true false false) := by
  refine returnsInHanded_of_change_sized (C := Try.checked) (by kernel_rfl) started (by kernel_rfl) Try.func3
    (ChangeSpec.witness6 (enc := enc) (C := Try.checked) false ⟨#[], #[.agg #[.string ⟨#[]⟩, .string ⟨#[]⟩, .slice none 0 0, .slice none 0 0, .slice none 0 0]], []⟩ 8 (by kernel_rfl) (by kernel_rfl) (by kernel_rfl) (by kernel_rfl)) ?_
  intro W base args ds gs before hval0 hW hcnd hsz0 _
  have hval : ∀ (j : Nat) t v, Try.f3.params[j]? = some t → args[j]? = some v → Value.okWide Try.prog W .any base t v := hval0
  have hW' := hW
  obtain ⟨p, q, hA0, hV, rfl, hfz, hnd⟩ := hW
  have hsz : (DataW.weightsEach Try.prog (Try.f3.params.toList ++ Rows.flowGraphsSpec.plain.varTypes Try.prog) (ds ++ gs)).all (· ≤ reachBytes) = true := hsz0
  have hA : DataW.TrodAll enc Try.prog W 0 (fun _ => true) true Try.f3.params.toList args.toList ds p := hA0
  rw [Try.params3] at hA hval hsz
  obtain ⟨v0, vs0, d0, ds0, p0, q0, hargs, rfl, rfl, h0, r0⟩ := trodAll_cons hA
  obtain ⟨rfl, rfl, rfl⟩ := trodAll_nil r0
  obtain rfl : args = #[v0] := by cases args; simp_all
  obtain ⟨rfl, rfl⟩ := trodVars_none hV
  obtain ⟨xs0, hG0⟩ := OpenP.open_func hsz (j := 0) rfl rfl (hval 0 25 v0 rfl rfl) h0
  clear hA0 hval0
  simp only [List.append_nil] at hW'
  refine (walk v0 xs0 hG0).mono fun e W' ⟨he, hg⟩ => ?_
  subst he
  exact ⟨_, rfl, Shell.lawPost (by kernel_rfl) rfl (by kernel_rfl) rfl Try.underlying4 hW' rfl hg⟩

/-- The statement. -/
theorem proved : Rows.FlowGraphsSaid :=
  OpenClaim.holds_of_wide 3 Try.f3 rfl rfl rfl rfl rfl rfl rfl ⟨rfl, rfl, rfl, rfl, rfl⟩ rfl rfl rfl rfl rfl (by kernel_rfl) Try.func3 (by kernel_rfl)
    (of_decide_eq_true (by kernel_rfl)) (by unfold Func.isWrapper; first | (rw [if_pos (by decide +kernel)]; kernel_rfl) | (rw [if_neg (by decide +kernel)]; exact ⟨rfl, rfl⟩))
    (fun os started H enc _ => lifted os started H enc)
end Go.Proofs.Ytnonbkaanplcjaa.flowGraphs
