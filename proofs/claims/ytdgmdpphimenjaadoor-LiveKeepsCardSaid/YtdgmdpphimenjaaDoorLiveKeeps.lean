/-
  The law LiveKeeps: what is handed in stays, whatever is written into what was answered.
-/
import Derived.Test.YtdgmdpphimenjaaDoorRows
import Derived.Test.YtdgmdpphimenjaaDoorLiG
import Derived.Test.YtdgmdpphimenjaaDoorOpenP
import Derived.Test.YtdgmdpphimenjaaDoorLvFew
import Derived.Deep.RegionLaw
import Derived.StillTailTactics
import Derived.Deep.RegionHeld3
import Derived.Test.YtdgmdpphimenjaaDoorExG
import Derived.Test.YtdgmdpphimenjaaDoorLvB
import Derived.Test.YtdgmdpphimenjaaDoorShell
import Derived.ProofKit
import Derived.OpenShut
import Derived.SizedLaws
import Derived.Test.YtdgmdpphimenjaaDoorOfG
import Derived.Test.YtdgmdpphimenjaaDoorTie
import Derived.Test.YtdgmdpphimenjaaDoorCards
import Derived.LaidMore
import Derived.Stop.Joined
import Derived.SevenTiedAt
namespace Go.Proofs.YtdgmdpphimenjaaDoor.liveKeeps
open Go.ChangeShapes Go.WideShapes Go.ChangeAt Go.RowKit
open Api Mem Sh8 Lv12
open LinesM (joinV)
set_option maxRecDepth 100000 in
set_option maxHeartbeats 16000000 in
theorem walk (v : Value) (q : Api.Func × List Value) {w : World} (hq : v = .agg q.2.toArray ∧ FuncC 0 w.heap.size w q.2 q.1 ∧ OpenP.funcG q.1) (hL : R05.Laid w) :
    Calls Tryd.prog 4 #[v] w fun e w' => e = .returned (.bool true) ∧ Below w.heap.size w w' := by
  obtain ⟨rfl, hfc, hG⟩ := hq
  obtain ⟨f, cs⟩ := q
  simp only at hfc hG
  have hfc0 := hfc
  obtain ⟨u1, u2, u3, rfl, kp, kv, kb⟩ := hfc
  obtain ⟨nm, rs, ps, vs, bl⟩ := f
  simp only at kp kv kb
  obtain ⟨A1, k1, rfl⟩ := kp.form
  obtain ⟨A2, k2, rfl⟩ := kv.form
  obtain ⟨A3, k3, rfl⟩ := kb.form
  obtain ⟨W, hW⟩ : ∃ W, w.alloc (.cells #[str nm, str rs, .slice A1 ps.length k1, .slice A2 vs.length k2, .slice A3 bl.length k3] 37) = W := ⟨_, rfl⟩
  obtain ⟨o1, b1, z1⟩ := box8 (c := [str nm, str rs, .slice A1 ps.length k1, .slice A2 vs.length k2, .slice A3 bl.length k3]) hW
  have HF0 := Lib.hid hfc0
  have HG := Lib.hid hG
  have KB := Lib.hid kb
  have KP := Lib.hid kp
  have HO := Lib.hid o1
  have HB := Lib.hid b1
  have HW := Lib.hid hW
  have zlt := o1.lt
  have hpl : ps.length ≤ 4611686018427387903 := by obtain ⟨_, _, _, h, _⟩ := Row.get kp; exact h
  clear o1 b1 hW kp kv kb hfc0 hG
  go_enter Tryd.func4, Tryd.ntmps4
  go_wp2_with fail
  rw [HW.out]
  refine (L12.awake12_any W).mono ?_
  rintro e w1 ⟨rfl, hb1⟩
  have HB1 := Lib.hid (HB.out.trans (hb1.mono HB.out.size))
  have HO1 := Lib.hid (HO.out.below hb1 HO.out.lt)
  have QF := Lib.hid (few12_any 0 w.heap.size w1 _ _ (FuncC.move (Still.of_below HB1.out) HF0.out) HB1.out.size (func_s12 HG.out))
  clear hb1
  have f0 := HO1.out.cell 0
  have f1 := HO1.out.cell 1
  have f2 := HO1.out.cell 2
  have f3 := HO1.out.cell 3
  have f4 := HO1.out.cell 4
  simp only [List.getElem?_cons_succ, List.getElem?_cons_zero] at f0 f1 f2 f3 f4
  go_wp2_with fail
  refine QF.out.mono ?_
  rintro e w2 ⟨b2, rfl, hfew, hb2⟩
  have HB2 := Lib.hid (HB1.out.trans (hb2.mono HB1.out.size))
  have HO2 := Lib.hid (HO1.out.below hb2 HO1.out.lt)
  clear hb2 f0 f1 f2 f3 f4
  cases b2 with
  | false =>
    clear hfew
    go_wp2_with fail
    refine (L12.awake12_any w2).mono ?_
    rintro e w7 ⟨rfl, hb9⟩
    have HB9 := Lib.hid (HB2.out.trans (hb9.mono HB2.out.size))
    clear hb9
    go_wp2_with fail
    go_ret
    exact ⟨rfl, HB9.out⟩
  | true =>
    have HFW := Lib.hid (hfew rfl)
    have hlb : bl.length ≤ 30 := HFW.out.2.2.1
    have HU := Lib.hid (uok_of HG.out HFW.out)
    have HOK := Lib.hid (fok_of HG.out HFW.out)
    have hn0 : 0 < bl.length := HOK.out.pos
    obtain ⟨b, hx⟩ : ∃ y, bl[0]? = some y := ⟨_, List.getElem?_eq_getElem hn0⟩
    have HX := Lib.hid hx
    clear hfew
    have f0 := HO2.out.cell 0
    have f1 := HO2.out.cell 1
    have f2 := HO2.out.cell 2
    have f3 := HO2.out.cell 3
    have f4 := HO2.out.cell 4
    simp only [List.getElem?_cons_succ, List.getElem?_cons_zero] at f0 f1 f2 f3 f4
    clear hx
    obtain ⟨gF, hgF⟩ : ∃ g, w2.heap.size = g := ⟨_, rfl⟩
    obtain ⟨Wp, hWp⟩ : ∃ Wp, (w2.alloc (.cells #[str nm, str rs, .slice A1 ps.length k1, .slice A2 vs.length k2, .slice A3 bl.length k3] 37)).alloc (.cells #[.bool false, .slice none 0 0, .slice none 0 0, .slice none 0 0, .slice (some ⟨gF, 0, none⟩) 1 1] 27) = Wp := ⟨_, rfl⟩
    have HBq := Lib.hid (show Below w2.heap.size w2 Wp by rw [← hWp]; exact ((Below.refl _ _).alloc (Nat.le_refl _) _).alloc (by simp) _)
    have HBp := Lib.hid (HB2.out.trans (HBq.out.mono HB2.out.size))
    have HOg := Lib.hid (show Mem.Own Wp gF 37 [str nm, str rs, .slice A1 ps.length k1, .slice A2 vs.length k2, .slice A3 bl.length k3] by rw [← hWp, ← hgF]; exact (Mem.Own.made w2 37 [str nm, str rs, .slice A1 ps.length k1, .slice A2 vs.length k2, .slice A3 bl.length k3]).alloc _)
    have HOp := Lib.hid (show Mem.Own Wp (gF + 1) 27 [.bool false, .slice none 0 0, .slice none 0 0, .slice none 0 0, .slice (some ⟨gF, 0, none⟩) 1 1] by
      rw [← hWp]
      have e : (w2.alloc (.cells #[str nm, str rs, .slice A1 ps.length k1, .slice A2 vs.length k2, .slice A3 bl.length k3] 37)).heap.size = gF + 1 := by simp [hgF]
      have := Mem.Own.made (w2.alloc (.cells #[str nm, str rs, .slice A1 ps.length k1, .slice A2 vs.length k2, .slice A3 bl.length k3] 37)) 27 [.bool false, .slice none 0 0, .slice none 0 0, .slice none 0 0, .slice (some ⟨gF, 0, none⟩) 1 1]
      rwa [e] at this)
    have hsp : Wp.heap.size = gF + 2 := by rw [← hWp]; simp [hgF]
    have hzw : w.heap.size < gF := by rw [← hgF]; exact HO2.out.lt
    have HOx := Lib.hid (HO2.out.below HBq.out HO2.out.lt)
    have HEp := Lib.hid (show w2.heap.size = gF ∧ (w2.alloc (.cells #[str nm, str rs, .slice A1 ps.length k1, .slice A2 vs.length k2, .slice A3 bl.length k3] 37)).alloc (.cells #[.bool false, .slice none 0 0, .slice none 0 0, .slice none 0 0, .slice (some ⟨gF, 0, none⟩) 1 1] 27) = Wp from ⟨hgF, hWp⟩)
    obtain ⟨sT, hsT⟩ : ∃ s : ByteArray, (⟨(joinV ([(⟨nm, rs, ps, vs, bl⟩ : Api.Func)].flatMap Ln6.funcL)).toArray⟩ : ByteArray) = s := ⟨_, rfl⟩
    have est : (sT.toList == sT.toList) = true := by simp
    have HL0 := Lib.hid hL
    have QL := Lib.hid (fun (W' : World) (hb : Below Wp.heap.size Wp W') => (Ln6.lines_one (hi := Wp.heap.size) (w := W') ⟨nm, rs, ps, vs, bl⟩ (HOg.out.below hb (by omega)) (by omega) (FuncC.move (Still.wide W' (Nat.le_refl _) HBp.out.size) (FuncC.move (Still.of_below (HBp.out.trans (hb.mono HBp.out.size))) HF0.out)) hb.size (Ln6.laid_keep HL0.out (HBp.out.trans (hb.mono HBp.out.size)) HL0.out.lt) HG.out (Nat.le_trans HFW.out.1 (by omega))).mono (R' := fun e w'' => e = .returned (.string sT) ∧ Below W'.heap.size W' w'') (by rintro e w'' ⟨rfl, hb9⟩; exact ⟨by rw [← hsT], hb9⟩))
    have QI := Lib.hid (fun (W' : World) (hb : Below Wp.heap.size Wp W') => ins_any HU.out 0 w.heap.size W' _ _ (FuncC.move (Still.of_below (HBp.out.trans (hb.mono HBp.out.size))) HF0.out) (HBp.out.trans (hb.mono HBp.out.size)).size HOK.out)
    clear hsT hWp hgF
    go_wp2_with fail
    rw [HEp.out.1, HEp.out.2]
    clear f0 f1 f2 f3 f4
    have r0 := HOp.out.cell 0
    have r1 := HOp.out.cell 1
    have r2 := HOp.out.cell 2
    have r3 := HOp.out.cell 3
    have r4 := HOp.out.cell 4
    simp only [List.getElem?_cons_succ, List.getElem?_cons_zero] at r0 r1 r2 r3 r4
    go_wp2_with fail
    with_reducible refine (QL.out _ (Below.refl _ _)).mono ?_
    rintro e w5 ⟨rfl, hb5⟩
    have HB5 := Lib.hid hb5
    have hs5 := hb5.size
    have HO5 := Lib.hid (HOx.out.below hb5 HOx.out.lt)
    clear hb5 r0 r1 r2 r3 r4
    have f0 := HO5.out.cell 0
    have f1 := HO5.out.cell 1
    have f2 := HO5.out.cell 2
    have f3 := HO5.out.cell 3
    have f4 := HO5.out.cell 4
    simp only [List.getElem?_cons_succ, List.getElem?_cons_zero] at f0 f1 f2 f3 f4
    go_wp2_with fail
    with_reducible refine (QI.out _ HB5.out).mono ?_
    rintro e w6 ⟨Bv, rfl, hr6, hb6⟩
    try simp only at hr6
    have HR6 := Lib.hid (Ln6.RowsW.of hr6)
    have HB6 := Lib.hid (Below.refl w6.heap.size w6)
    have HB56 := Lib.hid hb6
    have HBx := Lib.hid (show Below w5.heap.size w5 w6 from hb6)
    have hs6 := hb6.size
    clear hr6 hb6 f0 f1 f2 f3 f4
    go_wp2_with fail
    go_loopw [6] (fun iv wr => ∃ i : Nat, i ≤ bl.length ∧ iv = .int .i64 i ∧ Hid (Ln6.RowsW wr w5.heap.size Bv bl.length) ∧ Hid (Below w5.heap.size w5 wr)) (fun iv _ => bl.length - (intOf iv).toNat)
    case atStart => exact ⟨0, Nat.zero_le _, rfl, HR6, HBx⟩
    case round =>
    clear HR6 HB6 HBx HB56
    obtain ⟨i, hi, rfl, HR, HBr⟩ := hrel
    by_cases hlt : i < bl.length
    · obtain ⟨AI, mI, cI, xs, hcI, hoI⟩ := HR.out.at hlt
      have hmI : mI ≤ 9223372036854775807 := by
        rcases hoI.2 with ⟨_, h0⟩ | ⟨_, cap, _, e, _, _, h1, h2, _⟩
        · omega
        · unfold maxLen at h2; omega
      have HR0 := Lib.hid HR.out
      have HC0 := Lib.hid hcI
      clear hcI hoI
      have hcI := HC0.out
      go_wp2_with fail
      go_loopw [7] (fun kv wr => ∃ k : Nat, k ≤ mI ∧ kv = .int .i64 k ∧ Hid (Ln6.RowsW wr w5.heap.size Bv bl.length) ∧ Hid (wr.cell? ⟨Bv, i, none⟩ = some (.slice AI mI cI)) ∧ Hid (Below w5.heap.size w5 wr)) (fun kv _ => mI - (intOf kv).toNat)
      case atStart => exact ⟨0, Nat.zero_le _, rfl, HR0, HC0, HBr⟩
      case round =>
      clear HR HR0 HC0 HBr hcI
      obtain ⟨k, hk, rfl, HR, HC, HBr⟩ := hrel
      have hcI := HC.out
      by_cases hkt : k < mI
      · obtain ⟨g, u, rfl, hg1, hg2, hgc, hgz, hst⟩ := HR.out.spoil hlt HC.out hkt
        have HST := Lib.hid (hst (.string ⟨#[115, 112, 111, 105, 108, 116]⟩))
        have HBn := Lib.hid (HBr.out.setCell (p := ⟨g, k, none⟩) hg1 (.string ⟨#[115, 112, 111, 105, 108, 116]⟩))
        clear hst
        go_wp2_with fail
        go_roundw
        case rel => exact ⟨k + 1, by omega, by go_num, Lib.hid HST.out.1, Lib.hid HST.out.2, HBn⟩
        case measure => simp [intOf]; omega
      · obtain rfl : k = mI := by omega
        go_wp2_with fail
        go_roundw
        case rel => exact ⟨i + 1, by omega, by go_num, HR, HBr⟩
        case measure => simp [intOf]; omega
    · obtain rfl : i = bl.length := by omega
      have HBw := Lib.hid (HB5.out.trans (HBr.out.mono hs5))
      have HOw := Lib.hid (HO5.out.below HBr.out HO5.out.lt)
      have HOv := Lib.hid (HOp.out.below HBw.out (by omega))
      have r0 := HOv.out.cell 0
      have r1 := HOv.out.cell 1
      have r2 := HOv.out.cell 2
      have r3 := HOv.out.cell 3
      have r4 := HOv.out.cell 4
      simp only [List.getElem?_cons_succ, List.getElem?_cons_zero] at r0 r1 r2 r3 r4
      have f0 := HOw.out.cell 0
      have f1 := HOw.out.cell 1
      have f2 := HOw.out.cell 2
      have f3 := HOw.out.cell 3
      have f4 := HOw.out.cell 4
      simp only [List.getElem?_cons_succ, List.getElem?_cons_zero] at f0 f1 f2 f3 f4
      go_wp2_with fail
      go_region_law (first
        | (go_simp; go_at_call 7; (with_reducible refine (QL.out _ HBw.out.drew).mono ?_); rintro e w7 ⟨rfl, hb7⟩; have HB7 := Lib.hid (HBw.out.drew.trans (hb7.mono (Nat.le_trans hs5 HBr.out.size))); have HOw7 := Lib.hid (HOw.out.drew.below hb7 HOw.out.lt); have f0 := HOw7.out.cell 0; have f1 := HOw7.out.cell 1; have f2 := HOw7.out.cell 2; have f3 := HOw7.out.cell 3; have f4 := HOw7.out.cell 4; simp only [List.getElem?_cons_succ, List.getElem?_cons_zero] at f0 f1 f2 f3 f4)
        | (go_simp; go_at_call 12; (with_reducible refine (QI.out _ HB7.out).mono ?_); rintro e w8 ⟨Bv8, rfl, -, hb8⟩; have HB8 := Lib.hid (HB7.out.trans (hb8.mono HB7.out.size)); have HOw8 := Lib.hid (HOw7.out.below hb8 HOw7.out.lt); have f4 := HOw8.out.cell 4; simp only [List.getElem?_cons_succ, List.getElem?_cons_zero] at f4))
      all_goals (
        have HBE := Lib.hid (HBp.out.trans (HB8.out.mono HBp.out.size))
        go_wp2_with fail
        go_ret
        exact ⟨by first | rfl | kernel_rfl | (simp; done) | go_simp, HBE.out⟩)

abbrev laids {H : Type} : List (String × DataW H) := [("lateen/lateenref05.words", Rows.laid_lateen_lateenref05_words)]
theorem door_met (os : Os) (args : Array Value) : laidMetH Tryd.prog laids ((World.doorLaid Tryd.prog 400 os).forCall (fun _ _ => 0) ⟨#[], args, []⟩).memory :=
  laidMetH_of_parts3 (fuel := 8) (laidMet_of_run' 8 (by kernel_rfl) (by kernel_rfl)) (by kernel_rfl) (by kernel_rfl)

set_option maxRecDepth 100000 in
theorem lifted (os : Os) (started : os.Started) (H : Type) (enc : TypeId × Value → H) :
    ReturnsInHanded {} Tryd.checked os 4 .any (fun w args => (Rows.liveKeepsSpec.pre enc Tryd.prog Tryd.f4 [] false w args ∧ laidMetH Tryd.prog laids w) ∧ sizedMet enc Tryd.prog Tryd.f4 (OpenSpec.ofChange Rows.liveKeepsSpec) false w args)
      (Rows.liveKeepsSpec.post enc Tryd.prog Tryd.f4 false true false false) := by
  refine returnsInHanded_of_change_and (C := Tryd.checked) (X := fun w _ => laidMetH Tryd.prog laids w) (fun _ _ _ hh h => h.of_heap hh) (by kernel_rfl) started (by kernel_rfl) Tryd.func4
    (ChangeSpec.witness_shaped (enc := enc) (C := Tryd.checked) (os := os) (X := fun w _ => laidMetH Tryd.prog laids w) false (World.doorLaid Tryd.prog 400 os) #[.agg #[.string ⟨#[]⟩, .string ⟨#[]⟩, .slice none 0 0, .slice none 0 0, .slice none 0 0]] 8 rfl (World.shaped_of_RefB (by kernel_rfl) (by kernel_rfl)) (by kernel_rfl) (by kernel_rfl) (by kernel_rfl) (door_met os _)) ?_
  intro W base args ds gs before hval0 hW _ hsz0 hL0 _
  have hval : ∀ (j : Nat) t v, Tryd.f4.params[j]? = some t → args[j]? = some v → Value.okWide Tryd.prog W .any base t v := hval0
  have hW' := hW
  obtain ⟨p, q, hA0, hV, rfl, hfz, hnd⟩ := hW
  have hsz : (DataW.weightsEach Tryd.prog (Tryd.f4.params.toList ++ Rows.liveKeepsSpec.plain.varTypes Tryd.prog) (ds ++ gs)).all (· ≤ reachBytes) = true := hsz0
  have hA : DataW.TrodAll enc Tryd.prog W 0 (fun _ => true) true Tryd.f4.params.toList args.toList ds p := hA0
  rw [Tryd.params4] at hA hval hsz
  obtain ⟨v0, vs0, d0, ds0, p0, q0, hargs, rfl, rfl, h0, r0⟩ := trodAll_cons hA
  obtain ⟨rfl, rfl, rfl⟩ := trodAll_nil r0
  obtain rfl : args = #[v0] := by cases args; simp_all
  obtain ⟨rfl, rfl⟩ := trodVars_none hV
  obtain ⟨xs0, hG0⟩ := OpenP.open_func hsz (j := 0) rfl rfl (hval 0 37 v0 rfl rfl) h0
  clear hA0 hval0
  simp only [List.append_nil] at hW'
  refine (walk v0 xs0 hG0 (R05.laid_words hL0)).mono fun e W' ⟨he, hg⟩ => ?_
  subst he
  exact ⟨_, rfl, Shell.lawPost (by kernel_rfl) rfl (by kernel_rfl) rfl Tryd.underlying4 hW' rfl hg⟩

theorem row_holds : Rows.LiveKeepsSaid :=
  OpenClaim.holds_of_wide 4 Tryd.f4 rfl rfl rfl rfl rfl rfl rfl ⟨rfl, rfl, rfl, rfl, rfl⟩ rfl rfl rfl rfl rfl (by kernel_rfl) Tryd.func4 (by kernel_rfl)
    (of_decide_eq_true (by kernel_rfl)) (by unfold Func.isWrapper; first | (rw [if_pos (by decide +kernel)]; kernel_rfl) | (rw [if_neg (by decide +kernel)]; exact ⟨rfl, rfl⟩))
    (fun os started H enc _ => lifted os started H enc)

/-- The statement. -/
theorem proved : Rows.LiveKeepsCardSaid :=
  Claim7.holds_tied_plain_at .later [] [.data] true Rows.liveKeepsCard.stood.harness true
    row_holds (fun _ h => by cases h) (by kernel_rfl) (fun _ h => by cases h) liveKeeps_row_tie rfl ⟨rfl, rfl⟩ (by kernel_rfl) rfl
    (fun f fn hf hfn => by
      obtain rfl : f = 4 := Option.some.inj ((show Tryd.prog.funcNamed "lateen/lateenlaw12.LiveKeeps" = some 4 by kernel_rfl).symm.trans hf) |>.symm
      obtain rfl : fn = Tryd.f4 := (Option.some.inj (Tryd.func4.symm.trans hfn)).symm
      exact ⟨by kernel_rfl, fun j t ht => by
        rw [Tryd.params4] at ht
        have hm : t ∈ [37] := by simpa using Array.mem_of_getElem? ht
        have hall : ([37].all fun u => !Tryd.prog.wantsStandIn u) = true := by kernel_rfl
        exact (show Tryd.prog.wantsStandIn t = false by simpa using List.all_eq_true.1 hall t hm)⟩)
    (by kernel_rfl)
end Go.Proofs.YtdgmdpphimenjaaDoor.liveKeeps
