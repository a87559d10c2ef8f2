/-
  The law ShowKeeps: a program that is shown stays as it was.
-/
import Derived.Test.YtdgmdpphimenjaaDoorRows
import Derived.Test.YtdgmdpphimenjaaDoorLaG
import Derived.Test.YtdgmdpphimenjaaDoorR1
import Derived.Test.YtdgmdpphimenjaaDoorOpenP
import Derived.Test.YtdgmdpphimenjaaDoorLiG
import Derived.Deep.RegionLaw
import Derived.Test.YtdgmdpphimenjaaDoorShell
import Derived.ProofKit
import Derived.OpenShut
import Derived.SizedLaws
import Derived.Test.YtdgmdpphimenjaaDoorOfG
import Derived.Test.YtdgmdpphimenjaaDoorTie
import Derived.Test.YtdgmdpphimenjaaDoorCards
import Derived.LaidMore
import Derived.Stop.Joined
import Derived.SevenTiedAt
namespace Go.Proofs.YtdgmdpphimenjaaDoor.showKeeps
open Go.ChangeShapes Go.WideShapes Go.ChangeAt Go.RowKit
open Api Mem
set_option maxRecDepth 100000 in
set_option maxHeartbeats 16000000 in
theorem walk (v : Value) (xs : Prog × List Value) {w : World} (h : v = .agg xs.2.toArray ∧ ProgC 0 w.heap.size w xs.2 xs.1 ∧ OpenP.progG xs.1) (hL : R05.Laid w) (hS : Rd5.LaidS w) :
    Calls Tryd.prog 3 #[v] w fun e w' => e = .returned (.bool true) ∧ Below w.heap.size w w' := by
  obtain ⟨rfl, hp, hg⟩ := h
  obtain ⟨p, cs⟩ := xs
  simp only at hp hg ⊢
  have hp0 := hp
  obtain ⟨u1, u2, u3, u4, rfl, k1, k2, k3, k4⟩ := hp
  obtain ⟨B1, c1, rfl⟩ := k1.form
  obtain ⟨B2, c2, rfl⟩ := k2.form
  obtain ⟨B3, c3, rfl⟩ := k3.form
  obtain ⟨B4, c4, rfl⟩ := k4.form
  obtain ⟨W, hW⟩ : ∃ W, w.alloc (.cells #[.bool p.ssa, .slice B1 p.classes.length c1, .slice B2 p.globals.length c2, .slice B3 p.externs.length c3, .slice B4 p.funcs.length c4] 27) = W := ⟨_, rfl⟩
  obtain ⟨oW, bW, zW⟩ := Sh6.boxed1 (c := [.bool p.ssa, .slice B1 p.classes.length c1, .slice B2 p.globals.length c2, .slice B3 p.externs.length c3, .slice B4 p.funcs.length c4]) hW
  have HW := Lib.hid hW
  have HO := Lib.hid oW
  have HB := Lib.hid bW
  have HL := Lib.hid hL
  have HS := Lib.hid hS
  have HP := Lib.hid hp0
  have HG := Lib.hid hg
  have HZ : w.heap.size < W.heap.size := oW.lt
  have QA := Lib.hid (fun w' (hb : Below w.heap.size w w') => L06.awake_any w' (HS.out.below hb (Nat.le_refl _)))
  have QF := Lib.hid (fun w' (hb : Below w.heap.size w w') => Few6.few_any 0 w.heap.size w' _ p (ProgC.move (Still.of_below hb) HP.out) hb.size 20000 (by omega) (Cv6.prog_s HG.out))
  obtain ⟨sT, hsT⟩ : ∃ s : ByteArray, (⟨(LinesM.joinV (Ln6.progL p)).toArray⟩ : ByteArray) = s := ⟨_, rfl⟩
  have est : (sT.toList == sT.toList) = true := by simp
  have QL := Lib.hid (fun (hf : Few6.fewB 20000 p = true) w' (hb : Below w.heap.size w w') => (Ln6.lines6_any (lo := 0) (hi := w.heap.size) (w := w') _ p (ProgC.move (Still.of_below hb) HP.out) hb.size (Ln6.laid_keep HL.out hb HL.out.lt) HG.out (fun f hm => Nat.le_trans ((Ln6.few_parts hf).2.2 f hm) (by omega)) (Ln6.prog_fit HG.out hf)).mono (R' := fun e w'' => e = .returned (.string sT) ∧ Below w'.heap.size w' w'') (by rintro e w'' ⟨rfl, hb9⟩; exact ⟨by rw [← hsT], hb9⟩))
  have QT := Lib.hid (fun (hf : Few6.fewB 20000 p = true) w' (hb : Below w.heap.size w w') => Sh6.text_any 0 w.heap.size w' _ p (ProgC.move (Still.of_below hb) HP.out) hb.size (HS.out.below hb (Nat.le_refl _)) (Cv6.bd_few hf) (Cv6.prog_i HG.out) (Cv6.prog_e HG.out))
  have QR := Lib.hid (fun (hf : Few6.fewB 20000 p = true) w' (hb : Below w.heap.size w w') => Sh6.prog_any 0 w.heap.size w' _ p (ProgC.move (Still.of_below hb) HP.out) hb.size (HS.out.below hb (Nat.le_refl _)) (Cv6.bd_few hf))
  clear hW oW bW hp0 k1 k2 k3 k4 hsT hL hS hg
  go_enter Tryd.func3, Tryd.ntmps3
  go_wp2_with fail
  rw [HW.out]
  with_reducible refine (QA.out W HB.out).mono ?_
  rintro e w1 ⟨rfl, hb1⟩
  have HB1 := Lib.hid (HB.out.trans (hb1.mono HB.out.size))
  have HO1 := Lib.hid (HO.out.below hb1 HO.out.lt)
  clear hb1
  have QF1 := Lib.hid (QF.out w1 HB1.out)
  rcases hfew : Few6.fewB 20000 p with _ | _
  · rw [hfew] at QF1
    have HFEW := Lib.hid hfew
    clear hfew
    have g0 := HO1.out.cell 0
    have g1 := HO1.out.cell 1
    have g2 := HO1.out.cell 2
    have g3 := HO1.out.cell 3
    have g4 := HO1.out.cell 4
    simp only [List.getElem?_cons_succ, List.getElem?_cons_zero] at g0 g1 g2 g3 g4
    go_wp2_with fail
    refine (QF1.out).mono ?_
    rintro e w2 ⟨rfl, hb2⟩
    have HB2 := Lib.hid (HB1.out.trans (hb2.mono HB1.out.size))
    have HO2 := Lib.hid (HO1.out.below hb2 HO1.out.lt)
    clear hb2 g0 g1 g2 g3 g4
    go_wp2_with fail
    with_reducible refine (QA.out w2 HB2.out).mono ?_
    rintro e w3 ⟨rfl, hb3⟩
    have HB3 := Lib.hid (HB2.out.trans (hb3.mono HB2.out.size))
    clear hb3
    go_wp2_with fail
    go_ret
    exact ⟨rfl, HB3.out⟩
  · rw [hfew] at QF1
    have HFEW := Lib.hid hfew
    clear hfew
    have g0 := HO1.out.cell 0
    have g1 := HO1.out.cell 1
    have g2 := HO1.out.cell 2
    have g3 := HO1.out.cell 3
    have g4 := HO1.out.cell 4
    simp only [List.getElem?_cons_succ, List.getElem?_cons_zero] at g0 g1 g2 g3 g4
    go_wp2_with fail
    refine (QF1.out).mono ?_
    rintro e w2 ⟨rfl, hb2⟩
    have HB2 := Lib.hid (HB1.out.trans (hb2.mono HB1.out.size))
    have HO2 := Lib.hid (HO1.out.below hb2 HO1.out.lt)
    clear hb2 g0 g1 g2 g3 g4
    have g0 := HO2.out.cell 0
    have g1 := HO2.out.cell 1
    have g2 := HO2.out.cell 2
    have g3 := HO2.out.cell 3
    have g4 := HO2.out.cell 4
    simp only [List.getElem?_cons_succ, List.getElem?_cons_zero] at g0 g1 g2 g3 g4
    go_wp2_with fail
    with_reducible refine (QL.out HFEW.out w2 HB2.out).mono ?_
    rintro e w3 ⟨rfl, hb3⟩
    have HB3 := Lib.hid (HB2.out.trans (hb3.mono HB2.out.size))
    have HO3 := Lib.hid (HO2.out.below hb3 HO2.out.lt)
    clear hb3 g0 g1 g2 g3 g4
    have g0 := HO3.out.cell 0
    have g1 := HO3.out.cell 1
    have g2 := HO3.out.cell 2
    have g3 := HO3.out.cell 3
    have g4 := HO3.out.cell 4
    simp only [List.getElem?_cons_succ, List.getElem?_cons_zero] at g0 g1 g2 g3 g4
    go_wp2_with fail
    with_reducible refine (QT.out HFEW.out w3 HB3.out).mono ?_
    rintro e w4 ⟨rfl, hb4⟩
    have HB4 := Lib.hid (HB3.out.trans (hb4.mono HB3.out.size))
    have HO4 := Lib.hid (HO3.out.below hb4 HO3.out.lt)
    clear hb4 g0 g1 g2 g3 g4
    have g0 := HO4.out.cell 0
    have g1 := HO4.out.cell 1
    have g2 := HO4.out.cell 2
    have g3 := HO4.out.cell 3
    have g4 := HO4.out.cell 4
    simp only [List.getElem?_cons_succ, List.getElem?_cons_zero] at g0 g1 g2 g3 g4
    go_wp2_with fail
    with_reducible refine (QR.out HFEW.out w4 HB4.out).mono ?_
    rintro e w5 ⟨rfl, hb5⟩
    have HB5 := Lib.hid (HB4.out.trans (hb5.mono HB4.out.size))
    have HO5 := Lib.hid (HO4.out.below hb5 HO4.out.lt)
    clear hb5 g0 g1 g2 g3 g4
    have g0 := HO5.out.cell 0
    have g1 := HO5.out.cell 1
    have g2 := HO5.out.cell 2
    have g3 := HO5.out.cell 3
    have g4 := HO5.out.cell 4
    simp only [List.getElem?_cons_succ, List.getElem?_cons_zero] at g0 g1 g2 g3 g4
    go_wp2_with fail
    with_reducible refine (QL.out HFEW.out w5 HB5.out).mono ?_
    rintro e w6 ⟨rfl, hb6⟩
    have HB6 := Lib.hid (HB5.out.trans (hb6.mono HB5.out.size))
    have HO6 := Lib.hid (HO5.out.below hb6 HO5.out.lt)
    clear hb6 g0 g1 g2 g3 g4
    go_wp2_with fail
    go_ret
    exact ⟨by first | rfl | kernel_rfl | (simp; done) | go_simp, HB6.out⟩

abbrev laids {H : Type} : List (String × DataW H) := [("lateen/lateenref05.words", Rows.laid_lateen_lateenref05_words), ("lateen/syntax.words", Rows.laid_lateen_syntax_words)]
theorem door_met (os : Os) (args : Array Value) : laidMetH Tryd.prog laids ((World.doorLaid Tryd.prog 400 os).forCall (fun _ _ => 0) ⟨#[], args, []⟩).memory :=
  laidMetH_of_parts3 (fuel := 8) (laidMet_of_run' 8 (by kernel_rfl) (by kernel_rfl)) (by kernel_rfl) (by kernel_rfl)

set_option maxRecDepth 100000 in
theorem lifted (os : Os) (started : os.Started) (H : Type) (enc : TypeId × Value → H) :
    ReturnsInHanded {} Tryd.checked os 3 .any (fun w args => (Rows.showKeepsSpec.pre enc Tryd.prog Tryd.f3 [] false w args ∧ laidMetH Tryd.prog laids w) ∧ sizedMet enc Tryd.prog Tryd.f3 (OpenSpec.ofChange Rows.showKeepsSpec) false w args)
      (Rows.showKeepsSpec.post enc Tryd.prog Tryd.f3 false true false false) := by
  refine returnsInHanded_of_change_and (C := Tryd.checked) (X := fun w _ => laidMetH Tryd.prog laids w) (fun _ _ _ hh h => h.of_heap hh) (by kernel_rfl) started (by kernel_rfl) Tryd.func3
    (ChangeSpec.witness_shaped (enc := enc) (C := Tryd.checked) (os := os) (X := fun w _ => laidMetH Tryd.prog laids w) false (World.doorLaid Tryd.prog 400 os) #[.agg #[.bool false, .slice none 0 0, .slice none 0 0, .slice none 0 0, .slice none 0 0]] 8 rfl (World.shaped_of_RefB (by kernel_rfl) (by kernel_rfl)) (by kernel_rfl) (by kernel_rfl) (by kernel_rfl) (door_met os _)) ?_
  intro W base args ds gs before hval0 hW _ hsz0 hL0 _
  have hval : ∀ (j : Nat) t v, Tryd.f3.params[j]? = some t → args[j]? = some v → Value.okWide Tryd.prog W .any base t v := hval0
  have hW' := hW
  obtain ⟨p, q, hA0, hV, rfl, hfz, hnd⟩ := hW
  have hsz : (DataW.weightsEach Tryd.prog (Tryd.f3.params.toList ++ Rows.showKeepsSpec.plain.varTypes Tryd.prog) (ds ++ gs)).all (· ≤ reachBytes) = true := hsz0
  have hA : DataW.TrodAll enc Tryd.prog W 0 (fun _ => true) true Tryd.f3.params.toList args.toList ds p := hA0
  rw [Tryd.params3] at hA hval hsz
  obtain ⟨v0, vs0, d0, ds0, p0, q0, hargs, rfl, rfl, h0, r0⟩ := trodAll_cons hA
  obtain ⟨rfl, rfl, rfl⟩ := trodAll_nil r0
  obtain rfl : args = #[v0] := by cases args; simp_all
  obtain ⟨rfl, rfl⟩ := trodVars_none hV
  obtain ⟨xs0, hG0⟩ := OpenP.open_prog hsz (j := 0) rfl rfl (hval 0 27 v0 rfl rfl) h0
  clear hA0 hval0
  simp only [List.append_nil] at hW'
  refine (walk v0 xs0 hG0 (R05.laid_words2 hL0) (Rd5.laid_swords2 hL0)).mono fun e W' ⟨he, hg⟩ => ?_
  subst he
  exact ⟨_, rfl, Shell.lawPost (by kernel_rfl) rfl (by kernel_rfl) rfl Tryd.underlying4 hW' rfl hg⟩

theorem row_holds : Rows.ShowKeepsSaid :=
  OpenClaim.holds_of_wide 3 Tryd.f3 rfl rfl rfl rfl rfl rfl rfl ⟨rfl, rfl, rfl, rfl, rfl⟩ rfl rfl rfl rfl rfl (by kernel_rfl) Tryd.func3 (by kernel_rfl)
    (of_decide_eq_true (by kernel_rfl)) (by unfold Func.isWrapper; first | (rw [if_pos (by decide +kernel)]; kernel_rfl) | (rw [if_neg (by decide +kernel)]; exact ⟨rfl, rfl⟩))
    (fun os started H enc _ => lifted os started H enc)

/-- The statement. -/
theorem proved : Rows.ShowKeepsCardSaid :=
  Claim7.holds_tied_plain_at .later [] [.data, .data] true Rows.showKeepsCard.stood.harness true
    row_holds (fun _ h => by cases h) (by kernel_rfl) (fun _ h => by cases h) showKeeps_row_tie rfl ⟨rfl, rfl⟩ (by kernel_rfl) rfl
    (fun f fn hf hfn => by
      obtain rfl : f = 3 := Option.some.inj ((show Tryd.prog.funcNamed "lateen/lateenlaw06.ShowKeeps" = some 3 by kernel_rfl).symm.trans hf) |>.symm
      obtain rfl : fn = Tryd.f3 := (Option.some.inj (Tryd.func3.symm.trans hfn)).symm
      exact ⟨by kernel_rfl, fun j t ht => by
        rw [Tryd.params3] at ht
        have hm : t ∈ [27] := by simpa using Array.mem_of_getElem? ht
        have hall : ([27].all fun u => !Tryd.prog.wantsStandIn u) = true := by kernel_rfl
        exact (show Tryd.prog.wantsStandIn t = false by simpa using List.all_eq_true.1 hall t hm)⟩)
    (by kernel_rfl)
end Go.Proofs.YtdgmdpphimenjaaDoor.showKeeps
