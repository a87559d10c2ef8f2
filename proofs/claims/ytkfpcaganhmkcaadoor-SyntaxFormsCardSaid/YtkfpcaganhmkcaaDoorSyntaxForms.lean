/-
  whatever text is read, each instruction has the words that its form asks for, and each function a block, each block an end; nothing is more than its limit. No condition.
-/
import Derived.Test.YtkfpcaganhmkcaaDoorBackP
import Derived.Test.YtkfpcaganhmkcaaDoorRight5
import Derived.Test.YtkfpcaganhmkcaaDoorCallsS
import Derived.Test.YtkfpcaganhmkcaaDoorShell
import Derived.ProofKit
import Derived.OpenShut
import Derived.SizedLaws
import Derived.Test.YtkfpcaganhmkcaaDoorLaidS
import Derived.Test.YtkfpcaganhmkcaaDoorTie
import Derived.Test.YtkfpcaganhmkcaaDoorCards
import Derived.LaidMore
import Derived.Stop.Joined
import Derived.SevenTiedAt
namespace Go.Proofs.YtkfpcaganhmkcaaDoor.syntaxForms
open Go.ChangeShapes Go.WideShapes Go.ChangeAt Go.RowKit
open Api Mem
theorem zero_row {α : Type} {lo hi size : Nat} {w : World} {P : List Value → α → Prop} : Row lo hi w size P (.slice none 0 0) ([] : List α) := ⟨none, 0, 0, 0, 0, rfl, rfl, by omega, by omega, fun i x h => by simp at h⟩
theorem zero_prog (w : World) : ProgC 0 w.heap.size w [.bool false, .slice none 0 0, .slice none 0 0, .slice none 0 0, .slice none 0 0] ⟨false, [], [], [], []⟩ :=
  ⟨_, _, _, _, rfl, zero_row, zero_row, zero_row, zero_row⟩
set_option maxRecDepth 100000 in
set_option maxHeartbeats 8000000 in
theorem walk_err (s : ByteArray) (hs : s.size ≤ maxLen) (x : Nat × Int) (hx : Rd5.textE s.data.toList = .error x) (w : World) (hL : Rd5.LaidS w) :
    Calls Tryd.prog 4 #[.string s] w fun e w' => e = .returned (.bool true) ∧ Below w.heap.size w w' := by
  have Q := Lib.hid (Rd5.pars_any s w hs hL)
  obtain ⟨k, why⟩ := x
  have HX := Lib.hid hx
  have HL := Lib.hid hL
  have e0 : (why != 0) = true := by
    have := Rd5.textE_errs hx
    simpa using this
  have e1 : decide ((0 : Int) ≤ (k : Int)) = true := decide_eq_true (by omega)
  clear hx hL hs
  go_enter Tryd.func4, Tryd.ntmps4
  go_wp2_with fail
  refine (Q.out).mono ?_; rintro e w1 hP
  obtain ⟨rfl, hb1⟩ := Rd5.parsP_err hP HX.out
  have HB1 := Lib.hid hb1
  have HL1 := Lib.hid (HL.out.below hb1 (Nat.le_refl _))
  clear hP hb1
  go_wp2_with fail
  refine (Rd5.awake_any _ (HL1.out.below ((Below.refl _ _).alloc (Nat.le_refl _) _) (Nat.le_refl _))).mono ?_; rintro e w2 ⟨rfl, hb2⟩
  have HZ := Lib.hid ((Own.made w1 38 [.bool false, .slice none 0 0, .slice none 0 0, .slice none 0 0, .slice none 0 0]).below hb2 (by simp))
  have HB2 := Lib.hid (HB1.out.trans ((Rd5.z_below hb2).mono HB1.out.size))
  have HL2 := Lib.hid (HL.out.below HB2.out (Nat.le_refl _))
  have HS2 := Lib.hid (Rd5.z_size hb2)
  clear hb2
  go_wp2_with fail
  refine (Rd5.awake_any _ HL2.out).mono ?_; rintro e w3 ⟨rfl, hb3⟩
  have HZ3 := Lib.hid (HZ.out.below hb3 HS2.out)
  have HB3 := Lib.hid (HB2.out.trans (hb3.mono HB2.out.size))
  obtain ⟨⟨d0, d1, d2, d3, d4⟩, z0, z1, z2, z3, z4⟩ := Rd5.res_cells HZ3.out
  clear hb3
  go_wp2_with fail
  refine (R06.same_any 0 w3.heap.size 0 w3.heap.size _ _ _ ⟨false, [], [], [], []⟩ (zero_prog _) (zero_prog _) (Nat.le_refl _) (Nat.le_refl _)).mono ?_; rintro e w4 ⟨rfl, hb4⟩
  have HB4 := Lib.hid (HB3.out.trans (hb4.mono HB3.out.size))
  clear hb4
  go_wp2_with fail
  go_ret
  exact ⟨rfl, HB4.out⟩
set_option maxRecDepth 100000 in
set_option maxHeartbeats 16000000 in
theorem walk_ok (s : ByteArray) (hs : s.size ≤ maxLen) (p : Prog) (hx : Rd5.textE s.data.toList = .ok p) (hR : Rd5.progR p = true) (w : World) (hL : Rd5.LaidS w) :
    Calls Tryd.prog 4 #[.string s] w fun e w' => e = .returned (.bool true) ∧ Below w.heap.size w w' := by
  have Q := Lib.hid (Rd5.pars_any s w hs hL)
  have HX := Lib.hid hx
  have HL := Lib.hid hL
  obtain ⟨ssa, classes, globals, externs, funcs⟩ := p
  simp only [Rd5.progR, Rd5.allR, Bool.and_eq_true, decide_eq_true_eq] at hR
  obtain ⟨⟨r1, _⟩, ⟨r2, _⟩, ⟨r3, _⟩, r4, hfn⟩ := hR
  have e1 : decide ((8 : Int) < (classes.length : Int)) = false := decide_eq_false (by omega)
  have e2 : decide ((8 : Int) < (globals.length : Int)) = false := decide_eq_false (by omega)
  have e3 : decide ((8 : Int) < (externs.length : Int)) = false := decide_eq_false (by omega)
  have e4 : decide ((8 : Int) < (funcs.length : Int)) = false := decide_eq_false (by omega)
  have HFN := Lib.hid (List.all_eq_true.1 hfn)
  have HR4 := Lib.hid r4
  clear hx hL hs r1 r2 r3 r4 hfn
  go_enter Tryd.func4, Tryd.ntmps4
  go_wp2_with fail
  refine (Q.out).mono ?_; rintro e w1 hP
  obtain ⟨cs, rfl, hp, hb1⟩ := Rd5.parsP_ok hP HX.out
  obtain ⟨u1, u2, u3, u4, rfl, h1, h2, h3, h4⟩ := hp
  obtain ⟨A1, c1, rfl⟩ := h1.form
  obtain ⟨A2, c2, rfl⟩ := h2.form
  obtain ⟨A3, c3, rfl⟩ := h3.form
  obtain ⟨A4, c4, rfl⟩ := h4.form
  have HB1 := Lib.hid hb1
  have HL1 := Lib.hid (HL.out.below hb1 (Nat.le_refl _))
  have HU := Lib.hid h4
  clear hP hb1 h1 h2 h3 h4
  simp only at HU
  go_wp2_with fail
  refine (Rd5.awake_any _ (HL1.out.below ((Below.refl _ _).alloc (Nat.le_refl _) _) (Nat.le_refl _))).mono ?_; rintro e w2 ⟨rfl, hb2⟩
  have HZ := Lib.hid ((Own.made w1 38 [.bool ssa, .slice A1 classes.length c1, .slice A2 globals.length c2, .slice A3 externs.length c3, .slice A4 funcs.length c4]).below hb2 (by simp))
  have HB12 := Lib.hid (Rd5.z_below hb2)
  have HB2 := Lib.hid (HB1.out.trans (HB12.out.mono HB1.out.size))
  have HL2 := Lib.hid (HL.out.below HB2.out (Nat.le_refl _))
  have HS2 := Lib.hid (Rd5.z_size hb2)
  have HU2 := Lib.hid (Funcs.move (Still.of_below HB12.out) HU.out)
  obtain ⟨⟨d0, d1, d2, d3, d4⟩, z0, z1, z2, z3, z4⟩ := Rd5.res_cells HZ.out
  clear hb2 HL1 HB12
  go_wp2_with fail
  clear e1 e2 e3 e4 d0 d1 d2 d3 z0 z1 z2 z3 z4
  go_loopw [6] (fun i wr => ∃ k : Nat, k ≤ funcs.length ∧ i = .int .i64 k ∧ Hid (Below w2.heap.size w2 wr)) (fun i _ => funcs.length - (intOf i).toNat)
  case atStart => exact ⟨0, Nat.zero_le _, rfl, Lib.hid (Below.refl _ _)⟩
  case round =>
  obtain ⟨k, hk, rfl, HBr⟩ := hrel
  clear d4
  have d4 := Rd5.own_hold (w' := wr) HZ.out HBr.out HS2.out 4 rfl
  by_cases hlt : k < funcs.length
  · obtain ⟨⟨fn, fr, fps, fvs, fbs⟩, hx⟩ : ∃ x, funcs[k]? = some x := ⟨_, List.getElem?_eq_getElem hlt⟩
    obtain ⟨b1, of1, _, hm1, a1, j1⟩ := HU2.out.get
    obtain ⟨rfl, _, hb1⟩ := a1 (by omega)
    obtain ⟨cs1, _, q1, v1, v2, v3, rfl, hv1, hv2, hv3⟩ := j1 k _ hx
    simp only at hv1 hv2 hv3
    obtain ⟨B1, k1, rfl⟩ := hv1.form
    obtain ⟨B2, k2, rfl⟩ := hv2.form
    obtain ⟨B3, k3, rfl⟩ := hv3.form
    obtain ⟨m0, m1, m2, m3, m4⟩ := at5 (cells_later q1 HBr.out (show b1 < w2.heap.size by have := HS2.out; omega))
    have hfR := HFN.out _ (List.mem_of_getElem? hx)
    simp only [Rd5.funcR, Rd5.allR, Bool.and_eq_true, decide_eq_true_eq] at hfR
    obtain ⟨_, _, ⟨g1, _⟩, _, ⟨g2, _⟩, g3, hbl⟩ := hfR
    have e1 : ((fbs.length : Int) == 0) = false := beq_false_of_ne (by omega)
    have e2 : decide ((256 : Int) < (fbs.length : Int)) = false := decide_eq_false (by omega)
    have e3 : decide ((6 : Int) < (fps.length : Int)) = false := decide_eq_false (by omega)
    have HBL := Lib.hid (List.all_eq_true.1 hbl)
    have HV3 := Lib.hid hv3
    clear hv1 hv2 hv3 q1 j1 a1 g1 g2 hbl
    go_wp2_with fail
    obtain ⟨W3, hW3⟩ : ∃ W3, wr.alloc (.cells #[.string ⟨fn.toArray⟩, .string ⟨fr.toArray⟩, .slice B1 fps.length k1, .slice B2 fvs.length k2, .slice B3 fbs.length k3] 45) = W3 := ⟨_, rfl⟩
    rw [hW3]
    obtain ⟨o3', hb3', hz3'⟩ := Rd5.boxed1 (c := [.string ⟨fn.toArray⟩, .string ⟨fr.toArray⟩, .slice B1 fps.length k1, .slice B2 fvs.length k2, .slice B3 fbs.length k3]) hW3
    have O3 := Lib.hid o3'
    have HB3 := Lib.hid (HBr.out.trans (hb3'.mono HBr.out.size))
    have HZ3 := Lib.hid hz3'
    clear o3' hb3' hz3' hW3
    go_loopw [8] (fun i wr2 => ∃ q : Nat, q ≤ fbs.length ∧ i = .int .i64 q ∧ Hid (Below W3.heap.size W3 wr2)) (fun i _ => fbs.length - (intOf i).toNat)
    case atStart => exact ⟨0, Nat.zero_le _, rfl, Lib.hid (Below.refl _ _)⟩
    case round =>
    clear m0 m1 m2 m3 m4
    obtain ⟨q, hq, rfl, HBq⟩ := hrel
    have f4 := Rd5.own_hold (w' := wr) O3.out HBq.out (by rw [HZ3.out]; omega) 4 rfl
    have HQ := Lib.hid (HB3.out.trans (HBq.out.mono HB3.out.size))
    by_cases hlq : q < fbs.length
    · obtain ⟨⟨bn, bp, bc, ⟨tk, ⟨ak, as_, an⟩, td, tn⟩⟩, hy⟩ : ∃ x, fbs[q]? = some x := ⟨_, List.getElem?_eq_getElem hlq⟩
      obtain ⟨b2, of2, _, hm2, a2, j2⟩ := HV3.out.get
      obtain ⟨rfl, _, hb2⟩ := a2 (by omega)
      obtain ⟨cs2, _, q2, y1, y2, cs3, rfl, hy1, hy2, y3, hcs3, hy3⟩ := j2 q _ hy
      subst hcs3
      simp only at hy1 hy2 hy3 q2
      obtain ⟨C1, l1, rfl⟩ := hy1.form
      obtain ⟨C2, l2, rfl⟩ := hy2.form
      obtain ⟨C3, l3, rfl⟩ := hy3.form
      obtain ⟨n0, n1, n2, n3, n4, n5, n6, n7, n8⟩ := at9 (cells_later q2 HQ.out (show b2 < w2.heap.size by have := HS2.out; omega))
      have hbR := HBL.out _ (List.mem_of_getElem? hy)
      simp only [Rd5.blockR, Rd5.allR, Bool.and_eq_true, decide_eq_true_eq] at hbR
      obtain ⟨t1, ⟨_, t2⟩, ⟨_, t3⟩, t4⟩ := hbR
      have t5 := Rd5.fin_kind t4
      simp only at t5
      obtain ⟨sb, hsb⟩ : ∃ s : ByteArray, s = ⟨bn.toArray⟩ := ⟨_, rfl⟩
      have e5 : sb.toList.isEmpty = false := by
        rw [ByteArray.toList_eq, hsb]
        cases bn with
        | nil => revert t1; decide
        | cons a b => rfl
      have hsv : (str bn : Value) = .string sb := by rw [hsb]
      rw [hsv] at n0
      have e6 : decide (tk < 1) = false := decide_eq_false (by omega)
      have e7 : decide (4 < tk) = false := decide_eq_false (by omega)
      have HT2 := Lib.hid (List.all_eq_true.1 t2)
      have HT3 := Lib.hid (List.all_eq_true.1 t3)
      have HY1 := Lib.hid hy1
      have HY2 := Lib.hid hy2
      clear hy1 hy2 hy3 q2 j2 a2 t1 t2 t3 t4 t5 hsv hsb
      go_wp2_with fail
      obtain ⟨W4, hW4⟩ : ∃ W4, wr.alloc (.cells #[.string sb, .slice C1 bp.length l1, .slice C2 bc.length l2, .int .i64 tk, .int .i64 ak, .string ⟨as_.toArray⟩, .int .i64 an, .slice C3 td.length l3, .int .i64 tn] 54) = W4 := ⟨_, rfl⟩
      rw [hW4]
      obtain ⟨o4', hb4', hz4'⟩ := Rd5.boxed1 (c := [.string sb, .slice C1 bp.length l1, .slice C2 bc.length l2, .int .i64 tk, .int .i64 ak, .string ⟨as_.toArray⟩, .int .i64 an, .slice C3 td.length l3, .int .i64 tn]) hW4
      have O4 := Lib.hid o4'
      have HB4 := Lib.hid (HQ.out.trans (hb4'.mono HQ.out.size))
      have HB43 := Lib.hid (HBq.out.trans (hb4'.mono HBq.out.size))
      have HZ4 := Lib.hid hz4'
      clear o4' hb4' hz4' hW4 n0 n1 n2 n3 n4 n5 n6 n7 n8 e5 e6 e7 f4
      go_loopw [10] (fun i wr3 => ∃ j : Nat, j ≤ bc.length ∧ i = .int .i64 j ∧ Hid (Below W4.heap.size W4 wr3)) (fun i _ => bc.length - (intOf i).toNat)
      case atStart => exact ⟨0, Nat.zero_le _, rfl, Lib.hid (Below.refl _ _)⟩
      case round =>
      obtain ⟨j, hj, rfl, HBj⟩ := hrel
      have f2 := Rd5.own_hold (w' := wr) O4.out HBj.out (by rw [HZ4.out]; omega) 2 rfl
      have HJ := Lib.hid (HB4.out.trans (HBj.out.mono HB4.out.size))
      by_cases hlj : j < bc.length
      · obtain ⟨z, hz⟩ : ∃ x, bc[j]? = some x := ⟨_, List.getElem?_eq_getElem hlj⟩
        obtain ⟨b3, of3, _, hm3, a3, j3⟩ := HY2.out.get
        obtain ⟨rfl, _, hb3⟩ := a3 (by omega)
        obtain ⟨cs3, _, q3, hu⟩ := j3 j _ hz
        have hu2 := InstrC.move (Still.of_below (HJ.out.mono (by have := HS2.out; omega))) hu
        have QI := Lib.hid (Rd5.right_any (w := wr) cs3 z hu2 (HT3.out z (List.mem_of_getElem? hz)) (HL2.out.below HJ.out (Nat.le_refl _)))
        obtain ⟨x1, x2, x3, e1', _⟩ := hu
        subst e1'
        obtain ⟨n0, n1, n2, n3, n4, n5⟩ := at6 (cells_later q3 HJ.out (show b3 < w2.heap.size by have := HS2.out; omega))
        clear q3 j3 a3 hz hu2
        go_wp2_with fail
        refine (QI.out).mono ?_; rintro e w5 ⟨rfl, hb5⟩
        have HB5 := Lib.hid (HBj.out.trans (hb5.mono HBj.out.size))
        clear hb5
        go_wp2
        go_roundw
        case rel => exact ⟨j + 1, by omega, by go_num, HB5⟩
        case measure => simp [intOf]; omega
      · go_wp2_with fail
        clear f2
        go_loopw [11] (fun i wr3 => ∃ j : Nat, j ≤ bp.length ∧ i = .int .i64 j ∧ Hid (Below W4.heap.size W4 wr3)) (fun i _ => bp.length - (intOf i).toNat)
        case atStart => exact ⟨0, Nat.zero_le _, rfl, HBj⟩
        case round =>
        clear HBj HJ hj hlj
        obtain ⟨j, hj, rfl, HBj⟩ := hrel
        have f1 := Rd5.own_hold (w' := wr) O4.out HBj.out (by rw [HZ4.out]; omega) 1 rfl
        have HJ := Lib.hid (HB4.out.trans (HBj.out.mono HB4.out.size))
        by_cases hlj : j < bp.length
        · obtain ⟨⟨pd, pi⟩, hz⟩ : ∃ x, bp[j]? = some x := ⟨_, List.getElem?_eq_getElem hlj⟩
          obtain ⟨b3, of3, _, hm3, a3, j3⟩ := HY1.out.get
          obtain ⟨rfl, _, hb3⟩ := a3 (by omega)
          obtain ⟨cs3, _, q3, u, rfl, hu⟩ := j3 j _ hz
          simp only at hu q3
          obtain ⟨D1, k4, rfl⟩ := hu.form
          obtain ⟨n0, n1⟩ := at2 (cells_later q3 HJ.out (show b3 < w2.heap.size by have := HS2.out; omega))
          have hpR := HT2.out _ (List.mem_of_getElem? hz)
          simp only [Rd5.phiR, Bool.and_eq_true, decide_eq_true_eq] at hpR
          obtain ⟨t1, t2, _⟩ := hpR
          obtain ⟨sp, hsp⟩ : ∃ s : ByteArray, s = ⟨pd.toArray⟩ := ⟨_, rfl⟩
          have e5 : sp.toList.isEmpty = false := by
            rw [ByteArray.toList_eq, hsp]
            cases pd with
            | nil => revert t1; decide
            | cons a b => rfl
          have hsv : (str pd : Value) = .string sp := by rw [hsp]
          rw [hsv] at n0
          have e6 : ((pi.length : Int) == 0) = false := beq_false_of_ne (by omega)
          clear q3 j3 a3 hz hu t1 t2 hsv hsp
          go_wp2
          go_roundw
          case rel => exact ⟨j + 1, by omega, by go_num, HBj⟩
          case measure => simp [intOf]; omega
        · go_wp2
          go_roundw
          case rel => exact ⟨q + 1, by omega, by go_num, Lib.hid (HB43.out.trans (HBj.out.mono HB43.out.size))⟩
          case measure => simp [intOf]; omega
    · go_wp2
      go_roundw
      case rel => exact ⟨k + 1, by omega, by go_num, HQ⟩
      case measure => simp [intOf]; omega
  · go_wp2
    go_ret
    exact ⟨rfl, HB2.out.trans (HBr.out.mono HB2.out.size)⟩
theorem walk (s : ByteArray) (hs : s.size ≤ maxLen) (w : World) (hL : Rd5.LaidS w) :
    Calls Tryd.prog 4 #[.string s] w fun e w' => e = .returned (.bool true) ∧ Below w.heap.size w w' := by
  rcases hx : Rd5.textE s.data.toList with x | p
  · exact walk_err s hs x hx w hL
  · refine walk_ok s hs p hx ?_ w hL
    unfold Rd5.textE at hx
    split at hx
    · cases hx
    · exact (Rd5.read_back hx).1

abbrev laids {H : Type} : List (String × DataW H) := [("lateen/syntax.words", Rows.laid_lateen_syntax_words)]
theorem door_met (os : Os) (args : Array Value) : laidMetH Tryd.prog laids ((World.doorLaid Tryd.prog 400 os).forCall (fun _ _ => 0) ⟨#[], args, []⟩).memory :=
  laidMetH_of_parts3 (fuel := 8) (laidMet_of_run' 8 (by kernel_rfl) (by kernel_rfl)) (by kernel_rfl) (by kernel_rfl)

set_option maxRecDepth 100000 in
theorem lifted (os : Os) (started : os.Started) (H : Type) (enc : TypeId × Value → H) :
    ReturnsInHanded {} Tryd.checked os 4 .any (fun w args => (Rows.syntaxFormsSpec.pre enc Tryd.prog Tryd.f4 [] false w args ∧ laidMetH Tryd.prog laids w) ∧ sizedMet enc Tryd.prog Tryd.f4 (OpenSpec.ofChange Rows.syntaxFormsSpec) false w args)
      (Rows.syntaxFormsSpec.post enc Tryd.prog Tryd.f4 false true false false) := by
  refine returnsInHanded_of_change_and (C := Tryd.checked) (X := fun w _ => laidMetH Tryd.prog laids w) (fun _ _ _ hh h => h.of_heap hh) (by kernel_rfl) started (by kernel_rfl) Tryd.func4
    (ChangeSpec.witness_shaped (enc := enc) (C := Tryd.checked) (os := os) (X := fun w _ => laidMetH Tryd.prog laids w) false (World.doorLaid Tryd.prog 400 os) #[.string ⟨#[]⟩] 8 rfl (World.shaped_of_RefB (by kernel_rfl) (by kernel_rfl)) (by kernel_rfl) (by kernel_rfl) (by kernel_rfl) (door_met os _)) ?_
  intro W base args ds gs before hval0 hW _ _ hL0 _
  have hval : ∀ (j : Nat) t v, Tryd.f4.params[j]? = some t → args[j]? = some v → Value.okWide Tryd.prog W .any base t v := hval0
  have hW' := hW
  obtain ⟨p, q, hA0, hV, rfl, hfz, hnd⟩ := hW
  have hA : DataW.TrodAll enc Tryd.prog W 0 (fun _ => true) true Tryd.f4.params.toList args.toList ds p := hA0
  rw [Tryd.params4] at hA hval
  obtain ⟨v0, vs0, d0, ds0, p0, q0, hargs, rfl, rfl, h0, r0⟩ := trodAll_cons hA
  obtain ⟨rfl, rfl, rfl⟩ := trodAll_nil r0
  obtain rfl : args = #[v0] := by cases args; simp_all
  obtain ⟨rfl, rfl⟩ := trodVars_none hV
  obtain ⟨a0, rfl, rfl, rfl, w0⟩ := Go.ChangeMaps.open_string Tryd.underlying9 (hval 0 9 v0 rfl rfl) h0
  clear hA0 hval0
  simp only [List.append_nil] at hW'
  refine (walk a0 w0 W (Rd5.laid_swords hL0)).mono fun e W' ⟨he, hg⟩ => ?_
  subst he
  exact ⟨_, rfl, Shell.lawPost (by kernel_rfl) rfl (by kernel_rfl) rfl Tryd.underlying4 hW' rfl hg⟩

theorem row_holds : Rows.SyntaxFormsSaid :=
  OpenClaim.holds_of_wide 4 Tryd.f4 rfl rfl rfl rfl rfl rfl rfl ⟨rfl, rfl, rfl, rfl, rfl⟩ rfl rfl rfl rfl rfl (by kernel_rfl) Tryd.func4 (by kernel_rfl)
    (of_decide_eq_true (by kernel_rfl)) (by unfold Func.isWrapper; first | (rw [if_pos (by decide +kernel)]; kernel_rfl) | (rw [if_neg (by decide +kernel)]; exact ⟨rfl, rfl⟩))
    (fun os started H enc _ => lifted os started H enc)

/-- The statement. -/
theorem proved : Rows.SyntaxFormsCardSaid :=
  Claim7.holds_tied_plain_at .later [] [.data] true Rows.syntaxFormsCard.stood.harness true
    row_holds (fun _ h => by cases h) (by kernel_rfl) (fun _ h => by cases h) syntaxForms_row_tie rfl ⟨rfl, rfl⟩ (by kernel_rfl) rfl
    (fun f fn hf hfn => by
      obtain rfl : f = 4 := Option.some.inj ((show Tryd.prog.funcNamed "lateen/lateenlaw05.SyntaxForms" = some 4 by kernel_rfl).symm.trans hf) |>.symm
      obtain rfl : fn = Tryd.f4 := (Option.some.inj (Tryd.func4.symm.trans hfn)).symm
      exact ⟨by kernel_rfl, fun j t ht => by
        rw [Tryd.params4] at ht
        have hm : t ∈ [9] := by simpa using Array.mem_of_getElem? ht
        have hall : ([9].all fun u => !Tryd.prog.wantsStandIn u) = true := by kernel_rfl
        exact (show Tryd.prog.wantsStandIn t = false by simpa using List.all_eq_true.1 hall t hm)⟩)
    (by kernel_rfl)
end Go.Proofs.YtkfpcaganhmkcaaDoor.syntaxForms
