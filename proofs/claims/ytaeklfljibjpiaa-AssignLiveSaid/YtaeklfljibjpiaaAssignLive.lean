/-
  The law AssignLive: of a sound function nothing but parameters is live at its first place.
-/
import Derived.Test.YtaeklfljibjpiaaRows
import Derived.Test.YtaeklfljibjpiaaExG
import Derived.Test.YtaeklfljibjpiaaOpenP
import Derived.Test.YtaeklfljibjpiaaLvFew
import Derived.Deep.RegionLaw
import Derived.StillTailTactics
import Derived.Test.YtaeklfljibjpiaaShell
import Derived.ProofKit
import Derived.OpenShut
import Derived.SizedLaws
namespace Go.Proofs.Ytaeklfljibjpiaa.assignLive
open Go.ChangeShapes Go.WideShapes Go.ChangeAt Go.RowKit
open Api Mem Sh8 Lv12 As13
set_option maxRecDepth 100000 in
set_option maxHeartbeats 16000000 in
theorem walk (v : Value) (q : Api.Func × List Value) {w : World} (hq : v = .agg q.2.toArray ∧ FuncC 0 w.heap.size w q.2 q.1 ∧ OpenP.funcG q.1) :
    Calls Try.prog 4 #[v] w fun e w' => e = .returned (.bool true) ∧ Below w.heap.size w w' := by
  obtain ⟨rfl, hfc, hG⟩ := hq
  obtain ⟨f, cs⟩ := q
  simp only at hfc hG
  have hfc0 := hfc
  obtain ⟨u1, u2, u3, rfl, kp, kv, kb⟩ := hfc
  obtain ⟨nm, rs, ps, vs, bl⟩ := f
  simp only at kp kv kb
  obtain ⟨A1, k1, rfl⟩ := kp.form
  obtain ⟨A2, k2, rfl⟩ := kv.form
  obtain ⟨A3, k3, rfl⟩ := kb.form
  obtain ⟨W, hW⟩ : ∃ W, w.alloc (.cells #[str nm, str rs, .slice A1 ps.length k1, .slice A2 vs.length k2, .slice A3 bl.length k3] 25) = W := ⟨_, rfl⟩
  obtain ⟨o1, b1, z1⟩ := box8 (c := [str nm, str rs, .slice A1 ps.length k1, .slice A2 vs.length k2, .slice A3 bl.length k3]) hW
  have HF0 := Lib.hid hfc0
  have HG := Lib.hid hG
  have KB := Lib.hid kb
  have KP := Lib.hid kp
  have HO := Lib.hid o1
  have HB := Lib.hid b1
  have HW := Lib.hid hW
  have zlt := o1.lt
  have hpl : ps.length ≤ 4611686018427387903 := by obtain ⟨_, _, _, h, _⟩ := Row.get kp; exact h
  clear o1 b1 hW kp kv kb hfc0 hG
  go_enter Try.func4, Try.ntmps4
  go_wp2_with fail
  rw [HW.out]
  refine (L13.awake13_any W).mono ?_
  rintro e w1 ⟨rfl, hb1⟩
  have HB1 := Lib.hid (HB.out.trans (hb1.mono HB.out.size))
  have HO1 := Lib.hid (HO.out.below hb1 HO.out.lt)
  have QF := Lib.hid (few13_any 0 w.heap.size w1 _ _ (FuncC.move (Still.of_below HB1.out) HF0.out) HB1.out.size (func_s12 HG.out))
  clear hb1
  have f0 := HO1.out.cell 0
  have f1 := HO1.out.cell 1
  have f2 := HO1.out.cell 2
  have f3 := HO1.out.cell 3
  have f4 := HO1.out.cell 4
  simp only [List.getElem?_cons_succ, List.getElem?_cons_zero] at f0 f1 f2 f3 f4
  go_wp2_with fail
  refine QF.out.mono ?_
  rintro e w2 ⟨b2, rfl, hfew, hb2⟩
  have HB2 := Lib.hid (HB1.out.trans (hb2.mono HB1.out.size))
  have HO2 := Lib.hid (HO1.out.below hb2 HO1.out.lt)
  clear hb2 f0 f1 f2 f3 f4
  cases b2 with
  | false =>
    clear hfew
    go_wp2_with fail
    refine (L13.awake13_any w2).mono ?_
    rintro e w7 ⟨rfl, hb9⟩
    have HB9 := Lib.hid (HB2.out.trans (hb9.mono HB2.out.size))
    clear hb9
    go_wp2_with fail
    go_ret
    exact ⟨rfl, HB9.out⟩
  | true =>
    have HFW := Lib.hid (hfew rfl)
    have hlb : bl.length ≤ 30 := HFW.out.2.2.1
    have HU := Lib.hid (uok13 HG.out HFW.out)
    have HOK := Lib.hid (fok13 HG.out HFW.out)
    have hn0 : 0 < bl.length := HOK.out.pos
    obtain ⟨b, hx⟩ : ∃ y, bl[0]? = some y := ⟨_, List.getElem?_eq_getElem hn0⟩
    have HX := Lib.hid hx
    clear hfew
    have f0 := HO2.out.cell 0
    have f1 := HO2.out.cell 1
    have f2 := HO2.out.cell 2
    have f3 := HO2.out.cell 3
    have f4 := HO2.out.cell 4
    simp only [List.getElem?_cons_succ, List.getElem?_cons_zero] at f0 f1 f2 f3 f4
    have QR := Lib.hid (right13_any HU.out 0 w.heap.size w2 _ _ (FuncC.move (Still.of_below HB2.out) HF0.out) HB2.out.size HOK.out (par13 _) b hx)
    clear hx
    go_wp2_with fail
    refine QR.out.mono ?_
    rintro e w3 ⟨b3, rfl, hsd, hb3⟩
    have HB3 := Lib.hid (HB2.out.trans (hb3.mono HB2.out.size))
    have HO3 := Lib.hid (HO2.out.below hb3 HO2.out.lt)
    clear hb3 f0 f1 f2 f3 f4
    cases b3 with
    | false =>
      clear hsd
      go_wp2_with fail
      refine (L13.awake13_any w3).mono ?_
      rintro e w8 ⟨rfl, hb9⟩
      have HB9 := Lib.hid (HB3.out.trans (hb9.mono HB3.out.size))
      clear hb9
      go_wp2_with fail
      go_ret
      exact ⟨rfl, HB9.out⟩
    | true =>
      have HSD := Lib.hid (hsd.1 rfl)
      clear hsd
      obtain ⟨b9, o9, rfl, hb9, cs9, hcl9, hcs9, x1, x2, cs4, e4, kph, kco, x4, e5, kto⟩ := row_at KB.out HX.out
      subst e5
      subst e4
      obtain ⟨A5, k5, rfl⟩ := Row.form kph
      obtain ⟨A6, k6, rfl⟩ := Row.form kco
      obtain ⟨A7, k7, rfl⟩ := Row.form kto
      have hphl : b.phis.length ≤ 4611686018427387903 := by obtain ⟨_, _, _, h, _⟩ := Row.get kph; exact h
      obtain ⟨m0, m1, m2, m3, m4, m5, m6, m7, m8⟩ := at9 (cells_later hcs9 HB3.out hb9)
      simp only [Nat.zero_mul, Nat.add_zero] at m0 m1 m2 m3 m4 m5 m6 m7 m8
      clear hcs9 kph kco kto
      have f0 := HO3.out.cell 0
      have f1 := HO3.out.cell 1
      have f2 := HO3.out.cell 2
      have f3 := HO3.out.cell 3
      have f4 := HO3.out.cell 4
      simp only [List.getElem?_cons_succ, List.getElem?_cons_zero] at f0 f1 f2 f3 f4
      have QA := Lib.hid (show Calls Try.prog 13 #[_, .int .i64 0, .int .i64 0] w3 _ from at_any HU.out 0 w.heap.size w3 _ _ (FuncC.move (Still.of_below HB3.out) HF0.out) HB3.out.size HOK.out 0 b HX.out 0 (Nat.zero_le _))
      obtain ⟨np, hnp⟩ : ∃ np, b.phis.length = np := ⟨_, rfl⟩
      rw [hnp] at m1 hphl
      clear hnp
      by_cases hp0 : np = 0
      · subst hp0
        go_wp2_with fail
        refine QA.out.mono ?_
        rintro e w4 ⟨v, r, rfl, hr, hm, ho, -, hb4⟩
        obtain ⟨A9, c9, rfl⟩ := row_form ho
        have HB4 := Lib.hid (HB3.out.trans (hb4.mono HB3.out.size))
        have HO4 := Lib.hid (HO3.out.below hb4 HO3.out.lt)
        have HRW := Lib.hid ho
        have HM := Lib.hid hm
        have hrl : r.length ≤ 1000000000000 := Nat.le_trans (sub_len hr.nd fun x hx => at_in HOK.out HX.out ((hm x).1 hx)) HU.out.len
        have HBr4 := Lib.hid (Below.refl w4.heap.size w4)
        clear hr hm ho hb4 QA f0 f1 f2 f3 f4 m0 m1 m2 m3 m4 m5 m6 m7 m8
        go_wp2_with fail
        go_loopw [4] (fun iv wr => ∃ k : Nat, k ≤ r.length ∧ iv = .int .i64 k ∧ Hid (Below w4.heap.size w4 wr)) (fun iv _ => r.length - (intOf iv).toNat)
        case atStart => exact ⟨0, Nat.zero_le _, rfl, HBr4⟩
        case round =>
        clear HBr4
        obtain ⟨k, hk, rfl, HBr⟩ := hrel
        have HBa := Lib.hid (HB4.out.trans (HBr.out.mono HB4.out.size))
        by_cases hlt : k < r.length
        · obtain ⟨x, hx⟩ : ∃ x, r[k]? = some x := ⟨_, List.getElem?_eq_getElem hlt⟩
          have hrow := own_below HRW.out HBr.out
          obtain ⟨b6, rfl, hb6, hb66⟩ := own_addr hrow hlt
          have n0 := own_at hrow (show (r.map str)[k]? = some (str x) by rw [List.getElem?_map, hx]; rfl)
          have HPX := Lib.hid (HSD.out x ((HM.out x).1 (List.mem_of_getElem? hx)))
          have HOa := Lib.hid (HO4.out.below HBr.out HO4.out.lt)
          have f0 := HOa.out.cell 0
          have f1 := HOa.out.cell 1
          have f2 := HOa.out.cell 2
          have f3 := HOa.out.cell 3
          have f4 := HOa.out.cell 4
          simp only [List.getElem?_cons_succ, List.getElem?_cons_zero] at f0 f1 f2 f3 f4
          have QP := Lib.hid (param_any 0 w.heap.size wr.drew _ _ (FuncC.move (Still.of_below HBa.out.drew) HF0.out) HBa.out.drew.size x)
          clear hx hrow
          go_wp2_with fail
          go_still_tail 5, (by kernel_rfl)
          change wpList _ _ _ _ _ wr.drew
          go_wp2_with fail
          refine QP.out.mono ?_
          rintro e w5 ⟨q, rfl, hq, hb5⟩
          obtain rfl : q = true := hq.2 HPX.out
          have HBN := Lib.hid (HBr.out.trans (below_of_drew (hb5.mono HBr.out.drew.size)))
          clear hq hb5 QP f0 f1 f2 f3 f4 n0
          go_wp2_with fail
          go_roundw
          case rel => exact ⟨k + 1, by omega, by go_num, HBN⟩
          case measure => simp [intOf]; omega
        · obtain rfl : k = r.length := by omega
          go_wp2_with fail
          go_ret
          exact ⟨rfl, HBa.out⟩
      · have hp1 : (0 : Int) < (np : Int) := by omega
        have ep1 : decide ((0 : Int) < (np : Int)) = true := decide_eq_true hp1
        have ep2 : decide (0 < np) = true := decide_eq_true (by omega)
        clear QA
        go_wp2_with fail
        refine (L13.awake13_any w3).mono ?_
        rintro e w8 ⟨rfl, hb9⟩
        have HB9 := Lib.hid (HB3.out.trans (hb9.mono HB3.out.size))
        clear hb9
        go_wp2_with fail
        go_ret
        exact ⟨rfl, HB9.out⟩

set_option maxRecDepth 100000 in
theorem lifted (os : Os) (started : os.Started) (H : Type) (enc : TypeId × Value → H) :
    ReturnsInHanded {} Try.checked os 4 .any (Rows.assignLiveSpec.pre6 enc Try.prog Try.f4 Rows.assignLiveRow.domain false) (Rows.assignLiveSpec.post enc Try.prog Try.f4 false true false false) := by
  refine returnsInHanded_of_change_sized (C := Try.checked) (by kernel_rfl) started (by kernel_rfl) Try.func4
    (ChangeSpec.witness6 (enc := enc) (C := Try.checked) false ⟨#[], #[.agg #[.string ⟨#[]⟩, .string ⟨#[]⟩, .slice none 0 0, .slice none 0 0, .slice none 0 0]], []⟩ 8 (by kernel_rfl) (by kernel_rfl) (by kernel_rfl) (by kernel_rfl)) ?_
  intro W base args ds gs before hval0 hW hcnd hsz0 _
  have hval : ∀ (j : Nat) t v, Try.f4.params[j]? = some t → args[j]? = some v → Value.okWide Try.prog W .any base t v := hval0
  have hW' := hW
  obtain ⟨p, q, hA0, hV, rfl, hfz, hnd⟩ := hW
  have hsz : (DataW.weightsEach Try.prog (Try.f4.params.toList ++ Rows.assignLiveSpec.plain.varTypes Try.prog) (ds ++ gs)).all (· ≤ reachBytes) = true := hsz0
  have hA : DataW.TrodAll enc Try.prog W 0 (fun _ => true) true Try.f4.params.toList args.toList ds p := hA0
  rw [Try.params4] at hA hval hsz
  obtain ⟨v0, vs0, d0, ds0, p0, q0, hargs, rfl, rfl, h0, r0⟩ := trodAll_cons hA
  obtain ⟨rfl, rfl, rfl⟩ := trodAll_nil r0
  obtain rfl : args = #[v0] := by cases args; simp_all
  obtain ⟨rfl, rfl⟩ := trodVars_none hV
  obtain ⟨xs0, hG0⟩ := OpenP.open_func hsz (j := 0) rfl rfl (hval 0 25 v0 rfl rfl) h0
  clear hA0 hval0
  simp only [List.append_nil] at hW'
  refine (walk v0 xs0 hG0).mono fun e W' ⟨he, hg⟩ => ?_
  subst he
  exact ⟨_, rfl, Shell.lawPost (by kernel_rfl) rfl (by kernel_rfl) rfl Try.underlying4 hW' rfl hg⟩

/-- The statement. -/
theorem proved : Rows.AssignLiveSaid :=
  OpenClaim.holds_of_wide 4 Try.f4 rfl rfl rfl rfl rfl rfl rfl ⟨rfl, rfl, rfl, rfl, rfl⟩ rfl rfl rfl rfl rfl (by kernel_rfl) Try.func4 (by kernel_rfl)
    (of_decide_eq_true (by kernel_rfl)) (by unfold Func.isWrapper; first | (rw [if_pos (by decide +kernel)]; kernel_rfl) | (rw [if_neg (by decide +kernel)]; exact ⟨rfl, rfl⟩))
    (fun os started H enc _ => lifted os started H enc)
end Go.Proofs.Ytaeklfljibjpiaa.assignLive
