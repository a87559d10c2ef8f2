/-
  The document's Few (layer 6): a program.
-/
import Derived.Test.YtikfncgdjnljiaaDoorFew4
import Derived.Test.YtikfncgdjnljiaaDoorProg
import Derived.Test.YtikfncgdjnljiaaDoorMem
import Derived.Test.YtikfncgdjnljiaaDoorPlainS
import Derived.Lib.Hide
import Derived.Lib.Walk
import Derived.Deep.QuietTactic
import Derived.BigQuiet
import Derived.StillTailTactics
namespace Go.Proofs.YtikfncgdjnljiaaDoor.Few6
open Go.RowKit Api Mem

def fewB (most : Nat) (p : Prog) : Bool := decide (p.classes.length ≤ 50) && (decide (p.externs.length ≤ 50) && (decide (p.funcs.length ≤ 50) && decide (cProg p ≤ most)))
theorem fewB_no {most : Nat} {p : Prog} (h : most < cProg p) : fewB most p = false := by
  unfold fewB
  rw [decide_eq_false (by omega : ¬ cProg p ≤ most)]
  simp
theorem fewB_yes {B most c : Nat} {p : Prog} (h : Cnt B most (cProg p) c) (h1 : p.classes.length ≤ 50) (h2 : p.externs.length ≤ 50) (h3 : p.funcs.length ≤ 50) : fewB most p = decide (c ≤ most) := by
  unfold fewB
  rw [decide_eq_true h1, decide_eq_true h2, decide_eq_true h3]
  simp only [Bool.true_and]
  rcases h with ⟨h4, h5⟩ | ⟨h4, h5, _⟩
  · rw [decide_eq_true h4, decide_eq_true (by omega)]
  · rw [decide_eq_false (by omega), decide_eq_false (by omega)]
def progS (p : Prog) : Prop := (∀ c ∈ p.classes, Sh c.name ∧ ∀ v ∈ c.fields, Sh v.name ∧ Sh v.type) ∧ (∀ v ∈ p.globals, Sh v.name ∧ Sh v.type) ∧ (∀ e ∈ p.externs, Sh e.name) ∧ ∀ f ∈ p.funcs, funcS f
abbrev B4 : Nat := 281479356563456
set_option maxRecDepth 100000 in
set_option maxHeartbeats 16000000 in
theorem few_any (lo hi : Nat) (w : World) (cs : List Value) (x : Prog) (hx : ProgC lo hi w cs x) (hh : hi ≤ w.heap.size) (most : Nat) (hm : most ≤ 1073741824) (hG : progS x) :
    Calls Tryd.prog 34 #[.agg cs.toArray, i64 most] w fun e w' => e = .returned (.bool (fewB most x)) ∧ Below w.heap.size w w' := by
  obtain ⟨u1, u2, u3, u4, rfl, kc, kg, ke, kf⟩ := hx
  obtain ⟨ssa, cl, gl, ex, fu⟩ := x
  simp only at kc kg ke kf hG
  obtain ⟨g1, g2, g3, g4⟩ := hG
  simp only at g1 g2 g3 g4
  obtain ⟨A1, k1, rfl⟩ := kc.form
  obtain ⟨A2, k2, rfl⟩ := kg.form
  obtain ⟨A3, k3, rfl⟩ := ke.form
  obtain ⟨A4, k4, rfl⟩ := kf.form
  obtain ⟨W, hW⟩ : ∃ W, w.alloc (.cells #[.bool ssa, .slice A1 cl.length k1, .slice A2 gl.length k2, .slice A3 ex.length k3, .slice A4 fu.length k4] 27) = W := ⟨_, rfl⟩
  obtain ⟨o1, b1, z1⟩ := boxF (cs := [.bool ssa, .slice A1 cl.length k1, .slice A2 gl.length k2, .slice A3 ex.length k3, .slice A4 fu.length k4]) hW
  have kC := Classes.move (Still.of_below (b1.mono hh)) kc
  have kG := Vars.move (Still.of_below (b1.mono hh)) kg
  have kE := Externs.move (Still.of_below (b1.mono hh)) ke
  have kF := Funcs.move (Still.of_below (b1.mono hh)) kf
  have HO := Lib.hid o1
  have HB := Lib.hid b1
  have HW := Lib.hid hW
  have KC := Lib.hid kC
  have KE := Lib.hid kE
  have KF := Lib.hid kF
  have GC := Lib.hid g1
  have GE := Lib.hid g3
  have GF := Lib.hid g4
  have QG := Lib.hid (cntVars_any lo hi W _ gl kG most hm g2)
  have HHW : Hid (hi ≤ W.heap.size) := Lib.hid (by omega)
  clear o1 b1 hW kc kg ke kf kC kG kE kF g1 g2 g3 g4
  by_cases hb1 : 50 < cl.length
  · have e1 : decide ((50 : Int) < (cl.length : Int)) = true := decide_eq_true (by omega)
    go_enter Tryd.func34, Tryd.ntmps34
    go_wp2_with fail
    rw [HW.out]
    go_ret
    exact ⟨by unfold fewB; rw [decide_eq_false (by simp only; omega)]; rfl, HB.out⟩
  have e1 : decide ((50 : Int) < (cl.length : Int)) = false := decide_eq_false (by omega)
  by_cases hb2 : 50 < ex.length
  · have e2 : decide ((50 : Int) < (ex.length : Int)) = true := decide_eq_true (by omega)
    go_enter Tryd.func34, Tryd.ntmps34
    go_wp2_with fail
    rw [HW.out]
    go_ret
    exact ⟨by unfold fewB; rw [decide_eq_false (by simp only; omega : ¬ (⟨ssa, cl, gl, ex, fu⟩ : Prog).externs.length ≤ 50)]; simp, HB.out⟩
  have e2 : decide ((50 : Int) < (ex.length : Int)) = false := decide_eq_false (by omega)
  by_cases hb3 : 50 < fu.length
  · have e3 : decide ((50 : Int) < (fu.length : Int)) = true := decide_eq_true (by omega)
    go_enter Tryd.func34, Tryd.ntmps34
    go_wp2_with fail
    rw [HW.out]
    go_ret
    exact ⟨by unfold fewB; rw [decide_eq_false (by simp only; omega : ¬ (⟨ssa, cl, gl, ex, fu⟩ : Prog).funcs.length ≤ 50)]; simp, HB.out⟩
  have e3 : decide ((50 : Int) < (fu.length : Int)) = false := decide_eq_false (by omega)
  have HL1 : Hid ((⟨ssa, cl, gl, ex, fu⟩ : Prog).classes.length ≤ 50) := Lib.hid (by simp only; omega)
  have HL2 : Hid ((⟨ssa, cl, gl, ex, fu⟩ : Prog).externs.length ≤ 50) := Lib.hid (by simp only; omega)
  have HL3 : Hid ((⟨ssa, cl, gl, ex, fu⟩ : Prog).funcs.length ≤ 50) := Lib.hid (by simp only; omega)
  go_enter Tryd.func34, Tryd.ntmps34
  go_wp2_with fail
  rw [HW.out]
  refine QG.out.mono ?_
  rintro e w5 ⟨d, rfl, hd, hw5⟩
  obtain rfl := hw5.symm
  have hd2 : d ≤ 281474976710656 := by rcases hd with ⟨h1, h2⟩ | ⟨h1, h2, h3⟩ <;> (try unfold B0 at *) <;> omega
  have HST : Hid (Cnt B4 most (cVars gl) d) := Lib.hid (by rcases hd with h | ⟨h1, h2, h3⟩; exact .inl h; exact .inr ⟨h1, h2, Nat.le_trans h3 (by decide)⟩)
  have f1 := holdF HO.out 1 rfl
  clear hd
  go_wp2_with fail
  clear f1
  go_loop [5, 6] (fun m i => ∃ (k c : Nat), k ≤ cl.length ∧ m = .int .i64 c ∧ i = .int .i64 k ∧ Hid (Cnt B4 most (cVars gl + sumOf cClass (cl.take k)) c)) (fun _ i => cl.length - (intOf i).toNat)
  case atStart => exact ⟨0, _, Nat.zero_le _, rfl, rfl, Lib.hid (by rw [sum_zero]; exact HST.out)⟩
  case round =>
  obtain ⟨k, c, hk, rfl, rfl, HCN⟩ := hrel
  have f1 := holdF HO.out 1 rfl
  by_cases hlt : k < cl.length
  · obtain ⟨⟨cn, fv⟩, hx⟩ : ∃ y, cl[k]? = some y := ⟨_, List.getElem?_eq_getElem hlt⟩
    by_cases hcm : c ≤ most
    · obtain ⟨b3, of3, hn3, hm3, a3, j3⟩ := KC.out.get
      obtain ⟨rfl, _, hb3⟩ := a3 (by omega)
      obtain ⟨cs3, _, q3, u, rfl, hu⟩ := j3 k _ hx
      obtain ⟨B4', k4', rfl⟩ := hu.form
      simp only at hu q3
      obtain ⟨m0, m1⟩ := at2 q3
      obtain ⟨s1, s2⟩ := GC.out _ (List.mem_of_getElem? hx)
      simp only at s1 s2
      have HX := Lib.hid hx
      have QV := Lib.hid (cntVars_any lo hi W _ fv hu most hm s2)
      clear q3 j3 a3 hx hu s2
      have h7 := cnt_add HCN.out hcm (a := cn.length) (by omega) hm (by decide)
      by_cases hc7 : c + cn.length ≤ most
      · have H7 := Lib.hid h7
        clear h7
        go_wp2_with ((with_reducible refine QV.out.mono ?_); rintro e w5 ⟨d, rfl, hd, hw5⟩; obtain rfl := hw5.symm; have HD := Lib.hid hd; have hd2 : d ≤ 281474976710656 := (by rcases hd with ⟨h1, h2⟩ | ⟨h1, h2, h3⟩ <;> (try unfold B0 at *) <;> omega); clear hd)
        go_round
        case rel => exact ⟨k + 1, c + cn.length + d, by omega, by go_num, by go_num, Lib.hid (cnt_of (cnt_plus H7.out hc7 HD.out hm (by decide) (by decide)) (by rw [sum_next _ HX.out]; unfold cClass; simp only; omega))⟩
        case measure => simp [intOf]; omega
      · have H7 := Lib.hid h7
        clear h7
        go_wp2
        go_round
        case rel => exact ⟨k + 1, c + cn.length, by omega, by go_num, by go_num, Lib.hid (cnt_end H7.out hc7 (by rw [sum_next _ HX.out]; unfold cClass; simp only; omega))⟩
        case measure => simp [intOf]; omega
    · clear hx
      have HST2 := Lib.hid (cnt_end (S' := cVars gl + sumOf cClass cl) HCN.out hcm (by have := sum_le cClass cl k; omega))
      have f3 := holdF HO.out 3 rfl
      go_wp2
      clear f1 f3
      go_loop [5, 7] (fun m i => ∃ (k c : Nat), k ≤ ex.length ∧ m = .int .i64 c ∧ i = .int .i64 k ∧ Hid (Cnt B4 most (cVars gl + sumOf cClass cl + sumOf cExt (ex.take k)) c)) (fun _ i => ex.length - (intOf i).toNat)
      case atStart => exact ⟨0, _, Nat.zero_le _, rfl, rfl, Lib.hid (by rw [sum_zero]; exact HST2.out)⟩
      case round =>
      obtain ⟨k, c, hk, rfl, rfl, HCN⟩ := hrel
      have f3 := holdF HO.out 3 rfl
      by_cases hlt : k < ex.length
      · obtain ⟨⟨en, ek⟩, hx⟩ : ∃ y, ex[k]? = some y := ⟨_, List.getElem?_eq_getElem hlt⟩
        by_cases hcm : c ≤ most
        · obtain ⟨b3, of3, hn3, hm3, a3, j3⟩ := KE.out.get
          obtain ⟨rfl, _, hb3⟩ := a3 (by omega)
          obtain ⟨cs3, _, q3, rfl⟩ := j3 k _ hx
          obtain ⟨m0, m1⟩ := at2 q3
          have s1 := GE.out _ (List.mem_of_getElem? hx)
          simp only at m0 m1 s1
          have HX := Lib.hid hx
          clear q3 j3 a3 hx
          have H7 := Lib.hid (cnt_add HCN.out hcm (a := 1 + en.length) (by omega) hm (by decide))
          go_wp2
          go_round
          case rel => exact ⟨k + 1, c + (1 + en.length), by omega, by go_num, by go_num, Lib.hid (cnt_of H7.out (by rw [sum_next _ HX.out]; unfold cExt; simp only; omega))⟩
          case measure => simp [intOf]; omega
        · clear hx
          have HST3 := Lib.hid (cnt_end (S' := cVars gl + sumOf cClass cl + sumOf cExt ex) HCN.out hcm (by have := sum_le cExt ex k; omega))
          have f4 := holdF HO.out 4 rfl
          go_wp2
          clear f3 f4
          go_loopw [5, 8] (fun m i wr => ∃ (k c : Nat), k ≤ fu.length ∧ m = .int .i64 c ∧ i = .int .i64 k ∧ Hid (Cnt B4 most (cVars gl + sumOf cClass cl + sumOf cExt ex + sumOf cFunc (fu.take k)) c) ∧ Hid (Below W.heap.size W wr)) (fun _ i _ => fu.length - (intOf i).toNat)
          case atStart => exact ⟨0, _, Nat.zero_le _, rfl, rfl, Lib.hid (by rw [sum_zero]; exact HST3.out), Lib.hid (Below.refl _ _)⟩
          case round =>
          obtain ⟨k, c, hk, rfl, rfl, HCN, HBr⟩ := hrel
          have f4 := (HO.out.below HBr.out HO.out.lt).cell 4
          simp only [List.getElem?_cons_succ, List.getElem?_cons_zero] at f4
          by_cases hlt : k < fu.length
          · obtain ⟨x, hx⟩ : ∃ y, fu[k]? = some y := ⟨_, List.getElem?_eq_getElem hlt⟩
            by_cases hcm : c ≤ most
            · obtain ⟨b3, of3, hn3, hm3, a3, j3⟩ := KF.out.get
              obtain ⟨rfl, _, hb3⟩ := a3 (by omega)
              obtain ⟨cs3, _, q3, hu⟩ := j3 k _ hx
              have hu2 := FuncC.move (Still.of_below (HBr.out.mono HHW.out)) hu
              have QI := Lib.hid (cntFunc_any lo hi wr cs3 x hu2 (Nat.le_trans HHW.out HBr.out.size) most hm (GF.out _ (List.mem_of_getElem? hx)))
              obtain ⟨x1, x2, x3, e1', _⟩ := hu
              subst e1'
              obtain ⟨m0, m1, m2, m3, m4⟩ := at5 (cells_later q3 HBr.out (by have := HHW.out; omega))
              have HX := Lib.hid hx
              clear q3 j3 a3 hx hu2
              go_wp2_with ((with_reducible refine QI.out.mono ?_); rintro e w5 ⟨d, rfl, hd, hb5⟩; have HB5 := Lib.hid (HBr.out.trans (hb5.mono HBr.out.size)); have HD := Lib.hid hd; have hd2 : d ≤ 281478282821632 := (by rcases hd with ⟨h1, h2⟩ | ⟨h1, h2, h3⟩ <;> (try unfold B3 at *) <;> omega); clear hd hb5)
              go_roundw
              case rel => exact ⟨k + 1, c + d, by omega, by go_num, by go_num, Lib.hid (cnt_of (cnt_plus HCN.out hcm HD.out hm (by decide) (by decide)) (by rw [sum_next _ HX.out]; omega)), HB5⟩
              case measure => simp [intOf]; omega
            · clear hx
              have hbig : most < cProg ⟨ssa, cl, gl, ex, fu⟩ := by
                rcases HCN.out with ⟨h1, h2⟩ | ⟨h1, h2, h3⟩
                · omega
                · have := sum_le cFunc fu k
                  unfold cProg; simp only; omega
              have HBG := Lib.hid hbig
              clear hbig
              have hdf : decide ((c : Int) ≤ (most : Int)) = false := decide_eq_false (by omega)
              go_wp2
              go_ret
              exact ⟨by rw [fewB_no HBG.out]; rfl, HB.out.trans (HBr.out.mono HB.out.size)⟩
          · have H9 := Lib.hid (cnt_of (T := cVars gl + sumOf cClass cl + sumOf cExt ex + sumOf cFunc fu) HCN.out (by rw [sum_all cFunc (by omega)]))
            have HS1 : Hid (decide (c ≤ most) = fewB most ⟨ssa, cl, gl, ex, fu⟩) := by
              refine Lib.hid ?_
              have e : cVars gl + sumOf cClass cl + sumOf cExt ex + sumOf cFunc fu = cProg ⟨ssa, cl, gl, ex, fu⟩ := rfl
              have h9 := H9.out
              rw [e] at h9
              exact (fewB_yes h9 HL1.out HL2.out HL3.out).symm
            go_wp2
            go_ret
            exact ⟨by rw [← HS1.out]; rfl, HB.out.trans (HBr.out.mono HB.out.size)⟩
      · have HST3 := Lib.hid (cnt_of (T := cVars gl + sumOf cClass cl + sumOf cExt ex) HCN.out (by rw [sum_all cExt (by omega)]))
        have f4 := holdF HO.out 4 rfl
        go_wp2
        clear f3 f4
        go_loopw [5, 8] (fun m i wr => ∃ (k c : Nat), k ≤ fu.length ∧ m = .int .i64 c ∧ i = .int .i64 k ∧ Hid (Cnt B4 most (cVars gl + sumOf cClass cl + sumOf cExt ex + sumOf cFunc (fu.take k)) c) ∧ Hid (Below W.heap.size W wr)) (fun _ i _ => fu.length - (intOf i).toNat)
        case atStart => exact ⟨0, _, Nat.zero_le _, rfl, rfl, Lib.hid (by rw [sum_zero]; exact HST3.out), Lib.hid (Below.refl _ _)⟩
        case round =>
        obtain ⟨k, c, hk, rfl, rfl, HCN, HBr⟩ := hrel
        have f4 := (HO.out.below HBr.out HO.out.lt).cell 4
        simp only [List.getElem?_cons_succ, List.getElem?_cons_zero] at f4
        by_cases hlt : k < fu.length
        · obtain ⟨x, hx⟩ : ∃ y, fu[k]? = some y := ⟨_, List.getElem?_eq_getElem hlt⟩
          by_cases hcm : c ≤ most
          · obtain ⟨b3, of3, hn3, hm3, a3, j3⟩ := KF.out.get
            obtain ⟨rfl, _, hb3⟩ := a3 (by omega)
            obtain ⟨cs3, _, q3, hu⟩ := j3 k _ hx
            have hu2 := FuncC.move (Still.of_below (HBr.out.mono HHW.out)) hu
            have QI := Lib.hid (cntFunc_any lo hi wr cs3 x hu2 (Nat.le_trans HHW.out HBr.out.size) most hm (GF.out _ (List.mem_of_getElem? hx)))
            obtain ⟨x1, x2, x3, e1', _⟩ := hu
            subst e1'
            obtain ⟨m0, m1, m2, m3, m4⟩ := at5 (cells_later q3 HBr.out (by have := HHW.out; omega))
            have HX := Lib.hid hx
            clear q3 j3 a3 hx hu2
            go_wp2_with ((with_reducible refine QI.out.mono ?_); rintro e w5 ⟨d, rfl, hd, hb5⟩; have HB5 := Lib.hid (HBr.out.trans (hb5.mono HBr.out.size)); have HD := Lib.hid hd; have hd2 : d ≤ 281478282821632 := (by rcases hd with ⟨h1, h2⟩ | ⟨h1, h2, h3⟩ <;> (try unfold B3 at *) <;> omega); clear hd hb5)
            go_roundw
            case rel => exact ⟨k + 1, c + d, by omega, by go_num, by go_num, Lib.hid (cnt_of (cnt_plus HCN.out hcm HD.out hm (by decide) (by decide)) (by rw [sum_next _ HX.out]; omega)), HB5⟩
            case measure => simp [intOf]; omega
          · clear hx
            have hbig : most < cProg ⟨ssa, cl, gl, ex, fu⟩ := by
              rcases HCN.out with ⟨h1, h2⟩ | ⟨h1, h2, h3⟩
              · omega
              · have := sum_le cFunc fu k
                unfold cProg; simp only; omega
            have HBG := Lib.hid hbig
            clear hbig
            have hdf : decide ((c : Int) ≤ (most : Int)) = false := decide_eq_false (by omega)
            go_wp2
            go_ret
            exact ⟨by rw [fewB_no HBG.out]; rfl, HB.out.trans (HBr.out.mono HB.out.size)⟩
        · have H9 := Lib.hid (cnt_of (T := cVars gl + sumOf cClass cl + sumOf cExt ex + sumOf cFunc fu) HCN.out (by rw [sum_all cFunc (by omega)]))
          have HS1 : Hid (decide (c ≤ most) = fewB most ⟨ssa, cl, gl, ex, fu⟩) := by
            refine Lib.hid ?_
            have e : cVars gl + sumOf cClass cl + sumOf cExt ex + sumOf cFunc fu = cProg ⟨ssa, cl, gl, ex, fu⟩ := rfl
            have h9 := H9.out
            rw [e] at h9
            exact (fewB_yes h9 HL1.out HL2.out HL3.out).symm
          go_wp2
          go_ret
          exact ⟨by rw [← HS1.out]; rfl, HB.out.trans (HBr.out.mono HB.out.size)⟩
  · have HST2 := Lib.hid (cnt_of (T := cVars gl + sumOf cClass cl) HCN.out (by rw [sum_all cClass (by omega)]))
    have f3 := holdF HO.out 3 rfl
    go_wp2
    clear f1 f3
    go_loop [5, 7] (fun m i => ∃ (k c : Nat), k ≤ ex.length ∧ m = .int .i64 c ∧ i = .int .i64 k ∧ Hid (Cnt B4 most (cVars gl + sumOf cClass cl + sumOf cExt (ex.take k)) c)) (fun _ i => ex.length - (intOf i).toNat)
    case atStart => exact ⟨0, _, Nat.zero_le _, rfl, rfl, Lib.hid (by rw [sum_zero]; exact HST2.out)⟩
    case round =>
    obtain ⟨k, c, hk, rfl, rfl, HCN⟩ := hrel
    have f3 := holdF HO.out 3 rfl
    by_cases hlt : k < ex.length
    · obtain ⟨⟨en, ek⟩, hx⟩ : ∃ y, ex[k]? = some y := ⟨_, List.getElem?_eq_getElem hlt⟩
      by_cases hcm : c ≤ most
      · obtain ⟨b3, of3, hn3, hm3, a3, j3⟩ := KE.out.get
        obtain ⟨rfl, _, hb3⟩ := a3 (by omega)
        obtain ⟨cs3, _, q3, rfl⟩ := j3 k _ hx
        obtain ⟨m0, m1⟩ := at2 q3
        have s1 := GE.out _ (List.mem_of_getElem? hx)
        simp only at m0 m1 s1
        have HX := Lib.hid hx
        clear q3 j3 a3 hx
        have H7 := Lib.hid (cnt_add HCN.out hcm (a := 1 + en.length) (by omega) hm (by decide))
        go_wp2
        go_round
        case rel => exact ⟨k + 1, c + (1 + en.length), by omega, by go_num, by go_num, Lib.hid (cnt_of H7.out (by rw [sum_next _ HX.out]; unfold cExt; simp only; omega))⟩
        case measure => simp [intOf]; omega
      · clear hx
        have HST3 := Lib.hid (cnt_end (S' := cVars gl + sumOf cClass cl + sumOf cExt ex) HCN.out hcm (by have := sum_le cExt ex k; omega))
        have f4 := holdF HO.out 4 rfl
        go_wp2
        clear f3 f4
        go_loopw [5, 8] (fun m i wr => ∃ (k c : Nat), k ≤ fu.length ∧ m = .int .i64 c ∧ i = .int .i64 k ∧ Hid (Cnt B4 most (cVars gl + sumOf cClass cl + sumOf cExt ex + sumOf cFunc (fu.take k)) c) ∧ Hid (Below W.heap.size W wr)) (fun _ i _ => fu.length - (intOf i).toNat)
        case atStart => exact ⟨0, _, Nat.zero_le _, rfl, rfl, Lib.hid (by rw [sum_zero]; exact HST3.out), Lib.hid (Below.refl _ _)⟩
        case round =>
        obtain ⟨k, c, hk, rfl, rfl, HCN, HBr⟩ := hrel
        have f4 := (HO.out.below HBr.out HO.out.lt).cell 4
        simp only [List.getElem?_cons_succ, List.getElem?_cons_zero] at f4
        by_cases hlt : k < fu.length
        · obtain ⟨x, hx⟩ : ∃ y, fu[k]? = some y := ⟨_, List.getElem?_eq_getElem hlt⟩
          by_cases hcm : c ≤ most
          · obtain ⟨b3, of3, hn3, hm3, a3, j3⟩ := KF.out.get
            obtain ⟨rfl, _, hb3⟩ := a3 (by omega)
            obtain ⟨cs3, _, q3, hu⟩ := j3 k _ hx
            have hu2 := FuncC.move (Still.of_below (HBr.out.mono HHW.out)) hu
            have QI := Lib.hid (cntFunc_any lo hi wr cs3 x hu2 (Nat.le_trans HHW.out HBr.out.size) most hm (GF.out _ (List.mem_of_getElem? hx)))
            obtain ⟨x1, x2, x3, e1', _⟩ := hu
            subst e1'
            obtain ⟨m0, m1, m2, m3, m4⟩ := at5 (cells_later q3 HBr.out (by have := HHW.out; omega))
            have HX := Lib.hid hx
            clear q3 j3 a3 hx hu2
            go_wp2_with ((with_reducible refine QI.out.mono ?_); rintro e w5 ⟨d, rfl, hd, hb5⟩; have HB5 := Lib.hid (HBr.out.trans (hb5.mono HBr.out.size)); have HD := Lib.hid hd; have hd2 : d ≤ 281478282821632 := (by rcases hd with ⟨h1, h2⟩ | ⟨h1, h2, h3⟩ <;> (try unfold B3 at *) <;> omega); clear hd hb5)
            go_roundw
            case rel => exact ⟨k + 1, c + d, by omega, by go_num, by go_num, Lib.hid (cnt_of (cnt_plus HCN.out hcm HD.out hm (by decide) (by decide)) (by rw [sum_next _ HX.out]; omega)), HB5⟩
            case measure => simp [intOf]; omega
          · clear hx
            have hbig : most < cProg ⟨ssa, cl, gl, ex, fu⟩ := by
              rcases HCN.out with ⟨h1, h2⟩ | ⟨h1, h2, h3⟩
              · omega
              · have := sum_le cFunc fu k
                unfold cProg; simp only; omega
            have HBG := Lib.hid hbig
            clear hbig
            have hdf : decide ((c : Int) ≤ (most : Int)) = false := decide_eq_false (by omega)
            go_wp2
            go_ret
            exact ⟨by rw [fewB_no HBG.out]; rfl, HB.out.trans (HBr.out.mono HB.out.size)⟩
        · have H9 := Lib.hid (cnt_of (T := cVars gl + sumOf cClass cl + sumOf cExt ex + sumOf cFunc fu) HCN.out (by rw [sum_all cFunc (by omega)]))
          have HS1 : Hid (decide (c ≤ most) = fewB most ⟨ssa, cl, gl, ex, fu⟩) := by
            refine Lib.hid ?_
            have e : cVars gl + sumOf cClass cl + sumOf cExt ex + sumOf cFunc fu = cProg ⟨ssa, cl, gl, ex, fu⟩ := rfl
            have h9 := H9.out
            rw [e] at h9
            exact (fewB_yes h9 HL1.out HL2.out HL3.out).symm
          go_wp2
          go_ret
          exact ⟨by rw [← HS1.out]; rfl, HB.out.trans (HBr.out.mono HB.out.size)⟩
    · have HST3 := Lib.hid (cnt_of (T := cVars gl + sumOf cClass cl + sumOf cExt ex) HCN.out (by rw [sum_all cExt (by omega)]))
      have f4 := holdF HO.out 4 rfl
      go_wp2
      clear f3 f4
      go_loopw [5, 8] (fun m i wr => ∃ (k c : Nat), k ≤ fu.length ∧ m = .int .i64 c ∧ i = .int .i64 k ∧ Hid (Cnt B4 most (cVars gl + sumOf cClass cl + sumOf cExt ex + sumOf cFunc (fu.take k)) c) ∧ Hid (Below W.heap.size W wr)) (fun _ i _ => fu.length - (intOf i).toNat)
      case atStart => exact ⟨0, _, Nat.zero_le _, rfl, rfl, Lib.hid (by rw [sum_zero]; exact HST3.out), Lib.hid (Below.refl _ _)⟩
      case round =>
      obtain ⟨k, c, hk, rfl, rfl, HCN, HBr⟩ := hrel
      have f4 := (HO.out.below HBr.out HO.out.lt).cell 4
      simp only [List.getElem?_cons_succ, List.getElem?_cons_zero] at f4
      by_cases hlt : k < fu.length
      · obtain ⟨x, hx⟩ : ∃ y, fu[k]? = some y := ⟨_, List.getElem?_eq_getElem hlt⟩
        by_cases hcm : c ≤ most
        · obtain ⟨b3, of3, hn3, hm3, a3, j3⟩ := KF.out.get
          obtain ⟨rfl, _, hb3⟩ := a3 (by omega)
          obtain ⟨cs3, _, q3, hu⟩ := j3 k _ hx
          have hu2 := FuncC.move (Still.of_below (HBr.out.mono HHW.out)) hu
          have QI := Lib.hid (cntFunc_any lo hi wr cs3 x hu2 (Nat.le_trans HHW.out HBr.out.size) most hm (GF.out _ (List.mem_of_getElem? hx)))
          obtain ⟨x1, x2, x3, e1', _⟩ := hu
          subst e1'
          obtain ⟨m0, m1, m2, m3, m4⟩ := at5 (cells_later q3 HBr.out (by have := HHW.out; omega))
          have HX := Lib.hid hx
          clear q3 j3 a3 hx hu2
          go_wp2_with ((with_reducible refine QI.out.mono ?_); rintro e w5 ⟨d, rfl, hd, hb5⟩; have HB5 := Lib.hid (HBr.out.trans (hb5.mono HBr.out.size)); have HD := Lib.hid hd; have hd2 : d ≤ 281478282821632 := (by rcases hd with ⟨h1, h2⟩ | ⟨h1, h2, h3⟩ <;> (try unfold B3 at *) <;> omega); clear hd hb5)
          go_roundw
          case rel => exact ⟨k + 1, c + d, by omega, by go_num, by go_num, Lib.hid (cnt_of (cnt_plus HCN.out hcm HD.out hm (by decide) (by decide)) (by rw [sum_next _ HX.out]; omega)), HB5⟩
          case measure => simp [intOf]; omega
        · clear hx
          have hbig : most < cProg ⟨ssa, cl, gl, ex, fu⟩ := by
            rcases HCN.out with ⟨h1, h2⟩ | ⟨h1, h2, h3⟩
            · omega
            · have := sum_le cFunc fu k
              unfold cProg; simp only; omega
          have HBG := Lib.hid hbig
          clear hbig
          have hdf : decide ((c : Int) ≤ (most : Int)) = false := decide_eq_false (by omega)
          go_wp2
          go_ret
          exact ⟨by rw [fewB_no HBG.out]; rfl, HB.out.trans (HBr.out.mono HB.out.size)⟩
      · have H9 := Lib.hid (cnt_of (T := cVars gl + sumOf cClass cl + sumOf cExt ex + sumOf cFunc fu) HCN.out (by rw [sum_all cFunc (by omega)]))
        have HS1 : Hid (decide (c ≤ most) = fewB most ⟨ssa, cl, gl, ex, fu⟩) := by
          refine Lib.hid ?_
          have e : cVars gl + sumOf cClass cl + sumOf cExt ex + sumOf cFunc fu = cProg ⟨ssa, cl, gl, ex, fu⟩ := rfl
          have h9 := H9.out
          rw [e] at h9
          exact (fewB_yes h9 HL1.out HL2.out HL3.out).symm
        go_wp2
        go_ret
        exact ⟨by rw [← HS1.out]; rfl, HB.out.trans (HBr.out.mono HB.out.size)⟩
end Go.Proofs.YtikfncgdjnljiaaDoor.Few6
