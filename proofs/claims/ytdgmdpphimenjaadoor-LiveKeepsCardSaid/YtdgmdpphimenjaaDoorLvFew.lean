/-
  Layers 12 and 13: which functions are little.
-/
import Derived.Test.YtdgmdpphimenjaaDoorShRef
import Derived.Test.YtdgmdpphimenjaaDoorShRRight
import Derived.Test.YtdgmdpphimenjaaDoorFew4
import Derived.Deep.RegionLaw
namespace Go.Proofs.YtdgmdpphimenjaaDoor.Lv12
open Go.RowKit Api Mem Sh8 Go.Maps
attribute [local go_sem] undef
theorem bp_yes12 {P : Program} {f : FuncId} {args : Array Value} {p : Prop} {w w0 : World} (h : Calls P f args w (BP p w0)) (hp : p) : Calls P f args w fun e w' => e = .returned (.bool true) ∧ Below w0.heap.size w0 w' := h.mono (by
  rintro e w' ⟨b, rfl, hb, hw⟩
  obtain rfl : b = true := hb.2 hp
  exact ⟨rfl, hw⟩)
theorem bp_no12 {P : Program} {f : FuncId} {args : Array Value} {p : Prop} {w w0 : World} (h : Calls P f args w (BP p w0)) (hp : ¬ p) : Calls P f args w fun e w' => e = .returned (.bool false) ∧ Below w0.heap.size w0 w' := h.mono (by
  rintro e w' ⟨b, rfl, hb, hw⟩
  cases b with
  | false => exact ⟨rfl, hw⟩
  | true => exact absurd (hb.1 rfl) hp)
/-- what the laws of layers 12 and 13 call little. -/
def Few12 (f : Api.Func) : Prop := Few6.cFunc f ≤ 3000 ∧ FewP f.blocks ∧ f.blocks.length ≤ 30 ∧ RightP f.blocks
theorem cntFn_any (lo hi : Nat) (w : World) (cs : List Value) (x : Api.Func) (hx : FuncC lo hi w cs x) (hh : hi ≤ w.heap.size) (hG : Few6.funcS x) :
    Calls Tryd.prog 15 #[.agg cs.toArray, .int .i64 3000] w fun e w' => ∃ n : Nat, e = .returned (.int .i64 (n : Int)) ∧ Few6.Cnt Few6.B3 3000 (Few6.cFunc x) n ∧ Below w.heap.size w w' :=
  Few6.cntFunc_any lo hi w cs x hx hh 3000 (by omega) hG
set_option maxRecDepth 100000 in
set_option maxHeartbeats 8000000 in
theorem fewB_any (lo hi : Nat) (w : World) (cs : List Value) (f : Api.Func) (hf : FuncC lo hi w cs f) (hh : hi ≤ w.heap.size) :
    Calls Tryd.prog 35 #[.agg cs.toArray] w (BP (FewP f.blocks) w) := by
  have hG : True := trivial
  obtain ⟨u1, u2, u3, rfl, kp, kv, kb⟩ := hf
  obtain ⟨nm, rs, ps, vs, bl⟩ := f
  simp only at kp kv kb hG ⊢
  obtain ⟨A1, k1, rfl⟩ := kp.form
  obtain ⟨A2, k2, rfl⟩ := kv.form
  obtain ⟨A3, k3, rfl⟩ := kb.form
  obtain ⟨W, hW⟩ : ∃ W, w.alloc (.cells #[str nm, str rs, .slice A1 ps.length k1, .slice A2 vs.length k2, .slice A3 bl.length k3] 37) = W := ⟨_, rfl⟩
  obtain ⟨o1, b1, z1⟩ := box8 (c := [str nm, str rs, .slice A1 ps.length k1, .slice A2 vs.length k2, .slice A3 bl.length k3]) hW
  have hlb : bl.length ≤ 4611686018427387903 := by obtain ⟨_, _, _, h, _⟩ := kb.get; exact h
  have KB := Lib.hid (Blocks.move (Still.of_below (b1.mono hh)) kb)
  have HO := Lib.hid o1
  have HB := Lib.hid b1
  have HW := Lib.hid hW
  have HHW : Hid (hi ≤ W.heap.size) := Lib.hid (by omega)
  have GB := Lib.hid hG
  have zlt := o1.lt
  clear o1 b1 hW kp kv kb hG
  clear GB
  by_cases h60 : bl.length ≤ 60
  · have e60 : decide ((60 : Int) < (bl.length : Int)) = false := decide_eq_false (by omega)
    go_enter Tryd.func35, Tryd.ntmps35
    go_wp2_with fail
    rw [HW.out]
    have f4' := HO.out.cell 4
    simp only [List.getElem?_cons_succ, List.getElem?_cons_zero] at f4'
    go_wp2_with fail
    go_loopw [3] (fun i wr => ∃ k : Nat, k ≤ bl.length ∧ i = .int .i64 k ∧ Hid (∀ b ∈ bl.take k, b.fin.dest.length ≤ 8 ∧ b.phis.length ≤ 40 ∧ ∀ p ∈ b.phis, p.ins.length ≤ 60) ∧ Hid (Below W.heap.size W wr)) (fun i _ => bl.length - (intOf i).toNat)
    case atStart => exact ⟨0, Nat.zero_le _, rfl, Lib.hid (fun b hb => by simp at hb), Lib.hid (Below.refl _ _)⟩
    case round =>
    obtain ⟨k, hk, rfl, HK, HBr⟩ := hrel
    clear f4'
    have f4 := (HO.out.below HBr.out HO.out.lt).cell 4
    simp only [List.getElem?_cons_succ, List.getElem?_cons_zero] at f4
    by_cases hlt : k < bl.length
    · obtain ⟨⟨bn, phs, cod, ⟨tk, ⟨ak, as_, an⟩, td, tn⟩⟩, hx⟩ : ∃ y, bl[k]? = some y := ⟨_, List.getElem?_eq_getElem hlt⟩
      obtain ⟨b3, of3, hn3, hm3, a3, j3⟩ := KB.out.get
      obtain ⟨rfl, _, hb3⟩ := a3 (by omega)
      obtain ⟨cs3, _, q3, hu⟩ := j3 k _ hx
      obtain ⟨x1, x2, x3, e1', kph, kco, x4, e2', kto⟩ := hu
      subst e2'
      subst e1'
      obtain ⟨m0, m1, m2, m3, m4, m5, m6, m7, m8⟩ := at9 (cells_later q3 HBr.out (by have := HHW.out; omega))
      obtain ⟨At, kt, rfl⟩ := Row.form kto
      obtain ⟨A5, k5, rfl⟩ := Row.form kph
      have hpl : phs.length ≤ 4611686018427387903 := by obtain ⟨_, _, _, h, _⟩ := Row.get kph; exact h
      have HX := Lib.hid hx
      have KP := Lib.hid kph
      clear q3 j3 a3 hx kph kco kto
      by_cases h8 : td.length ≤ 8
      · have e8 : decide ((8 : Int) < (td.length : Int)) = false := decide_eq_false (by omega)
        by_cases h40 : phs.length ≤ 40
        · have e40 : decide ((40 : Int) < (phs.length : Int)) = false := decide_eq_false (by omega)
          have H8 := Lib.hid h8
          have H40 := Lib.hid h40
          clear h8 h40
          go_wp2_with fail
          go_loopw [4] (fun i wr2 => ∃ j : Nat, j ≤ phs.length ∧ i = .int .i64 j ∧ Hid (∀ p ∈ phs.take j, p.ins.length ≤ 60) ∧ Hid (Below W.heap.size W wr2)) (fun i _ => phs.length - (intOf i).toNat)
          case atStart => exact ⟨0, Nat.zero_le _, rfl, Lib.hid (fun b hb => by simp at hb), HBr⟩
          case round =>
          obtain ⟨j, hj, rfl, HPP, HBr2⟩ := hrel
          clear m0 m1 m2 m3 m4 m5 m6 m7 m8 f4
          have f4 := (HO.out.below HBr2.out HO.out.lt).cell 4
          simp only [List.getElem?_cons_succ, List.getElem?_cons_zero] at f4
          obtain ⟨b4, of4, hn4, hm4, a4, j4⟩ := KB.out.get
          obtain ⟨eq4, _, hb4⟩ := a4 (by omega)
          simp only [Option.some.injEq, Addr.mk.injEq, and_true] at eq4
          obtain ⟨rfl, rfl⟩ := eq4
          obtain ⟨cs4, _, q4, hu4⟩ := j4 k _ HX.out
          obtain ⟨y1, y2, y3, e4', kph4, kco4, y4, e5', kto4⟩ := hu4
          subst e5'
          subst e4'
          obtain ⟨A8, k8, rfl⟩ := Row.form kph4
          obtain ⟨m0, m1, m2, m3, m4, m5, m6, m7, m8⟩ := at9 (cells_later q4 HBr2.out (by have := HHW.out; omega))
          have KP4 := Lib.hid kph4
          clear q4 j4 a4 kph4 kco4 kto4
          by_cases hlt2 : j < phs.length
          · obtain ⟨⟨dn, ins⟩, hxj⟩ : ∃ y, phs[j]? = some y := ⟨_, List.getElem?_eq_getElem hlt2⟩
            have kt2 := KP4.out
            obtain ⟨b5, of5, hn5, hm5, a5, j5⟩ := Row.get kt2
            obtain ⟨rfl, _, hb5⟩ := a5 (show 0 < phs.length by omega)
            obtain ⟨cs5, _, q5, hu5⟩ := j5 j _ hxj
            obtain ⟨x5, hu6, kin⟩ := hu5
            subst hu6
            obtain ⟨A9, k9, rfl⟩ := Row.form kin
            obtain ⟨n0, n1⟩ := at2 (cells_later q5 HBr2.out (by have := HHW.out; omega))
            have HXJ := Lib.hid hxj
            clear q5 j5 a5 hxj kin kt2
            by_cases h6 : ins.length ≤ 60
            · have e6 : decide ((60 : Int) < (ins.length : Int)) = false := decide_eq_false (by omega)
              have H6 := Lib.hid h6
              clear h6
              go_wp2_with fail
              go_roundw
              case rel => exact ⟨j + 1, by omega, by go_num, Lib.hid (take_in HXJ.out HPP.out H6.out), HBr2⟩
              case measure => simp [intOf]; omega
            · have e6 : decide ((60 : Int) < (ins.length : Int)) = true := decide_eq_true (by omega)
              have HNEG := Lib.hid (show ¬ FewP bl from fun h => h6 ((h.2 _ (List.mem_of_getElem? HX.out)).2.2 _ (List.mem_of_getElem? HXJ.out)))
              clear h6
              go_wp2_with fail
              go_ret
              exact ⟨false, rfl, ⟨fun h => (by cases h), fun h => absurd h HNEG.out⟩, HB.out.trans (HBr2.out.mono HB.out.size)⟩
          · have HPN := Lib.hid (take_in HX.out HK.out ⟨H8.out, H40.out, by have := HPP.out; rwa [List.take_of_length_le (by omega)] at this⟩)
            go_wp2_with fail
            go_roundw
            case rel => exact ⟨k + 1, by omega, by go_num, HPN, HBr2⟩
            case measure => simp [intOf]; omega
        · have e40 : decide ((40 : Int) < (phs.length : Int)) = true := decide_eq_true (by omega)
          have HNEG := Lib.hid (show ¬ FewP bl from fun h => h40 (h.2 _ (List.mem_of_getElem? HX.out)).2.1)
          clear h8 h40
          go_wp2_with fail
          go_ret
          exact ⟨false, rfl, ⟨fun h => (by cases h), fun h => absurd h HNEG.out⟩, HB.out.trans (HBr.out.mono HB.out.size)⟩
      · have e8 : decide ((8 : Int) < (td.length : Int)) = true := decide_eq_true (by omega)
        have HNEG := Lib.hid (show ¬ FewP bl from fun h => h8 (h.2 _ (List.mem_of_getElem? HX.out)).1)
        clear h8
        go_wp2_with fail
        go_ret
        exact ⟨false, rfl, ⟨fun h => (by cases h), fun h => absurd h HNEG.out⟩, HB.out.trans (HBr.out.mono HB.out.size)⟩
    · have HAL := Lib.hid (show FewP bl by
        refine ⟨h60, ?_⟩
        have := HK.out
        rwa [List.take_of_length_le (by omega)] at this)
      go_wp2_with fail
      go_ret
      exact ⟨true, rfl, ⟨fun _ => HAL.out, fun _ => rfl⟩, HB.out.trans (HBr.out.mono HB.out.size)⟩
  · have e60 : decide ((60 : Int) < (bl.length : Int)) = true := decide_eq_true (by omega)
    have HNEG := Lib.hid (show ¬ FewP bl from fun h => h60 h.1)
    clear h60
    go_enter Tryd.func35, Tryd.ntmps35
    go_wp2_with fail
    rw [HW.out]
    have f4 := HO.out.cell 4
    simp only [List.getElem?_cons_succ, List.getElem?_cons_zero] at f4
    go_wp2_with fail
    go_ret
    exact ⟨false, rfl, ⟨fun h => (by cases h), fun h => absurd h HNEG.out⟩, HB.out⟩
set_option maxRecDepth 100000 in
set_option maxHeartbeats 8000000 in
theorem few12_any (lo hi : Nat) (w : World) (cs : List Value) (f : Api.Func) (hf : FuncC lo hi w cs f) (hh : hi ≤ w.heap.size) (hG : Few6.funcS f) :
    Calls Tryd.prog 11 #[.agg cs.toArray] w (TP (Few12 f) w) := by
  have hf0 := hf
  obtain ⟨u1, u2, u3, rfl, kp, kv, kb⟩ := hf
  obtain ⟨nm, rs, ps, vs, bl⟩ := f
  simp only at kp kv kb
  obtain ⟨A1, k1, rfl⟩ := kp.form
  obtain ⟨A2, k2, rfl⟩ := kv.form
  obtain ⟨A3, k3, rfl⟩ := kb.form
  have hlb : bl.length ≤ 4611686018427387903 := by obtain ⟨_, _, _, h, _⟩ := kb.get; exact h
  obtain ⟨W, hW⟩ : ∃ W, w.alloc (.cells #[str nm, str rs, .slice A1 ps.length k1, .slice A2 vs.length k2, .slice A3 bl.length k3] 37) = W := ⟨_, rfl⟩
  obtain ⟨o1, b1, z1⟩ := box8 (c := [str nm, str rs, .slice A1 ps.length k1, .slice A2 vs.length k2, .slice A3 bl.length k3]) hW
  have HO := Lib.hid o1
  have HB := Lib.hid b1
  have HW := Lib.hid hW
  have HF := Lib.hid (fun (W' : World) (hb : Below w.heap.size w W') => (show FuncC lo hi W' _ ⟨nm, rs, ps, vs, bl⟩ from FuncC.move (Still.of_below (hb.mono hh)) hf0))
  have HH := Lib.hid (fun (W' : World) (hb : Below w.heap.size w W') => (show hi ≤ W'.heap.size from Nat.le_trans hh hb.size))
  have hq1 := fun (W' : World) (hb : Below w.heap.size w W') => cntFn_any lo hi W' _ _ (HF.out W' hb) (HH.out W' hb) hG
  have hzlt := o1.lt
  obtain ⟨S, hS⟩ : ∃ S, Few6.cFunc ⟨nm, rs, ps, vs, bl⟩ = S := ⟨_, rfl⟩
  rw [hS] at hq1
  have HQ1 := Lib.hid hq1
  have HSS := Lib.hid hS
  clear hf0 kp kv kb o1 b1 hW hq1 hG hS
  go_enter Tryd.func11, Tryd.ntmps11
  go_wp2_with fail
  rw [HW.out]
  have f0 := HO.out.cell 0
  have f1 := HO.out.cell 1
  have f2 := HO.out.cell 2
  have f3 := HO.out.cell 3
  have f4 := HO.out.cell 4
  simp only [List.getElem?_cons_succ, List.getElem?_cons_zero] at f0 f1 f2 f3 f4
  by_cases h1 : S ≤ 3000
  · have g1 : ∀ n : Nat, Few6.Cnt Few6.B3 3000 S n → ((n : Int) ≤ 3000) := fun n h => by rcases h with ⟨q1, q2⟩ | ⟨q1, q2, _⟩ <;> omega
    have G1 := Lib.hid g1
    clear g1
    by_cases h2 : FewP bl
    · have hq2 := fun (W' : World) (hb : Below w.heap.size w W') => bp_yes12 (fewB_any lo hi W' _ _ (HF.out W' hb) (HH.out W' hb)) h2
      have HQ2 := Lib.hid hq2
      by_cases h3 : bl.length ≤ 30
      · by_cases h4 : RightP bl
        · have hq4 := fun (W' : World) (hb : Below w.heap.size w W') => bp_yes12 (rright_any lo hi W' _ _ (HF.out W' hb) (HH.out W' hb) (by show bl.length ≤ _; omega)) h4
          have HQ4 := Lib.hid hq4
          have HRES := Lib.hid (show Few12 ⟨nm, rs, ps, vs, bl⟩ from ⟨by rw [HSS.out]; exact h1, h2, h3, h4⟩)
          have e3 : decide ((bl.length : Int) ≤ 30) = true := decide_eq_true (by omega)
          clear hq2 hq4 h1 h2 h4
          refine (HQ1.out _ HB.out).mono ?_
          rintro e w2 ⟨n2, rfl, hn2, hb2⟩
          have g2 := G1.out n2 hn2
          have g2d := decide_eq_true g2
          have HB2 := Lib.hid (HB.out.trans (hb2.mono HB.out.size))
          have HO2 := Lib.hid (HO.out.below hb2 HO.out.lt)
          have f0a := HO2.out.cell 0
          have f1a := HO2.out.cell 1
          have f2a := HO2.out.cell 2
          have f3a := HO2.out.cell 3
          have f4a := HO2.out.cell 4
          simp only [List.getElem?_cons_succ, List.getElem?_cons_zero] at f0a f1a f2a f3a f4a
          clear hb2 hn2
          go_wp2_with fail
          refine (HQ2.out _ HB2.out).mono ?_
          rintro e w3 ⟨rfl, hb3⟩
          have HB3 := Lib.hid (HB2.out.trans (hb3.mono HB2.out.size))
          have HO3 := Lib.hid (HO2.out.below hb3 HO2.out.lt)
          have f0b := HO3.out.cell 0
          have f1b := HO3.out.cell 1
          have f2b := HO3.out.cell 2
          have f3b := HO3.out.cell 3
          have f4b := HO3.out.cell 4
          simp only [List.getElem?_cons_succ, List.getElem?_cons_zero] at f0b f1b f2b f3b f4b
          clear hb3
          go_wp2_with fail
          refine (HQ4.out _ HB3.out).mono ?_
          rintro e w4 ⟨rfl, hb4⟩
          have HB4 := Lib.hid (HB3.out.trans (hb4.mono HB3.out.size))
          clear hb4
          go_wp2_with fail
          go_ret
          exact ⟨true, rfl, fun _ => HRES.out, HB4.out⟩
        · have hq4 := fun (W' : World) (hb : Below w.heap.size w W') => bp_no12 (rright_any lo hi W' _ _ (HF.out W' hb) (HH.out W' hb) (by show bl.length ≤ _; omega)) h4
          have HQ4 := Lib.hid hq4
          have e3 : decide ((bl.length : Int) ≤ 30) = true := decide_eq_true (by omega)
          clear hq2 hq4 h1 h2 h4
          refine (HQ1.out _ HB.out).mono ?_
          rintro e w2 ⟨n2, rfl, hn2, hb2⟩
          have g2 := G1.out n2 hn2
          have g2d := decide_eq_true g2
          have HB2 := Lib.hid (HB.out.trans (hb2.mono HB.out.size))
          have HO2 := Lib.hid (HO.out.below hb2 HO.out.lt)
          have f0a := HO2.out.cell 0
          have f1a := HO2.out.cell 1
          have f2a := HO2.out.cell 2
          have f3a := HO2.out.cell 3
          have f4a := HO2.out.cell 4
          simp only [List.getElem?_cons_succ, List.getElem?_cons_zero] at f0a f1a f2a f3a f4a
          clear hb2 hn2
          go_wp2_with fail
          refine (HQ2.out _ HB2.out).mono ?_
          rintro e w3 ⟨rfl, hb3⟩
          have HB3 := Lib.hid (HB2.out.trans (hb3.mono HB2.out.size))
          have HO3 := Lib.hid (HO2.out.below hb3 HO2.out.lt)
          have f0b := HO3.out.cell 0
          have f1b := HO3.out.cell 1
          have f2b := HO3.out.cell 2
          have f3b := HO3.out.cell 3
          have f4b := HO3.out.cell 4
          simp only [List.getElem?_cons_succ, List.getElem?_cons_zero] at f0b f1b f2b f3b f4b
          clear hb3
          go_wp2_with fail
          refine (HQ4.out _ HB3.out).mono ?_
          rintro e w4 ⟨rfl, hb4⟩
          have HB4 := Lib.hid (HB3.out.trans (hb4.mono HB3.out.size))
          clear hb4
          go_wp2_with fail
          go_ret
          exact ⟨false, rfl, fun h => (by cases h), HB4.out⟩
      · have e3 : decide ((bl.length : Int) ≤ 30) = false := decide_eq_false (by omega)
        clear hq2 h1 h2
        refine (HQ1.out _ HB.out).mono ?_
        rintro e w2 ⟨n2, rfl, hn2, hb2⟩
        have g2 := G1.out n2 hn2
        have g2d := decide_eq_true g2
        have HB2 := Lib.hid (HB.out.trans (hb2.mono HB.out.size))
        have HO2 := Lib.hid (HO.out.below hb2 HO.out.lt)
        have f0a := HO2.out.cell 0
        have f1a := HO2.out.cell 1
        have f2a := HO2.out.cell 2
        have f3a := HO2.out.cell 3
        have f4a := HO2.out.cell 4
        simp only [List.getElem?_cons_succ, List.getElem?_cons_zero] at f0a f1a f2a f3a f4a
        clear hb2 hn2
        go_wp2_with fail
        refine (HQ2.out _ HB2.out).mono ?_
        rintro e w3 ⟨rfl, hb3⟩
        have HB3 := Lib.hid (HB2.out.trans (hb3.mono HB2.out.size))
        have HO3 := Lib.hid (HO2.out.below hb3 HO2.out.lt)
        have f0b := HO3.out.cell 0
        have f1b := HO3.out.cell 1
        have f2b := HO3.out.cell 2
        have f3b := HO3.out.cell 3
        have f4b := HO3.out.cell 4
        simp only [List.getElem?_cons_succ, List.getElem?_cons_zero] at f0b f1b f2b f3b f4b
        clear hb3
        go_wp2_with fail
        go_ret
        exact ⟨false, rfl, fun h => (by cases h), HB3.out⟩
    · have hq2 := fun (W' : World) (hb : Below w.heap.size w W') => bp_no12 (fewB_any lo hi W' _ _ (HF.out W' hb) (HH.out W' hb)) h2
      have HQ2 := Lib.hid hq2
      clear hq2 h1 h2
      refine (HQ1.out _ HB.out).mono ?_
      rintro e w2 ⟨n2, rfl, hn2, hb2⟩
      have g2 := G1.out n2 hn2
      have g2d := decide_eq_true g2
      have HB2 := Lib.hid (HB.out.trans (hb2.mono HB.out.size))
      have HO2 := Lib.hid (HO.out.below hb2 HO.out.lt)
      have f0a := HO2.out.cell 0
      have f1a := HO2.out.cell 1
      have f2a := HO2.out.cell 2
      have f3a := HO2.out.cell 3
      have f4a := HO2.out.cell 4
      simp only [List.getElem?_cons_succ, List.getElem?_cons_zero] at f0a f1a f2a f3a f4a
      clear hb2 hn2
      go_wp2_with fail
      refine (HQ2.out _ HB2.out).mono ?_
      rintro e w3 ⟨rfl, hb3⟩
      have HB3 := Lib.hid (HB2.out.trans (hb3.mono HB2.out.size))
      have HO3 := Lib.hid (HO2.out.below hb3 HO2.out.lt)
      have f0b := HO3.out.cell 0
      have f1b := HO3.out.cell 1
      have f2b := HO3.out.cell 2
      have f3b := HO3.out.cell 3
      have f4b := HO3.out.cell 4
      simp only [List.getElem?_cons_succ, List.getElem?_cons_zero] at f0b f1b f2b f3b f4b
      clear hb3
      go_wp2_with fail
      go_ret
      exact ⟨false, rfl, fun h => (by cases h), HB3.out⟩
  · have g1 : ∀ n : Nat, Few6.Cnt Few6.B3 3000 S n → ¬ ((n : Int) ≤ 3000) := fun n h => by rcases h with ⟨q1, q2⟩ | ⟨q1, q2, _⟩ <;> omega
    have G1 := Lib.hid g1
    clear g1 h1
    refine (HQ1.out _ HB.out).mono ?_
    rintro e w2 ⟨n2, rfl, hn2, hb2⟩
    have g2 := G1.out n2 hn2
    have g2d := decide_eq_false g2
    have HB2 := Lib.hid (HB.out.trans (hb2.mono HB.out.size))
    have HO2 := Lib.hid (HO.out.below hb2 HO.out.lt)
    have f0a := HO2.out.cell 0
    have f1a := HO2.out.cell 1
    have f2a := HO2.out.cell 2
    have f3a := HO2.out.cell 3
    have f4a := HO2.out.cell 4
    simp only [List.getElem?_cons_succ, List.getElem?_cons_zero] at f0a f1a f2a f3a f4a
    clear hb2 hn2
    go_wp2_with fail
    go_ret
    exact ⟨false, rfl, fun h => (by cases h), HB2.out⟩
end Go.Proofs.YtdgmdpphimenjaaDoor.Lv12
