/-
  Package types: whether an instruction has its types.
-/
import Derived.Test.YtikfncgdjnljiaaDoorTySuit2
import Derived.Test.YtikfncgdjnljiaaDoorOfs
import Derived.Deep.QuietTactic
import Derived.BigQuiet
namespace Go.Proofs.YtikfncgdjnljiaaDoor.Ty7
open Go.RowKit Api Syn WordM Mem

theorem below_drewI {B : Nat} {a w : World} (h : Below B a w) (n : Nat) : Below B a (w.drewN n) := ⟨h.os, h.tape, h.output, h.size, h.block⟩
set_option linter.unusedVariables false
set_option maxRecDepth 100000 in
set_option maxHeartbeats 8000000 in
theorem instr_none (lo hi : Nat) (w : World) (cs cf ci : List Value) (q : Prog) (f : Api.Func) (x : Instr) (hq : ProgC lo hi w cs q) (hf : FuncC lo hi w cf f) (hx : InstrC lo hi w ci x) (hh : hi ≤ w.heap.size) (hL : Rd5.LaidS w) (hno : (formV x.op).2 = false) :
    Calls Tryd.prog 26 #[.agg cs.toArray, .agg cf.toArray, .agg ci.toArray] w fun e w' => e = .returned (.bool false) ∧ Below w.heap.size w w' := by
  obtain ⟨u1, u2, u3, u4, rfl, k1, k2, k3, k4⟩ := hq
  obtain ⟨B1, c1, rfl⟩ := k1.form
  obtain ⟨B2, c2, rfl⟩ := k2.form
  obtain ⟨B3, c3, rfl⟩ := k3.form
  obtain ⟨B4, c4, rfl⟩ := k4.form
  obtain ⟨v1, v2, v3, rfl, j1, j2, j3⟩ := hf
  obtain ⟨D1, d1, rfl⟩ := j1.form
  obtain ⟨D2, d2, rfl⟩ := j2.form
  obtain ⟨D3, d3, rfl⟩ := j3.form
  obtain ⟨t1, t2, t3, rfl, l1, l2, l3⟩ := hx
  obtain ⟨E1, e1, rfl⟩ := l1.form
  obtain ⟨E2, e2, rfl⟩ := l2.form
  obtain ⟨E3, e3, rfl⟩ := l3.form
  clear k1 k2 k3 k4 j1 j2 j3 l1 l2 l3
  obtain ⟨W, hW⟩ : ∃ W, ((w.alloc (.cells #[.bool q.ssa, .slice B1 q.classes.length c1, .slice B2 q.globals.length c2, .slice B3 q.externs.length c3, .slice B4 q.funcs.length c4] 27)).alloc (.cells #[str f.name, str f.result, .slice D1 f.params.length d1, .slice D2 f.vars.length d2, .slice D3 f.blocks.length d3] 30)).alloc (.cells #[i64 x.op, str x.dst, str x.name, .slice E1 x.args.length e1, .slice E2 x.frames.length e2, .slice E3 x.objs.length e3] 59) = W := ⟨_, rfl⟩
  have hb : Below w.heap.size w W := by rw [← hW]; exact (((Below.refl _ _).alloc (Nat.le_refl _) _).alloc (by simp) _).alloc (by simp; omega) _
  have HW := Lib.hid hW
  have HB := Lib.hid hb
  have QO := Rd5.of_int x.op W (hL.below hb (Nat.le_refl _))
  unfold Rd5.OfR at QO
  rw [hno] at QO
  have HQO := Lib.hid QO
  clear hW hb QO hno
  go_enter Tryd.func26, Tryd.ntmps26
  go_wp2_with fail
  rw [HW.out]
  refine HQO.out.mono ?_
  rintro e w5 ⟨rfl, hb5⟩
  have HB5 := Lib.hid (HB.out.trans (hb5.mono HB.out.size))
  clear hb5 HQO
  go_wp2_with fail
  go_ret
  exact ⟨rfl, HB5.out.alloc HB5.out.size _⟩
set_option maxRecDepth 100000 in
set_option maxHeartbeats 8000000 in
theorem instr_count (lo hi : Nat) (w : World) (cs cf ci : List Value) (q : Prog) (f : Api.Func) (x : Instr) (hq : ProgC lo hi w cs q) (hf : FuncC lo hi w cf f) (hx : InstrC lo hi w ci x) (hh : hi ≤ w.heap.size) (hL : Rd5.LaidS w) (hyes : (formV x.op).2 = true) (hcn : (x.args.length : Int) < (formV x.op).1.least ∨ (formV x.op).1.most < (x.args.length : Int)) :
    Calls Tryd.prog 26 #[.agg cs.toArray, .agg cf.toArray, .agg ci.toArray] w fun e w' => e = .returned (.bool false) ∧ Below w.heap.size w w' := by
  obtain ⟨u1, u2, u3, u4, rfl, k1, k2, k3, k4⟩ := hq
  obtain ⟨B1, c1, rfl⟩ := k1.form
  obtain ⟨B2, c2, rfl⟩ := k2.form
  obtain ⟨B3, c3, rfl⟩ := k3.form
  obtain ⟨B4, c4, rfl⟩ := k4.form
  obtain ⟨v1, v2, v3, rfl, j1, j2, j3⟩ := hf
  obtain ⟨D1, d1, rfl⟩ := j1.form
  obtain ⟨D2, d2, rfl⟩ := j2.form
  obtain ⟨D3, d3, rfl⟩ := j3.form
  obtain ⟨t1, t2, t3, rfl, l1, l2, l3⟩ := hx
  obtain ⟨E1, e1, rfl⟩ := l1.form
  obtain ⟨E2, e2, rfl⟩ := l2.form
  obtain ⟨E3, e3, rfl⟩ := l3.form
  clear k1 k2 k3 k4 j1 j2 j3 l1 l2 l3
  obtain ⟨W, hW⟩ : ∃ W, ((w.alloc (.cells #[.bool q.ssa, .slice B1 q.classes.length c1, .slice B2 q.globals.length c2, .slice B3 q.externs.length c3, .slice B4 q.funcs.length c4] 27)).alloc (.cells #[str f.name, str f.result, .slice D1 f.params.length d1, .slice D2 f.vars.length d2, .slice D3 f.blocks.length d3] 30)).alloc (.cells #[i64 x.op, str x.dst, str x.name, .slice E1 x.args.length e1, .slice E2 x.frames.length e2, .slice E3 x.objs.length e3] 59) = W := ⟨_, rfl⟩
  have hb : Below w.heap.size w W := by rw [← hW]; exact (((Below.refl _ _).alloc (Nat.le_refl _) _).alloc (by simp) _).alloc (by simp; omega) _
  have oi : Own W (w.heap.size + 1 + 1) 59 [i64 x.op, str x.dst, str x.name, .slice E1 x.args.length e1, .slice E2 x.frames.length e2, .slice E3 x.objs.length e3] := by
    rw [← hW]
    have := Own.made ((w.alloc (.cells #[.bool q.ssa, .slice B1 q.classes.length c1, .slice B2 q.globals.length c2, .slice B3 q.externs.length c3, .slice B4 q.funcs.length c4] 27)).alloc (.cells #[str f.name, str f.result, .slice D1 f.params.length d1, .slice D2 f.vars.length d2, .slice D3 f.blocks.length d3] 30)) 59 [i64 x.op, str x.dst, str x.name, .slice E1 x.args.length e1, .slice E2 x.frames.length e2, .slice E3 x.objs.length e3]
    rw [show ((w.alloc (.cells #[.bool q.ssa, .slice B1 q.classes.length c1, .slice B2 q.globals.length c2, .slice B3 q.externs.length c3, .slice B4 q.funcs.length c4] 27)).alloc (.cells #[str f.name, str f.result, .slice D1 f.params.length d1, .slice D2 f.vars.length d2, .slice D3 f.blocks.length d3] 30)).heap.size = w.heap.size + 1 + 1 by simp] at this
    exact this
  have HOI := Lib.hid oi
  have HW := Lib.hid hW
  have HB := Lib.hid hb
  have QO := Rd5.of_int x.op W (hL.below hb (Nat.le_refl _))
  unfold Rd5.OfR at QO
  rw [hyes] at QO
  have HQO := Lib.hid QO
  clear hW hb QO hyes oi
  go_enter Tryd.func26, Tryd.ntmps26
  go_wp2_with fail
  rw [HW.out]
  refine HQO.out.mono ?_
  rintro e w5 ⟨rfl, hb5⟩
  have HB5 := Lib.hid (HB.out.trans (hb5.mono HB.out.size))
  have oi5 := HOI.out.below hb5 HOI.out.lt
  have x3 := oi5.cell 3
  have r5 := oi5.lt
  simp only [List.getElem?_cons_succ, List.getElem?_cons_zero] at x3
  have HCN := Lib.hid hcn
  clear hb5 HQO oi5 hcn
  by_cases h1 : (x.args.length : Int) < (formV x.op).1.least
  · have e2 : decide ((x.args.length : Int) < (formV x.op).1.least) = true := decide_eq_true h1
    clear h1
    go_wp2_with fail
    go_ret
    exact ⟨rfl, HB5.out.alloc HB5.out.size _⟩
  · have e2 : decide ((x.args.length : Int) < (formV x.op).1.least) = false := decide_eq_false h1
    have e3 : decide ((formV x.op).1.most < (x.args.length : Int)) = true := decide_eq_true (by have := HCN.out; omega)
    clear h1
    go_wp2_with fail
    go_ret
    exact ⟨rfl, HB5.out.alloc HB5.out.size _⟩
set_option maxRecDepth 100000 in
set_option maxHeartbeats 8000000 in
theorem instr_rest (lo hi : Nat) (w : World) (cs cf ci : List Value) (q : Prog) (f : Api.Func) (x : Instr) (hq : ProgC lo hi w cs q) (hf : FuncC lo hi w cf f) (hx : InstrC lo hi w ci x) (hh : hi ≤ w.heap.size) (hL : Rd5.LaidS w)
    (HS : ∀ (w' : World) (tv : Value) (ts : List Wd) (dst : Wd), Below w.heap.size w w' → LinesM.Strs 0 w'.heap.size w' tv ts → ts.length = x.args.length → Calls Tryd.prog 59 #[.agg cs.toArray, .agg ci.toArray, tv, str dst] w' fun e w'' => e = .returned (.bool (suitsT q x ts dst)) ∧ Below w'.heap.size w' w'') (hl100 : x.args.length ≤ 100) (hyes : (formV x.op).2 = true) (h1 : (formV x.op).1.least ≤ (x.args.length : Int)) (h2 : (x.args.length : Int) ≤ (formV x.op).1.most) :
    Calls Tryd.prog 26 #[.agg cs.toArray, .agg cf.toArray, .agg ci.toArray] w fun e w' => e = .returned (.bool (if ((formV x.op).1.dst && (varOf f x.dst).isNone) = true then false else match typesA f x.args with | some ts => suitsT q x ts (((varOf f x.dst).map fun v => v.type).getD []) | none => false)) ∧ Below w.heap.size w w' := by
  obtain ⟨R, hR⟩ : ∃ R, (if ((formV x.op).1.dst && (varOf f x.dst).isNone) = true then false else match typesA f x.args with | some ts => suitsT q x ts (((varOf f x.dst).map fun v => v.type).getD []) | none => false) = R := ⟨_, rfl⟩
  rw [hR]
  have HRES := Lib.hid hR
  clear hR
  obtain ⟨u1, u2, u3, u4, rfl, k1, k2, k3, k4⟩ := hq
  obtain ⟨B1, c1, rfl⟩ := k1.form
  obtain ⟨B2, c2, rfl⟩ := k2.form
  obtain ⟨B3, c3, rfl⟩ := k3.form
  obtain ⟨B4, c4, rfl⟩ := k4.form
  have hf0 := hf
  obtain ⟨v1, v2, v3, rfl, j1, j2, j3⟩ := hf
  obtain ⟨D1, d1, rfl⟩ := j1.form
  obtain ⟨D2, d2, rfl⟩ := j2.form
  obtain ⟨D3, d3, rfl⟩ := j3.form
  obtain ⟨t1, t2, t3, rfl, l1, l2, l3⟩ := hx
  obtain ⟨E1, e1, rfl⟩ := l1.form
  obtain ⟨E2, e2, rfl⟩ := l2.form
  obtain ⟨E3, e3, rfl⟩ := l3.form
  have HXA := Lib.hid l1
  clear k1 k2 k3 k4 j1 j2 j3 l1 l2 l3
  obtain ⟨W, hW⟩ : ∃ W, ((w.alloc (.cells #[.bool q.ssa, .slice B1 q.classes.length c1, .slice B2 q.globals.length c2, .slice B3 q.externs.length c3, .slice B4 q.funcs.length c4] 27)).alloc (.cells #[str f.name, str f.result, .slice D1 f.params.length d1, .slice D2 f.vars.length d2, .slice D3 f.blocks.length d3] 30)).alloc (.cells #[i64 x.op, str x.dst, str x.name, .slice E1 x.args.length e1, .slice E2 x.frames.length e2, .slice E3 x.objs.length e3] 59) = W := ⟨_, rfl⟩
  have hb : Below w.heap.size w W := by rw [← hW]; exact (((Below.refl _ _).alloc (Nat.le_refl _) _).alloc (by simp) _).alloc (by simp; omega) _
  have oi : Own W (w.heap.size + 1 + 1) 59 [i64 x.op, str x.dst, str x.name, .slice E1 x.args.length e1, .slice E2 x.frames.length e2, .slice E3 x.objs.length e3] := by
    rw [← hW]
    have := Own.made ((w.alloc (.cells #[.bool q.ssa, .slice B1 q.classes.length c1, .slice B2 q.globals.length c2, .slice B3 q.externs.length c3, .slice B4 q.funcs.length c4] 27)).alloc (.cells #[str f.name, str f.result, .slice D1 f.params.length d1, .slice D2 f.vars.length d2, .slice D3 f.blocks.length d3] 30)) 59 [i64 x.op, str x.dst, str x.name, .slice E1 x.args.length e1, .slice E2 x.frames.length e2, .slice E3 x.objs.length e3]
    rw [show ((w.alloc (.cells #[.bool q.ssa, .slice B1 q.classes.length c1, .slice B2 q.globals.length c2, .slice B3 q.externs.length c3, .slice B4 q.funcs.length c4] 27)).alloc (.cells #[str f.name, str f.result, .slice D1 f.params.length d1, .slice D2 f.vars.length d2, .slice D3 f.blocks.length d3] 30)).heap.size = w.heap.size + 1 + 1 by simp] at this
    exact this
  have HOI := Lib.hid oi
  have of1 : Own W (w.heap.size + 1) 30 [str f.name, str f.result, .slice D1 f.params.length d1, .slice D2 f.vars.length d2, .slice D3 f.blocks.length d3] := by
    rw [← hW]
    have := Own.made (w.alloc (.cells #[.bool q.ssa, .slice B1 q.classes.length c1, .slice B2 q.globals.length c2, .slice B3 q.externs.length c3, .slice B4 q.funcs.length c4] 27)) 30 [str f.name, str f.result, .slice D1 f.params.length d1, .slice D2 f.vars.length d2, .slice D3 f.blocks.length d3]
    rw [show (w.alloc (.cells #[.bool q.ssa, .slice B1 q.classes.length c1, .slice B2 q.globals.length c2, .slice B3 q.externs.length c3, .slice B4 q.funcs.length c4] 27)).heap.size = w.heap.size + 1 by simp] at this
    exact this.alloc _
  have HOF := Lib.hid of1
  have op1 : Own W w.heap.size 27 [.bool q.ssa, .slice B1 q.classes.length c1, .slice B2 q.globals.length c2, .slice B3 q.externs.length c3, .slice B4 q.funcs.length c4] := by rw [← hW]; exact ((Own.made w 27 [.bool q.ssa, .slice B1 q.classes.length c1, .slice B2 q.globals.length c2, .slice B3 q.externs.length c3, .slice B4 q.funcs.length c4]).alloc _).alloc _
  have HOP := Lib.hid op1
  have HF0 := Lib.hid hf0
  have HW := Lib.hid hW
  have HB := Lib.hid hb
  have QO := Rd5.of_int x.op W (hL.below hb (Nat.le_refl _))
  unfold Rd5.OfR at QO
  rw [hyes] at QO
  have HQO := Lib.hid QO
  clear hW hb QO hyes oi of1 op1 hf0
  go_enter Tryd.func26, Tryd.ntmps26
  go_wp2_with fail
  rw [HW.out]
  refine HQO.out.mono ?_
  rintro e w5 ⟨rfl, hb5⟩
  have HB5 := Lib.hid (HB.out.trans (hb5.mono HB.out.size))
  have HBW5 := Lib.hid hb5
  have oi5 := HOI.out.below hb5 HOI.out.lt
  have x3 := oi5.cell 3
  have r5 := oi5.lt
  simp only [List.getElem?_cons_succ, List.getElem?_cons_zero] at x3
  have x0 := oi5.cell 0
  have x1 := oi5.cell 1
  have x2 := oi5.cell 2
  have x4 := oi5.cell 4
  have x5 := oi5.cell 5
  have of5 := HOF.out.below hb5 HOF.out.lt
  have g0 := of5.cell 0
  have g1 := of5.cell 1
  have g2 := of5.cell 2
  have g3 := of5.cell 3
  have g4 := of5.cell 4
  have r4 := of5.lt
  simp only [List.getElem?_cons_succ, List.getElem?_cons_zero] at x0 x1 x2 x4 x5 g0 g1 g2 g3 g4
  have e2 : decide ((x.args.length : Int) < (formV x.op).1.least) = false := decide_eq_false (by omega)
  have e3 : decide ((formV x.op).1.most < (x.args.length : Int)) = false := decide_eq_false (by omega)
  have HOF5 := Lib.hid of5
  have HOI5 := Lib.hid oi5
  clear hb5 HQO oi5 of5 h1 h2
  obtain ⟨W5, hW5⟩ : ∃ W5, w5.alloc (.cells #[str (formV x.op).1.word, .bool (formV x.op).1.dst, .bool (formV x.op).1.named, i64 (formV x.op).1.least, i64 (formV x.op).1.most] 97) = W5 := ⟨_, rfl⟩
  have hb9 : Below w5.heap.size w5 W5 := by rw [← hW5]; exact (Below.refl _ _).alloc (Nat.le_refl _) _
  have HB9 := Lib.hid (HB5.out.trans (hb9.mono HB5.out.size))
  have HBW9 := Lib.hid (HBW5.out.trans (hb9.mono HBW5.out.size))
  have QV := Lib.hid (variable_any lo hi W5 _ f (FuncC.move (Still.of_below (HB9.out.mono hh)) HF0.out) (Nat.le_trans hh HB9.out.size) x.dst ⟨x.dst.toArray⟩ rfl)
  have HW5 := Lib.hid hW5
  have og : Own W5 w5.heap.size 97 [str (formV x.op).1.word, .bool (formV x.op).1.dst, .bool (formV x.op).1.named, i64 (formV x.op).1.least, i64 (formV x.op).1.most] := by rw [← hW5]; exact Own.made w5 _ [str (formV x.op).1.word, .bool (formV x.op).1.dst, .bool (formV x.op).1.named, i64 (formV x.op).1.least, i64 (formV x.op).1.most]
  have HOG := Lib.hid og
  have HOF9 := Lib.hid (HOF5.out.below hb9 HOF5.out.lt)
  have HOI9 := Lib.hid (HOI5.out.below hb9 HOI5.out.lt)
  clear hW5 hb9 og
  go_wp2_with fail
  rw [HW5.out]
  refine QV.out.mono ?_
  intro e w6 hP
  clear x0 x1 x2 x3 x4 x5 g0 g1 g2 g3 g4 r4 r5 e2 e3 QV
  cases hr : varOf f x.dst with
  | none =>
    rw [hr] at hP
    obtain ⟨rfl, hb6⟩ := VarP.none hP
    have HB6 := Lib.hid (HB9.out.trans (hb6.mono HB9.out.size))
    have HBW6 := Lib.hid (HBW9.out.trans (hb6.mono HBW9.out.size))
    have HOF6 := Lib.hid (HOF9.out.below hb6 HOF9.out.lt)
    have HOI6 := Lib.hid (HOI9.out.below hb6 HOI9.out.lt)
    have og6 := HOG.out.below hb6 HOG.out.lt
    have y1 := og6.cell 1
    have g0 := HOF6.out.cell 0
    have g1 := HOF6.out.cell 1
    have g2 := HOF6.out.cell 2
    have g3 := HOF6.out.cell 3
    have g4 := HOF6.out.cell 4
    have x3 := HOI6.out.cell 3
    have r4 := HOF6.out.lt
    have r5 := HOI6.out.lt
    have r6 := og6.lt
    simp only [List.getElem?_cons_succ, List.getElem?_cons_zero] at y1 g0 g1 g2 g3 g4 x3
    have HRR := Lib.hid hr
    clear hP hb6 og6 hr
    obtain ⟨fd, hfd⟩ : ∃ d, (formV x.op).1.dst = d := ⟨_, rfl⟩
    rw [hfd] at y1
    have HFD := Lib.hid hfd
    clear hfd
    cases fd with
    | true =>
      go_wp2_with fail
      go_ret
      exact ⟨by rw [← HRES.out]; simp only [HRR.out, HFD.out]; rfl, HB6.out.alloc HB6.out.size _⟩
    | false =>
      obtain ⟨W7, hW7⟩ : ∃ W7, w6.alloc (.cells #[str [], str []] 40) = W7 := ⟨_, rfl⟩
      have hb7 : Below w6.heap.size w6 W7 := by rw [← hW7]; exact (Below.refl _ _).alloc (Nat.le_refl _) _
      have HB7 := Lib.hid (HB6.out.trans (hb7.mono HB6.out.size))
      have od7 : Own W7 w6.heap.size 40 [str [], str []] := by rw [← hW7]; exact Own.made w6 _ [str [], str []]
      have HOD := Lib.hid od7
      have HOI7 := Lib.hid (HOI6.out.below hb7 HOI6.out.lt)
      have HOP7 := Lib.hid (HOP.out.below (B := W.heap.size) ((HBW6.out).trans (hb7.mono (HBW6.out).size)) HOP.out.lt)
      have QT := Lib.hid (typesOf_any lo hi W7 _ f (FuncC.move (Still.of_below (HB7.out.mono hh)) HF0.out) (Nat.le_trans hh HB7.out.size) _ x.args (Args.move (Still.of_below (HB7.out.mono hh)) HXA.out) (by omega))
      have HW7 := Lib.hid hW7
      clear hW7 hb7 od7
      go_wp2_with fail
      rw [HW7.out]
      refine QT.out.mono ?_
      intro e w8 hP
      clear QT y1 g0 g1 g2 g3 g4 x3 r4 r5 r6
      cases hts : typesA f x.args with
      | none =>
        rw [hts] at hP
        obtain ⟨hb8, rfl⟩ := hP
        have HB8 := Lib.hid (HB7.out.trans (hb8.mono HB7.out.size))
        have HTS := Lib.hid hts
        have od8 := HOD.out.below hb8 HOD.out.lt
        have oi8 := HOI7.out.below hb8 HOI7.out.lt
        have op8 := HOP7.out.below hb8 HOP7.out.lt
        have z1 := od8.cell 1
        simp only [List.getElem?_cons_succ, List.getElem?_cons_zero] at z1
        clear hb8 hts od8 oi8 op8
        go_wp2_with fail
        try go_quiet (fail)
        go_wp2_with fail
        go_ret
        first | exact ⟨by rw [← HRES.out]; simp only [HRR.out, HTS.out, HFD.out]; rfl, HB8.out⟩ | exact ⟨by rw [← HRES.out]; simp only [HRR.out, HTS.out, HFD.out]; rfl, below_drewI HB8.out _⟩
      | some ts =>
        rw [hts] at hP
        obtain ⟨hb8, v8, rfl, ho8⟩ := hP
        have HB8 := Lib.hid (HB7.out.trans (hb8.mono HB7.out.size))
        have HTS := Lib.hid hts
        have od8 := HOD.out.below hb8 HOD.out.lt
        have oi8 := HOI7.out.below hb8 HOI7.out.lt
        have op8 := HOP7.out.below hb8 HOP7.out.lt
        have z1 := od8.cell 1
        have a0 := op8.cell 0
        have a1 := op8.cell 1
        have a2 := op8.cell 2
        have a3 := op8.cell 3
        have a4 := op8.cell 4
        have x0 := oi8.cell 0
        have x1 := oi8.cell 1
        have x2 := oi8.cell 2
        have x3 := oi8.cell 3
        have x4 := oi8.cell 4
        have x5 := oi8.cell 5
        simp only [List.getElem?_cons_succ, List.getElem?_cons_zero] at z1 a0 a1 a2 a3 a4 x0 x1 x2 x3 x4 x5
        have QS := Lib.hid fun n' => HS (w8.drewN n') v8 ts [] (below_drewI HB8.out n') (LinesM.Strs.wide (LinesM.Strs.of_own (w := w8.drewN n') ho8 (Nat.le_refl _)) (Nat.zero_le _) (Nat.le_refl _)) (types_len hts)
        clear hb8 hts od8 oi8 op8 ho8
        go_wp2_with fail
        refine (QS.out 0).mono ?_
        rintro e w9 ⟨rfl, hb9⟩
        have HB9' := Lib.hid (HB8.out.trans (hb9.mono HB8.out.size))
        clear hb9 QS z1 a0 a1 a2 a3 a4 x0 x1 x2 x3 x4 x5
        go_wp2_with fail
        go_ret
        exact ⟨by rw [← HRES.out]; simp only [HRR.out, HTS.out, HFD.out]; rfl, HB9'.out⟩
  | some v =>
    rw [hr] at hP
    obtain ⟨rfl, hb6⟩ := VarP.some hP
    have HB6 := Lib.hid (HB9.out.trans (hb6.mono HB9.out.size))
    have HBW6 := Lib.hid (HBW9.out.trans (hb6.mono HBW9.out.size))
    have HOF6 := Lib.hid (HOF9.out.below hb6 HOF9.out.lt)
    have HOI6 := Lib.hid (HOI9.out.below hb6 HOI9.out.lt)
    have og6 := HOG.out.below hb6 HOG.out.lt
    have y1 := og6.cell 1
    have g0 := HOF6.out.cell 0
    have g1 := HOF6.out.cell 1
    have g2 := HOF6.out.cell 2
    have g3 := HOF6.out.cell 3
    have g4 := HOF6.out.cell 4
    have x3 := HOI6.out.cell 3
    have r4 := HOF6.out.lt
    have r5 := HOI6.out.lt
    have r6 := og6.lt
    simp only [List.getElem?_cons_succ, List.getElem?_cons_zero] at y1 g0 g1 g2 g3 g4 x3
    have HRR := Lib.hid hr
    clear hP hb6 og6 hr
    obtain ⟨fd, hfd⟩ : ∃ d, (formV x.op).1.dst = d := ⟨_, rfl⟩
    rw [hfd] at y1
    have HFD := Lib.hid hfd
    clear hfd
    cases fd
    all_goals
      obtain ⟨W7, hW7⟩ : ∃ W7, w6.alloc (.cells #[str v.name, str v.type] 40) = W7 := ⟨_, rfl⟩
      have hb7 : Below w6.heap.size w6 W7 := by rw [← hW7]; exact (Below.refl _ _).alloc (Nat.le_refl _) _
      have HB7 := Lib.hid (HB6.out.trans (hb7.mono HB6.out.size))
      have od7 : Own W7 w6.heap.size 40 [str v.name, str v.type] := by rw [← hW7]; exact Own.made w6 _ [str v.name, str v.type]
      have HOD := Lib.hid od7
      have HOI7 := Lib.hid (HOI6.out.below hb7 HOI6.out.lt)
      have HOP7 := Lib.hid (HOP.out.below (B := W.heap.size) ((HBW6.out).trans (hb7.mono (HBW6.out).size)) HOP.out.lt)
      have QT := Lib.hid (typesOf_any lo hi W7 _ f (FuncC.move (Still.of_below (HB7.out.mono hh)) HF0.out) (Nat.le_trans hh HB7.out.size) _ x.args (Args.move (Still.of_below (HB7.out.mono hh)) HXA.out) (by omega))
      have HW7 := Lib.hid hW7
      clear hW7 hb7 od7
      go_wp2_with fail
      rw [HW7.out]
      refine QT.out.mono ?_
      intro e w8 hP
      clear QT y1 g0 g1 g2 g3 g4 x3 r4 r5 r6
      cases hts : typesA f x.args with
      | none =>
        rw [hts] at hP
        obtain ⟨hb8, rfl⟩ := hP
        have HB8 := Lib.hid (HB7.out.trans (hb8.mono HB7.out.size))
        have HTS := Lib.hid hts
        have od8 := HOD.out.below hb8 HOD.out.lt
        have oi8 := HOI7.out.below hb8 HOI7.out.lt
        have op8 := HOP7.out.below hb8 HOP7.out.lt
        have z1 := od8.cell 1
        simp only [List.getElem?_cons_succ, List.getElem?_cons_zero] at z1
        clear hb8 hts od8 oi8 op8
        go_wp2_with fail
        try go_quiet (fail)
        go_wp2_with fail
        go_ret
        first | exact ⟨by rw [← HRES.out]; simp only [HRR.out, HTS.out, HFD.out]; rfl, HB8.out⟩ | exact ⟨by rw [← HRES.out]; simp only [HRR.out, HTS.out, HFD.out]; rfl, below_drewI HB8.out _⟩
      | some ts =>
        rw [hts] at hP
        obtain ⟨hb8, v8, rfl, ho8⟩ := hP
        have HB8 := Lib.hid (HB7.out.trans (hb8.mono HB7.out.size))
        have HTS := Lib.hid hts
        have od8 := HOD.out.below hb8 HOD.out.lt
        have oi8 := HOI7.out.below hb8 HOI7.out.lt
        have op8 := HOP7.out.below hb8 HOP7.out.lt
        have z1 := od8.cell 1
        have a0 := op8.cell 0
        have a1 := op8.cell 1
        have a2 := op8.cell 2
        have a3 := op8.cell 3
        have a4 := op8.cell 4
        have x0 := oi8.cell 0
        have x1 := oi8.cell 1
        have x2 := oi8.cell 2
        have x3 := oi8.cell 3
        have x4 := oi8.cell 4
        have x5 := oi8.cell 5
        simp only [List.getElem?_cons_succ, List.getElem?_cons_zero] at z1 a0 a1 a2 a3 a4 x0 x1 x2 x3 x4 x5
        have QS := Lib.hid fun n' => HS (w8.drewN n') v8 ts v.type (below_drewI HB8.out n') (LinesM.Strs.wide (LinesM.Strs.of_own (w := w8.drewN n') ho8 (Nat.le_refl _)) (Nat.zero_le _) (Nat.le_refl _)) (types_len hts)
        clear hb8 hts od8 oi8 op8 ho8
        go_wp2_with fail
        refine (QS.out 0).mono ?_
        rintro e w9 ⟨rfl, hb9⟩
        have HB9' := Lib.hid (HB8.out.trans (hb9.mono HB8.out.size))
        clear hb9 QS z1 a0 a1 a2 a3 a4 x0 x1 x2 x3 x4 x5
        go_wp2_with fail
        go_ret
        exact ⟨by rw [← HRES.out]; simp only [HRR.out, HTS.out, HFD.out]; rfl, HB9'.out⟩
end Go.Proofs.YtikfncgdjnljiaaDoor.Ty7
