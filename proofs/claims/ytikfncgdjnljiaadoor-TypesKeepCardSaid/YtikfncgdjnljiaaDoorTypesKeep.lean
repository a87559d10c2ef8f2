/-
  An instruction that has its types has them with more declared behind the others.
-/
import Derived.Test.YtikfncgdjnljiaaDoorRows
import Derived.Test.YtikfncgdjnljiaaDoorGrK
import Derived.Test.YtikfncgdjnljiaaDoorOpenP
import Derived.Test.YtikfncgdjnljiaaDoorWords9
import Derived.Test.YtikfncgdjnljiaaDoorFlDownW
import Derived.Deep.RegionHeld3
import Derived.Deep.RegionLaw
import Derived.Deep.DeepCutAuto
import Derived.Test.YtikfncgdjnljiaaDoorShell
import Derived.ProofKit
import Derived.OpenShut
import Derived.SizedLaws
import Derived.Test.YtikfncgdjnljiaaDoorLaidS
import Derived.Test.YtikfncgdjnljiaaDoorTie
import Derived.Test.YtikfncgdjnljiaaDoorCards
import Derived.LaidMore
import Derived.Stop.Joined
import Derived.SevenTiedAt
namespace Go.Proofs.YtikfncgdjnljiaaDoor.typesKeep
open Go.ChangeShapes Go.WideShapes Go.ChangeAt Go.RowKit
open Api Syn Mem Ty7 L07 Few6
theorem empty_row (w : World) (t : TypeId) (size : Nat) : (w.alloc (.cells #[] t)).ownsRow w.heap.size t size (.slice (some ⟨w.heap.size, 0, none⟩) 0 0) 0 [] := by
  have := World.ownsRow_lit (base := w.heap.size) (e := t) (size := size) w #[] 0 (Nat.le_refl _) (by unfold maxLen; omega) (by simp)
  simpa using this
theorem row_aside {w : World} {base : Nat} {e : TypeId} {size n : Nat} {v : Value} {cs : List Value} (h : w.ownsRow base e size v n cs) {g : Nat} (i : Nat) (hp : g < base) (u : Value) : (w.setCell ⟨g, i, none⟩ u).ownsRow base e size v n cs := by
  refine ⟨h.1, ?_⟩
  rcases h.2 with hn | ⟨k, cap, cur, e2, hb, hg, r⟩
  · exact .inl hn
  · exact .inr ⟨k, cap, cur, e2, hb, (Below.heap_setCell w ⟨g, i, none⟩ u k (by simp only; omega)).trans hg, r⟩
theorem row_below {w w' : World} {base : Nat} {e : TypeId} {size n : Nat} {v : Value} {cs : List Value} (h : w.ownsRow base e size v n cs) (hb : Below w.heap.size w w') : w'.ownsRow base e size v n cs := Hold.Rec.on.below (r := ⟨e, size, v, n, cs⟩) h hb
theorem row_drew {w : World} {base : Nat} {e : TypeId} {size n : Nat} {v : Value} {cs : List Value} (h : w.ownsRow base e size v n cs) : w.drew.ownsRow base e size v n cs := row_below h (Below.refl _ _).drew
theorem own_grown {w w' : World} {g : Nat} {t : TypeId} {cs : List Value} {r : Option Nat} (o : Own w g t cs) (h : w.grownBy w' r) (hr : some g ≠ r) : Own w' g t cs := (h.block g o.lt hr).trans o
theorem row_plain {w : World} {base : Nat} {e : TypeId} {size n m : Nat} {v : Value} {cs ds : List Value} (h : w.ownsRow base e size v (0 + n + m) ([] ++ cs ++ ds)) : w.ownsRow base e size v (n + m) (cs ++ ds) := by
  rw [Nat.zero_add, List.nil_append] at h
  exact h
theorem step_all {P : Program} {ops : Array Oper} {o : Oper} {a : Go.Act} {w : World} {K : Go.Act → World → Prop} {Q : Exit → Go.Act → World → Prop} {E : Prop} (hgd : o.guard = none) (s x : Operand) (t : TypeId)
    (hop : o.op = .call { callee := .builtin .append, args := #[s, x], argTypes := #[t, t] })
    (base : Nat) (e : TypeId) (z : Value) (size bytes : Nat) (ht : P.underlying t = some (.slice e)) (hinf : (P.info? e).map (fun i => (i.zero, i.size, i.bytes)) = some (some z, size, bytes)) (hzs : z.cells.size = size) (hsz : 0 < size)
    (v : Value) (n : Nat) (xs : List Value) (hs : a.eval s = v) (hown : w.ownsRow base e size v n xs)
    (A : Option Addr) (m cap b off : Nat) (news : List Value) (hx : a.eval x = .slice A m cap) (hA : 0 < m → A = some ⟨b, off, none⟩) (hl : news.length = m * size) (hc : ∀ j u, news[j]? = some u → w.cell? ⟨b, off + j, none⟩ = some u) (h1 : ∀ u ∈ news, u.oneCell' = true)
    (h63 : n + m ≤ maxLen) (hbytes : (n + m) * bytes ≤ 140737488355328) (hbase : base ≤ w.heap.size)
    (hK : ∀ v' w', w'.ownsRow base e size v' (n + m) (xs ++ news) → Below base w w' → K (a.put o.dst v') w') :
    if Region.wanted o (yielded ops a.tmps) = true then Oper.wp P o a w K Q else E := by
  obtain ⟨i, hi, hz0, hz1, hz2⟩ := info_parts hinf
  by_cases hm : m = 0
  · subst hm
    obtain rfl : news = [] := List.eq_nil_of_length_eq_zero (by simpa using hl)
    have hwt : Region.wanted o (yielded ops a.tmps) = true := by simp [Region.wanted, hgd]
    rw [if_pos hwt]
    have hrun := Hp15.app_zero15 (P := P) (w := w) base t o.type e i size ht hi v n xs hown A cap
    unfold Oper.wp
    simp [execOp, hop, resolve, invoke, builtin, hs, hx, hrun, Result.andThen]
    exact hK _ _ (by simpa using hown) (Below.refl _ _)
  · obtain rfl := hA (by omega)
    exact Sh6.step_read hgd s x t hop base e i z size bytes ht hi hz0 hz1 hz2 hzs hsz v n xs hs hown b off m cap news hx hl hc h1 h63 hbytes hbase hK
theorem step_all2 {P : Program} {ops : Array Oper} {o : Oper} {a : Go.Act} {w : World} {K : Go.Act → World → Prop} {Q : Exit → Go.Act → World → Prop} {E : Prop} (hgd : o.guard = none) (s x : Operand) (t : TypeId)
    (hop : o.op = .call { callee := .builtin .append, args := #[s, x], argTypes := #[t, t] })
    (base : Nat) (e : TypeId) (z : Value) (size bytes : Nat) (ht : P.underlying t = some (.slice e)) (hinf : (P.info? e).map (fun i => (i.zero, i.size, i.bytes)) = some (some z, size, bytes)) (hzs : z.cells.size = size) (hsz : 0 < size)
    (v : Value) (n : Nat) (xs : List Value) (hs : a.eval s = v) (hown : w.ownsRow base e size v n xs)
    (A : Option Addr) (m cap b off : Nat) (news : List Value) (hx : a.eval x = .slice A m cap) (hA : 0 < m → A = some ⟨b, off, none⟩) (hl : news.length = m * size) (hc : ∀ j u, news[j]? = some u → w.cell? ⟨b, off + j, none⟩ = some u) (h1 : ∀ u ∈ news, u.oneCell' = true)
    (h63 : n + m ≤ maxLen) (hbytes : (n + m) * bytes ≤ 140737488355328) (hbase : base ≤ w.heap.size)
    (hK : ∀ v' w', w'.ownsRow base e size v' (n + m) (xs ++ news) → w.grownBy w' v.ownBlock → K (a.put o.dst v') w') :
    if Region.wanted o (yielded ops a.tmps) = true then Oper.wp P o a w K Q else E := by
  obtain ⟨i, hi, hz0, hz1, hz2⟩ := info_parts hinf
  by_cases hm : m = 0
  · subst hm
    obtain rfl : news = [] := List.eq_nil_of_length_eq_zero (by simpa using hl)
    have hwt : Region.wanted o (yielded ops a.tmps) = true := by simp [Region.wanted, hgd]
    rw [if_pos hwt]
    have hrun := Hp15.app_zero15 (P := P) (w := w) base t o.type e i size ht hi v n xs hown A cap
    unfold Oper.wp
    simp [execOp, hop, resolve, invoke, builtin, hs, hx, hrun, Result.andThen]
    exact hK _ _ (by simpa using hown) (Hold.grown_all (Below.refl _ _) _)
  · obtain rfl := hA (by omega)
    have hwt : Region.wanted o (yielded ops a.tmps) = true := by simp [Region.wanted, hgd]
    rw [if_pos hwt]
    refine wp_append_own (w := w) s x t hop base e i z size bytes ht hi hz0 hz1 hz2 hzs hsz v n xs hs hown ⟨b, off, none⟩ m cap news hx hl (fun j u hu => ?_) h1 h63 hbytes hbase ?_
    · have e1 : (⟨b, off, none⟩ : Addr).add j = ⟨b, off + j, none⟩ := by unfold Addr.add; split <;> simp_all
      rw [e1]; exact hc j u hu
    · intro v' w' h2 h3 _
      exact hK v' w' h2 h3
theorem ones_class {lo hi : Nat} {w : World} (ds : List Value) (x : Api.Class) (h : ClassC lo hi w ds x) : ∀ u ∈ ds, u.oneCell' = true := by
  obtain ⟨u, rfl, hu⟩ := h
  intro y hy
  simp at hy
  rcases hy with rfl | rfl
  · rfl
  · exact Chk.ones_slice hu
theorem ones_var7 (ds : List Value) (x : Api.Var) (h : ds = varC x) : ∀ u ∈ ds, u.oneCell' = true := by
  subst h
  intro u hu
  simp [varC] at hu
  rcases hu with rfl | rfl <;> rfl
theorem ones_ext (ds : List Value) (x : Api.Extern) (h : ds = externC x) : ∀ u ∈ ds, u.oneCell' = true := by
  subst h
  intro u hu
  simp [externC] at hu
  rcases hu with rfl | rfl <;> rfl
theorem info_class7 : (Tryd.prog.info? 36).map (fun i => (i.zero, i.size, i.bytes)) = some (some (.agg #[str [], .slice none 0 0]), 2, 40) := by kernel_rfl
theorem info_ext7 : (Tryd.prog.info? 47).map (fun i => (i.zero, i.size, i.bytes)) = some (some (.agg #[str [], i64 0]), 2, 24) := by kernel_rfl
theorem info_func7 : (Tryd.prog.info? 30).map (fun i => (i.zero, i.size, i.bytes)) = some (some (.agg #[str [], str [], .slice none 0 0, .slice none 0 0, .slice none 0 0]), 5, 104) := by kernel_rfl
theorem info_var9 : (Tryd.prog.info? 40).map (fun i => (i.zero, i.size, i.bytes)) = some (some (.agg #[str [], str []]), 2, 32) := by kernel_rfl
set_option maxRecDepth 100000 in
set_option maxHeartbeats 32000000 in
theorem walk (v0 : Value) (q0 : Prog × List Value) (v1 : Value) (q1 : Api.Func × List Value) (v2 : Value) (q2 : Instr × List Value) (v3 : Value) (q3 : Prog × List Value) (v4 : Value) (q4 : Var × List Value) {w : World} (hq0 : v0 = .agg q0.2.toArray ∧ ProgC 0 w.heap.size w q0.2 q0.1 ∧ OpenP.progG q0.1) (hq1 : v1 = .agg q1.2.toArray ∧ FuncC 0 w.heap.size w q1.2 q1.1 ∧ OpenP.funcG q1.1) (hq2 : v2 = .agg q2.2.toArray ∧ InstrC 0 w.heap.size w q2.2 q2.1 ∧ OpenP.instrG q2.1) (hq3 : v3 = .agg q3.2.toArray ∧ ProgC 0 w.heap.size w q3.2 q3.1 ∧ OpenP.progG q3.1) (hq4 : v4 = .agg q4.2.toArray ∧ q4.2 = varC q4.1 ∧ OpenP.varG q4.1) (hL : Rd5.LaidS w) :
    Calls Tryd.prog 6 #[v0, v1, v2, v3, v4] w fun e w' => e = .returned (.bool true) ∧ Below w.heap.size w w' := by
  obtain ⟨p, cs0⟩ := q0
  obtain ⟨f, cs1⟩ := q1
  obtain ⟨x, cs2⟩ := q2
  obtain ⟨m, cs3⟩ := q3
  obtain ⟨v, cs4⟩ := q4
  obtain ⟨rfl, hp, hpG⟩ := hq0
  obtain ⟨rfl, hf, hfG⟩ := hq1
  obtain ⟨rfl, hx, hxG⟩ := hq2
  obtain ⟨rfl, hm, hmG⟩ := hq3
  obtain ⟨rfl, hv, hvG⟩ := hq4
  simp only at hp hf hx hm hv hpG hfG hmG
  have HP := Lib.hid hp
  have HF := Lib.hid hf
  have HI := Lib.hid hx
  have HM := Lib.hid hm
  have HPG := Lib.hid (prog_s hpG)
  have HFG := Lib.hid (func_s hfG)
  have HMG := Lib.hid (prog_s hmG)
  have HL := Lib.hid hL
  obtain ⟨u1, u2, u3, u4, rfl, k1, k2, k3, k4⟩ := hp
  obtain ⟨B1, c1, rfl⟩ := k1.form
  obtain ⟨B2, c2, rfl⟩ := k2.form
  obtain ⟨B3, c3, rfl⟩ := k3.form
  obtain ⟨B4, c4, rfl⟩ := k4.form
  have HK1 := Lib.hid k1
  have HK2 := Lib.hid k2
  have HK3 := Lib.hid k3
  have HK4 := Lib.hid k4
  obtain ⟨u1, u2, u3, u4, rfl, l1, l2, l3, l4⟩ := hm
  obtain ⟨M1, e1, rfl⟩ := l1.form
  obtain ⟨M2, e2, rfl⟩ := l2.form
  obtain ⟨M3, e3, rfl⟩ := l3.form
  obtain ⟨M4, e4, rfl⟩ := l4.form
  have HM1 := Lib.hid l1
  have HM2 := Lib.hid l2
  have HM3 := Lib.hid l3
  have HM4 := Lib.hid l4
  obtain ⟨f1, f2, f3, rfl, j1, j2, j3⟩ := hf
  obtain ⟨D1, d1, rfl⟩ := j1.form
  obtain ⟨D2, d2, rfl⟩ := j2.form
  obtain ⟨D3, d3, rfl⟩ := j3.form
  have HJ1 := Lib.hid j1
  have HJ2 := Lib.hid j2
  have HJ3 := Lib.hid j3
  obtain ⟨t1, t2, t3, rfl, n1, n2, n3⟩ := hx
  obtain ⟨E1, g1, rfl⟩ := n1.form
  obtain ⟨E2, g2, rfl⟩ := n2.form
  obtain ⟨E3, g3, rfl⟩ := n3.form
  obtain rfl : cs4 = [str v.name, str v.type] := hv
  clear k1 k2 k3 k4 l1 l2 l3 l4 j1 j2 j3 n1 n2 n3 hpG hfG hmG hxG hvG hL
  obtain ⟨W, hW⟩ : ∃ W, (((((w.alloc (.cells #[.bool p.ssa, .slice B1 p.classes.length c1, .slice B2 p.globals.length c2, .slice B3 p.externs.length c3, .slice B4 p.funcs.length c4] 27)).alloc (.cells #[str f.name, str f.result, .slice D1 f.params.length d1, .slice D2 f.vars.length d2, .slice D3 f.blocks.length d3] 30)).alloc (.cells #[i64 x.op, str x.dst, str x.name, .slice E1 x.args.length g1, .slice E2 x.frames.length g2, .slice E3 x.objs.length g3] 59)).alloc (.cells #[.bool m.ssa, .slice M1 m.classes.length e1, .slice M2 m.globals.length e2, .slice M3 m.externs.length e3, .slice M4 m.funcs.length e4] 27)).alloc (.cells #[str v.name, str v.type] 40)) = W := ⟨_, rfl⟩
  have hbw : Below w.heap.size w W := by
    rw [← hW]
    exact (((((Below.refl _ _).alloc (Nat.le_refl _) _).alloc (by simp) _).alloc (by simp; omega) _).alloc (by simp; omega) _).alloc (by simp; omega) _
  have HOP := Lib.hid (show Own W (w.heap.size) 27 [.bool p.ssa, .slice B1 p.classes.length c1, .slice B2 p.globals.length c2, .slice B3 p.externs.length c3, .slice B4 p.funcs.length c4] by rw [← hW]; exact ((((made7 (by simp) _ _).alloc _).alloc _).alloc _).alloc _)
  have HOF := Lib.hid (show Own W (w.heap.size + 1) 30 [str f.name, str f.result, .slice D1 f.params.length d1, .slice D2 f.vars.length d2, .slice D3 f.blocks.length d3] by rw [← hW]; exact (((made7 (by simp) _ _).alloc _).alloc _).alloc _)
  have HOX := Lib.hid (show Own W (w.heap.size + 1 + 1) 59 [i64 x.op, str x.dst, str x.name, .slice E1 x.args.length g1, .slice E2 x.frames.length g2, .slice E3 x.objs.length g3] by rw [← hW]; exact ((made7 (by simp) _ _).alloc _).alloc _)
  have HOM := Lib.hid (show Own W (w.heap.size + 1 + 1 + 1) 27 [.bool m.ssa, .slice M1 m.classes.length e1, .slice M2 m.globals.length e2, .slice M3 m.externs.length e3, .slice M4 m.funcs.length e4] by rw [← hW]; exact (made7 (by simp) _ _).alloc _)
  have HOV := Lib.hid (show Own W (w.heap.size + 1 + 1 + 1 + 1) 40 [str v.name, str v.type] by rw [← hW]; exact made7 (by simp) _ _)
  have HBW := Lib.hid hbw
  have HW := Lib.hid hW
  clear hbw hW
  go_enter Tryd.func6, Tryd.ntmps6
  go_wp2_with fail
  rw [HW.out]
  refine (L07.awake7_any W (HL.out.below HBW.out (Nat.le_refl _))).mono ?_
  rintro e w1 ⟨rfl, hb⟩
  have HC1 := Lib.hid hb
  have HX1 := Lib.hid (HBW.out.trans (hb.mono HBW.out.size))
  clear hb
  have po := HOP.out.below HC1.out HOP.out.lt
  have p0 := (po.cell 0).trans rfl
  have p1 := (po.cell 1).trans rfl
  have p2 := (po.cell 2).trans rfl
  have p3 := (po.cell 3).trans rfl
  have p4 := (po.cell 4).trans rfl
  have pl := po.lt
  clear po
  have fo := HOF.out.below HC1.out HOF.out.lt
  have f0 := (fo.cell 0).trans rfl
  have f1 := (fo.cell 1).trans rfl
  have f2 := (fo.cell 2).trans rfl
  have f3 := (fo.cell 3).trans rfl
  have f4 := (fo.cell 4).trans rfl
  have fl := fo.lt
  clear fo
  go_wp2_with fail
  refine (L07.few7_any w.heap.size w1 _ _ p f (ProgC.move (Still.of_below HX1.out) HP.out) (FuncC.move (Still.of_below HX1.out) HF.out) HX1.out.size HPG.out HFG.out).mono ?_
  rintro e w2 ⟨b, rfl, hfw, hb⟩
  have HC2 := Lib.hid (HC1.out.trans (hb.mono HC1.out.size))
  have HX2 := Lib.hid (HX1.out.trans (hb.mono HX1.out.size))
  clear hb p0 p1 p2 p3 p4 pl f0 f1 f2 f3 f4 fl
  cases b with
  | false =>
    clear hfw
    go_wp2_with fail
    refine (L07.awake7_any w2 (HL.out.below HX2.out (Nat.le_refl _))).mono ?_
    rintro e wz ⟨rfl, hbz⟩
    have HZ := Lib.hid (HX2.out.trans (hbz.mono HX2.out.size))
    clear hbz
    go_wp2_with fail
    go_ret
    exact ⟨rfl, HZ.out⟩
  | true =>
    have HFW := Lib.hid (hfw rfl)
    clear hfw
    have mo := HOM.out.below HC2.out HOM.out.lt
    have m0 := (mo.cell 0).trans rfl
    have m1 := (mo.cell 1).trans rfl
    have m2 := (mo.cell 2).trans rfl
    have m3 := (mo.cell 3).trans rfl
    have m4 := (mo.cell 4).trans rfl
    have ml := mo.lt
    clear mo
    go_wp2_with fail
    refine (L07.few7_any w.heap.size w2 _ [str [], str [], .slice none 0 0, .slice none 0 0, .slice none 0 0] m ⟨[], [], [], [], []⟩ (ProgC.move (Still.of_below HX2.out) HM.out) ⟨_, _, _, rfl, zero7, zero7, zero7⟩ HX2.out.size HMG.out (by simp [funcS])).mono ?_
    rintro e w3 ⟨b, rfl, hfw, hb⟩
    have HC3 := Lib.hid (HC2.out.trans (hb.mono HC2.out.size))
    have HX3 := Lib.hid (HX2.out.trans (hb.mono HX2.out.size))
    clear hb m0 m1 m2 m3 m4 ml
    cases b with
    | false =>
      clear hfw
      go_wp2_with fail
      refine (L07.awake7_any w3 (HL.out.below HX3.out (Nat.le_refl _))).mono ?_
      rintro e wz ⟨rfl, hbz⟩
      have HZ := Lib.hid (HX3.out.trans (hbz.mono HX3.out.size))
      clear hbz
      go_wp2_with fail
      go_ret
      exact ⟨rfl, HZ.out⟩
    | true =>
      have HFM := Lib.hid (hfw rfl)
      clear hfw
      have xo := HOX.out.below HC3.out HOX.out.lt
      have x0 := (xo.cell 0).trans rfl
      have x1 := (xo.cell 1).trans rfl
      have x2 := (xo.cell 2).trans rfl
      have x3 := (xo.cell 3).trans rfl
      have x4 := (xo.cell 4).trans rfl
      have x5 := (xo.cell 5).trans rfl
      have xl := xo.lt
      clear xo
      have po := HOP.out.below HC3.out HOP.out.lt
      have p0 := (po.cell 0).trans rfl
      have p1 := (po.cell 1).trans rfl
      have p2 := (po.cell 2).trans rfl
      have p3 := (po.cell 3).trans rfl
      have p4 := (po.cell 4).trans rfl
      have pl := po.lt
      clear po
      have fo := HOF.out.below HC3.out HOF.out.lt
      have f0 := (fo.cell 0).trans rfl
      have f1 := (fo.cell 1).trans rfl
      have f2 := (fo.cell 2).trans rfl
      have f3 := (fo.cell 3).trans rfl
      have f4 := (fo.cell 4).trans rfl
      have fl := fo.lt
      clear fo
      by_cases hal : x.args.length ≤ 100
      · have ehal : decide ((100 : Int) < (x.args.length : Int)) = false := decide_eq_false (by omega)
        obtain ⟨b, hbv⟩ : ∃ b, instrT p f x = b := ⟨_, rfl⟩
        have QI := instr_any7 w.heap.size w3 _ _ _ p f x (ProgC.move (Still.of_below HX3.out) HP.out) (FuncC.move (Still.of_below HX3.out) HF.out) (InstrC.move (Still.of_below HX3.out) HI.out) HX3.out.size (HL.out.below HX3.out (Nat.le_refl _))
        rw [hbv] at QI
        have HBV := Lib.hid hbv
        have QI := Lib.hid QI
        clear hbv
        go_wp2_with fail
        refine QI.out.mono ?_
        rintro e w4 ⟨rfl, hb⟩
        have HC4 := Lib.hid (HC3.out.trans (hb.mono HC3.out.size))
        have HX4 := Lib.hid (HX3.out.trans (hb.mono HX3.out.size))
        clear hb QI x0 x1 x2 x3 x4 x5 xl p0 p1 p2 p3 p4 pl f0 f1 f2 f3 f4 fl
        cases b with
        | false =>
          go_wp2_with fail
          refine (L07.awake7_any w4 (HL.out.below HX4.out (Nat.le_refl _))).mono ?_
          rintro e wz ⟨rfl, hbz⟩
          have HZ := Lib.hid (HX4.out.trans (hbz.mono HX4.out.size))
          clear hbz
          go_wp2_with fail
          go_ret
          exact ⟨rfl, HZ.out⟩
        | true =>
          have po := HOP.out.below HC4.out HOP.out.lt
          have p0 := (po.cell 0).trans rfl
          have p1 := (po.cell 1).trans rfl
          have p2 := (po.cell 2).trans rfl
          have p3 := (po.cell 3).trans rfl
          have p4 := (po.cell 4).trans rfl
          have pl := po.lt
          clear po
          obtain ⟨U0, hU0⟩ : ∃ X, w4.alloc (.cells #[.bool p.ssa, .slice B1 p.classes.length c1, .slice B2 p.globals.length c2, .slice B3 p.externs.length c3, .slice B4 p.funcs.length c4] 27) = X := ⟨_, rfl⟩
          have HQ0 := Lib.hid (show Own U0 w4.heap.size 27 [.bool p.ssa, .slice B1 p.classes.length c1, .slice B2 p.globals.length c2, .slice B3 p.externs.length c3, .slice B4 p.funcs.length c4] by rw [← hU0]; exact made7 rfl _ _)
          have HV0 := Lib.hid (show Below w4.heap.size w4 U0 by rw [← hU0]; exact (Below.refl _ _).alloc (Nat.le_refl _) _)
          have HCU0 := Lib.hid (HC4.out.trans (HV0.out.mono HC4.out.size))
          have HU0 := Lib.hid hU0
          clear hU0
          go_wp2_with fail
          rw [HU0.out]
          clear p0 p1 p2 p3 p4 pl HU0
          obtain ⟨csP0, bP0, oP0, hch, _, haa, hcc⟩ := Chk.of_row HK1.out (by decide)
          have HCHP0 := Lib.hid hch
          have HAAP0 := Lib.hid haa
          have HCCP0 := Lib.hid hcc
          clear hch haa hcc
          obtain ⟨csM0, bM0, oM0, hch, _, haa, hcc⟩ := Chk.of_row HM1.out (by decide)
          have HCHM0 := Lib.hid hch
          have HAAM0 := Lib.hid haa
          have HCCM0 := Lib.hid hcc
          clear hch haa hcc
          have hlp0 := HFW.out.cl
          have hlm0 := HFM.out.cl
          have HSF := Lib.hid (fun (w' : World) (hb : Below w4.heap.size w4 w') => (show ((w').cell? ⟨w.heap.size, 1, none⟩ = some (.slice B1 p.classes.length c1) ∧ (w').cell? ⟨w.heap.size + 1 + 1 + 1, 1, none⟩ = some (.slice M1 m.classes.length e1)) ∧ Hid (Below w4.heap.size w4 (w')) from ⟨⟨((HOP.out.below (HC4.out.trans (hb.mono HC4.out.size)) HOP.out.lt).cell 1).trans rfl, ((HOM.out.below (HC4.out.trans (hb.mono HC4.out.size)) HOM.out.lt).cell 1).trans rfl⟩, Lib.hid hb⟩))
          have HUW := Lib.hid (Nat.le_of_lt HQ0.out.lt)
          have HVA := Lib.hid (show Below w4.heap.size w4 (U0.drew.alloc (.cells #[] 36)) from (HV0.out.drew).alloc HUW.out _)
          have HDA := Lib.hid (show Below U0.heap.size U0 (U0.drew.alloc (.cells #[] 36)) from ((Below.refl U0.heap.size U0).drew).alloc (Nat.le_refl _) _)
          have HE := Lib.hid (show (U0.drew.alloc (.cells #[] 36)).ownsRow U0.heap.size 36 2 (.slice (some ⟨U0.heap.size, 0, none⟩) 0 0) 0 [] from empty_row U0.drew 36 2)
          have HXe := Lib.hid (HBW.out.trans (HCU0.out.mono HBW.out.size |>.trans (HDA.out.mono (Nat.le_trans HBW.out.size HCU0.out.size))))
          go_wp2_with fail
          go_region_held3 (fun w' => ((w').cell? ⟨w.heap.size, 1, none⟩ = some (.slice B1 p.classes.length c1) ∧ (w').cell? ⟨w.heap.size + 1 + 1 + 1, 1, none⟩ = some (.slice M1 m.classes.length e1)) ∧ Hid (Below w4.heap.size w4 (w')))
            (first | exact HSF.out _ HV0.out | exact HSF.out _ HV0.out.drew | exact HSF.out _ HVA.out | exact HSF.out _ (HVA.out.trans (hb5.mono HUW.out)) | exact HSF.out _ ((HVA.out.trans (hb5.mono HUW.out)).trans (hb6.mono HUW.out)) | exact HSF.out _ (((HVA.out.trans (hb5.mono HUW.out)).trans (hb6.mono HUW.out)).setCell (p := ⟨w4.heap.size, 1, none⟩) (Nat.le_refl _) _))
            (first | (refine step_all rfl _ _ 22 rfl U0.heap.size 36 _ 2 40 Tryd.underlying22 info_class7 rfl (by decide) _ 0 [] rfl HE.out B1 p.classes.length c1 bP0 oP0 csP0 rfl (fun h => (HAAP0.out h).1) HCHP0.out.1 (fun j u hu => (HXe.out.cell (p := ⟨bP0, oP0 + j, none⟩) (World.block_lt_of_cell? w _ (HCCP0.out j u hu))).trans (HCCP0.out j u hu)) (Chk.ones_of HCHP0.out (by decide) ones_class) (by unfold maxLen; omega) (by omega) HDA.out.size ?_; intro v5 w5 hown5 hb5) | (refine step_all rfl _ _ 22 rfl U0.heap.size 36 _ 2 40 Tryd.underlying22 info_class7 rfl (by decide) _ (0 + p.classes.length) ([] ++ csP0) rfl hown5 M1 m.classes.length e1 bM0 oM0 csM0 rfl (fun h => (HAAM0.out h).1) HCHM0.out.1 (fun j u hu => ((HXe.out.trans (hb5.mono (Nat.le_trans HBW.out.size HCU0.out.size))).cell (p := ⟨bM0, oM0 + j, none⟩) (World.block_lt_of_cell? w _ (HCCM0.out j u hu))).trans (HCCM0.out j u hu)) (Chk.ones_of HCHM0.out (by decide) ones_class) (by unfold maxLen; omega) (by omega) (HDA.out.trans hb5).size ?_; intro v6 w6 hown6 hb6; have hown7 := row_plain hown6; obtain ⟨A0, k0, e9⟩ := Fl9.any9 hown7; subst e9; have HN6 := Lib.hid hown7; have hc6 := (HDA.out.trans hb5).trans hb6; have HB6 := Lib.hid hc6; have HQ6 := Lib.hid (HQ0.out.below hc6 HQ0.out.lt); have q6 := (HQ6.out.cell 1).trans rfl; have q6t := HQ6.out.thaw 1; have q6l := HQ6.out.lt; clear hown6 hown7 hc6))
          obtain ⟨U1, hU1⟩ : ∃ X, w6.setCell ⟨w4.heap.size, 1, none⟩ (.slice A0 (p.classes.length + m.classes.length) k0) = X := ⟨_, rfl⟩
          have HZ1 := Lib.hid (show w4.heap.size < U1.heap.size by rw [← hU1]; simpa using q6l)
          have HU0 := Lib.hid (show Below U0.heap.size w4 w4 from Below.refl _ _)
          have HR0 := Lib.hid (show U1.ownsRow U0.heap.size 36 2 (.slice A0 (p.classes.length + m.classes.length) k0) (p.classes.length + m.classes.length) (csP0 ++ csM0) by rw [← hU1]; exact row_aside HN6.out 1 HQ0.out.lt _)
          have HQ1 := Lib.hid (show Own U1 w4.heap.size 27 [.bool p.ssa, .slice A0 (p.classes.length + m.classes.length) k0, .slice B2 p.globals.length c2, .slice B3 p.externs.length c3, .slice B4 p.funcs.length c4] by rw [← hU1]; exact HQ6.out.store 1 _)
          have HV1 := Lib.hid (show Below w4.heap.size w4 U1 by rw [← hU1]; exact (HV0.out.trans (HB6.out.mono (Nat.le_of_lt HQ0.out.lt))).setCell (p := ⟨w4.heap.size, 1, none⟩) (Nat.le_refl _) _)
          have HCU1 := Lib.hid (HC4.out.trans (HV1.out.mono HC4.out.size))
          rw [hU1]
          clear hU1 q6 q6t q6l HQ6 HB6 HN6 HE HXe HDA HSF HUW HVA HU0 hb5 hb6 hown5
          obtain ⟨csP1, bP1, oP1, hch, _, haa, hcc⟩ := Chk.of_row HK2.out (by decide)
          have HCHP1 := Lib.hid hch
          have HAAP1 := Lib.hid haa
          have HCCP1 := Lib.hid hcc
          clear hch haa hcc
          obtain ⟨csM1, bM1, oM1, hch, _, haa, hcc⟩ := Chk.of_row HM2.out (by decide)
          have HCHM1 := Lib.hid hch
          have HAAM1 := Lib.hid haa
          have HCCM1 := Lib.hid hcc
          clear hch haa hcc
          have hlp1 := HFW.out.gl
          have hlm1 := HFM.out.gl
          have HSF := Lib.hid (fun (w' : World) (hb : Below w4.heap.size w4 w') => (show ((w').cell? ⟨w.heap.size, 2, none⟩ = some (.slice B2 p.globals.length c2) ∧ (w').cell? ⟨w.heap.size + 1 + 1 + 1, 2, none⟩ = some (.slice M2 m.globals.length e2)) ∧ Hid (Below w4.heap.size w4 (w')) from ⟨⟨((HOP.out.below (HC4.out.trans (hb.mono HC4.out.size)) HOP.out.lt).cell 2).trans rfl, ((HOM.out.below (HC4.out.trans (hb.mono HC4.out.size)) HOM.out.lt).cell 2).trans rfl⟩, Lib.hid hb⟩))
          have HUW := Lib.hid (Nat.le_of_lt HQ1.out.lt)
          have HVA := Lib.hid (show Below w4.heap.size w4 (U1.drew.alloc (.cells #[] 40)) from (HV1.out.drew).alloc HUW.out _)
          have HDA := Lib.hid (show Below U1.heap.size U1 (U1.drew.alloc (.cells #[] 40)) from ((Below.refl U1.heap.size U1).drew).alloc (Nat.le_refl _) _)
          have HE := Lib.hid (show (U1.drew.alloc (.cells #[] 40)).ownsRow U1.heap.size 40 2 (.slice (some ⟨U1.heap.size, 0, none⟩) 0 0) 0 [] from empty_row U1.drew 40 2)
          have HXe := Lib.hid (HBW.out.trans (HCU1.out.mono HBW.out.size |>.trans (HDA.out.mono (Nat.le_trans HBW.out.size HCU1.out.size))))
          go_wp2_with fail
          go_region_held3 (fun w' => ((w').cell? ⟨w.heap.size, 2, none⟩ = some (.slice B2 p.globals.length c2) ∧ (w').cell? ⟨w.heap.size + 1 + 1 + 1, 2, none⟩ = some (.slice M2 m.globals.length e2)) ∧ Hid (Below w4.heap.size w4 (w')))
            (first | exact HSF.out _ HV1.out | exact HSF.out _ HV1.out.drew | exact HSF.out _ HVA.out | exact HSF.out _ (HVA.out.trans (hb5.mono HUW.out)) | exact HSF.out _ ((HVA.out.trans (hb5.mono HUW.out)).trans (hb6.mono HUW.out)) | exact HSF.out _ (((HVA.out.trans (hb5.mono HUW.out)).trans (hb6.mono HUW.out)).setCell (p := ⟨w4.heap.size, 2, none⟩) (Nat.le_refl _) _))
            (first | (refine step_all rfl _ _ 23 rfl U1.heap.size 40 _ 2 32 Tryd.underlying23 info_var9 rfl (by decide) _ 0 [] rfl HE.out B2 p.globals.length c2 bP1 oP1 csP1 rfl (fun h => (HAAP1.out h).1) HCHP1.out.1 (fun j u hu => (HXe.out.cell (p := ⟨bP1, oP1 + j, none⟩) (World.block_lt_of_cell? w _ (HCCP1.out j u hu))).trans (HCCP1.out j u hu)) (Chk.ones_of HCHP1.out (by decide) ones_var7) (by unfold maxLen; omega) (by omega) HDA.out.size ?_; intro v5 w5 hown5 hb5) | (refine step_all rfl _ _ 23 rfl U1.heap.size 40 _ 2 32 Tryd.underlying23 info_var9 rfl (by decide) _ (0 + p.globals.length) ([] ++ csP1) rfl hown5 M2 m.globals.length e2 bM1 oM1 csM1 rfl (fun h => (HAAM1.out h).1) HCHM1.out.1 (fun j u hu => ((HXe.out.trans (hb5.mono (Nat.le_trans HBW.out.size HCU1.out.size))).cell (p := ⟨bM1, oM1 + j, none⟩) (World.block_lt_of_cell? w _ (HCCM1.out j u hu))).trans (HCCM1.out j u hu)) (Chk.ones_of HCHM1.out (by decide) ones_var7) (by unfold maxLen; omega) (by omega) (HDA.out.trans hb5).size ?_; intro v6 w6 hown6 hb6; have hown7 := row_plain hown6; obtain ⟨A1, k1, e9⟩ := Fl9.any9 hown7; subst e9; have HN6 := Lib.hid hown7; have hc6 := (HDA.out.trans hb5).trans hb6; have HB6 := Lib.hid hc6; have HQ6 := Lib.hid (HQ1.out.below hc6 HQ1.out.lt); have q6 := (HQ6.out.cell 2).trans rfl; have q6t := HQ6.out.thaw 2; have q6l := HQ6.out.lt; clear hown6 hown7 hc6))
          obtain ⟨U2, hU2⟩ : ∃ X, w6.setCell ⟨w4.heap.size, 2, none⟩ (.slice A1 (p.globals.length + m.globals.length) k1) = X := ⟨_, rfl⟩
          have HZ2 := Lib.hid (show w4.heap.size < U2.heap.size by rw [← hU2]; simpa using q6l)
          have HU1 := Lib.hid (show Below U1.heap.size w4 w4 from Below.refl _ _)
          have HR1 := Lib.hid (show U2.ownsRow U1.heap.size 40 2 (.slice A1 (p.globals.length + m.globals.length) k1) (p.globals.length + m.globals.length) (csP1 ++ csM1) by rw [← hU2]; exact row_aside HN6.out 2 HQ1.out.lt _)
          have HQ2 := Lib.hid (show Own U2 w4.heap.size 27 [.bool p.ssa, .slice A0 (p.classes.length + m.classes.length) k0, .slice A1 (p.globals.length + m.globals.length) k1, .slice B3 p.externs.length c3, .slice B4 p.funcs.length c4] by rw [← hU2]; exact HQ6.out.store 2 _)
          have HV2 := Lib.hid (show Below w4.heap.size w4 U2 by rw [← hU2]; exact (HV1.out.trans (HB6.out.mono (Nat.le_of_lt HQ1.out.lt))).setCell (p := ⟨w4.heap.size, 2, none⟩) (Nat.le_refl _) _)
          have HCU2 := Lib.hid (HC4.out.trans (HV2.out.mono HC4.out.size))
          have HR0n := Lib.hid (show U2.ownsRow U0.heap.size 36 2 (.slice A0 (p.classes.length + m.classes.length) k0) (p.classes.length + m.classes.length) (csP0 ++ csM0) by rw [← hU2]; exact row_aside (row_below HR0.out HB6.out) 2 HQ0.out.lt _)
          clear HR0
          have HR0 := HR0n
          clear HR0n
          rw [hU2]
          clear hU2 q6 q6t q6l HQ6 HB6 HN6 HE HXe HDA HSF HUW HVA HU1 hb5 hb6 hown5
          obtain ⟨csP2, bP2, oP2, hch, _, haa, hcc⟩ := Chk.of_row HK3.out (by decide)
          have HCHP2 := Lib.hid hch
          have HAAP2 := Lib.hid haa
          have HCCP2 := Lib.hid hcc
          clear hch haa hcc
          obtain ⟨csM2, bM2, oM2, hch, _, haa, hcc⟩ := Chk.of_row HM3.out (by decide)
          have HCHM2 := Lib.hid hch
          have HAAM2 := Lib.hid haa
          have HCCM2 := Lib.hid hcc
          clear hch haa hcc
          have hlp2 := HFW.out.ex
          have hlm2 := HFM.out.ex
          have HSF := Lib.hid (fun (w' : World) (hb : Below w4.heap.size w4 w') => (show ((w').cell? ⟨w.heap.size, 3, none⟩ = some (.slice B3 p.externs.length c3) ∧ (w').cell? ⟨w.heap.size + 1 + 1 + 1, 3, none⟩ = some (.slice M3 m.externs.length e3)) ∧ Hid (Below w4.heap.size w4 (w')) from ⟨⟨((HOP.out.below (HC4.out.trans (hb.mono HC4.out.size)) HOP.out.lt).cell 3).trans rfl, ((HOM.out.below (HC4.out.trans (hb.mono HC4.out.size)) HOM.out.lt).cell 3).trans rfl⟩, Lib.hid hb⟩))
          have HUW := Lib.hid (Nat.le_of_lt HQ2.out.lt)
          have HVA := Lib.hid (show Below w4.heap.size w4 (U2.drew.alloc (.cells #[] 47)) from (HV2.out.drew).alloc HUW.out _)
          have HDA := Lib.hid (show Below U2.heap.size U2 (U2.drew.alloc (.cells #[] 47)) from ((Below.refl U2.heap.size U2).drew).alloc (Nat.le_refl _) _)
          have HE := Lib.hid (show (U2.drew.alloc (.cells #[] 47)).ownsRow U2.heap.size 47 2 (.slice (some ⟨U2.heap.size, 0, none⟩) 0 0) 0 [] from empty_row U2.drew 47 2)
          have HXe := Lib.hid (HBW.out.trans (HCU2.out.mono HBW.out.size |>.trans (HDA.out.mono (Nat.le_trans HBW.out.size HCU2.out.size))))
          go_wp2_with fail
          go_region_held3 (fun w' => ((w').cell? ⟨w.heap.size, 3, none⟩ = some (.slice B3 p.externs.length c3) ∧ (w').cell? ⟨w.heap.size + 1 + 1 + 1, 3, none⟩ = some (.slice M3 m.externs.length e3)) ∧ Hid (Below w4.heap.size w4 (w')))
            (first | exact HSF.out _ HV2.out | exact HSF.out _ HV2.out.drew | exact HSF.out _ HVA.out | exact HSF.out _ (HVA.out.trans (hb5.mono HUW.out)) | exact HSF.out _ ((HVA.out.trans (hb5.mono HUW.out)).trans (hb6.mono HUW.out)) | exact HSF.out _ (((HVA.out.trans (hb5.mono HUW.out)).trans (hb6.mono HUW.out)).setCell (p := ⟨w4.heap.size, 3, none⟩) (Nat.le_refl _) _))
            (first | (refine step_all rfl _ _ 24 rfl U2.heap.size 47 _ 2 24 Tryd.underlying24 info_ext7 rfl (by decide) _ 0 [] rfl HE.out B3 p.externs.length c3 bP2 oP2 csP2 rfl (fun h => (HAAP2.out h).1) HCHP2.out.1 (fun j u hu => (HXe.out.cell (p := ⟨bP2, oP2 + j, none⟩) (World.block_lt_of_cell? w _ (HCCP2.out j u hu))).trans (HCCP2.out j u hu)) (Chk.ones_of HCHP2.out (by decide) ones_ext) (by unfold maxLen; omega) (by omega) HDA.out.size ?_; intro v5 w5 hown5 hb5) | (refine step_all rfl _ _ 24 rfl U2.heap.size 47 _ 2 24 Tryd.underlying24 info_ext7 rfl (by decide) _ (0 + p.externs.length) ([] ++ csP2) rfl hown5 M3 m.externs.length e3 bM2 oM2 csM2 rfl (fun h => (HAAM2.out h).1) HCHM2.out.1 (fun j u hu => ((HXe.out.trans (hb5.mono (Nat.le_trans HBW.out.size HCU2.out.size))).cell (p := ⟨bM2, oM2 + j, none⟩) (World.block_lt_of_cell? w _ (HCCM2.out j u hu))).trans (HCCM2.out j u hu)) (Chk.ones_of HCHM2.out (by decide) ones_ext) (by unfold maxLen; omega) (by omega) (HDA.out.trans hb5).size ?_; intro v6 w6 hown6 hb6; have hown7 := row_plain hown6; obtain ⟨A2, k2, e9⟩ := Fl9.any9 hown7; subst e9; have HN6 := Lib.hid hown7; have hc6 := (HDA.out.trans hb5).trans hb6; have HB6 := Lib.hid hc6; have HQ6 := Lib.hid (HQ2.out.below hc6 HQ2.out.lt); have q6 := (HQ6.out.cell 3).trans rfl; have q6t := HQ6.out.thaw 3; have q6l := HQ6.out.lt; clear hown6 hown7 hc6))
          obtain ⟨U3, hU3⟩ : ∃ X, w6.setCell ⟨w4.heap.size, 3, none⟩ (.slice A2 (p.externs.length + m.externs.length) k2) = X := ⟨_, rfl⟩
          have HZ3 := Lib.hid (show w4.heap.size < U3.heap.size by rw [← hU3]; simpa using q6l)
          have HU2 := Lib.hid (show Below U2.heap.size w4 w4 from Below.refl _ _)
          have HR2 := Lib.hid (show U3.ownsRow U2.heap.size 47 2 (.slice A2 (p.externs.length + m.externs.length) k2) (p.externs.length + m.externs.length) (csP2 ++ csM2) by rw [← hU3]; exact row_aside HN6.out 3 HQ2.out.lt _)
          have HQ3 := Lib.hid (show Own U3 w4.heap.size 27 [.bool p.ssa, .slice A0 (p.classes.length + m.classes.length) k0, .slice A1 (p.globals.length + m.globals.length) k1, .slice A2 (p.externs.length + m.externs.length) k2, .slice B4 p.funcs.length c4] by rw [← hU3]; exact HQ6.out.store 3 _)
          have HV3 := Lib.hid (show Below w4.heap.size w4 U3 by rw [← hU3]; exact (HV2.out.trans (HB6.out.mono (Nat.le_of_lt HQ2.out.lt))).setCell (p := ⟨w4.heap.size, 3, none⟩) (Nat.le_refl _) _)
          have HCU3 := Lib.hid (HC4.out.trans (HV3.out.mono HC4.out.size))
          have HR0n := Lib.hid (show U3.ownsRow U0.heap.size 36 2 (.slice A0 (p.classes.length + m.classes.length) k0) (p.classes.length + m.classes.length) (csP0 ++ csM0) by rw [← hU3]; exact row_aside (row_below HR0.out HB6.out) 3 HQ0.out.lt _)
          clear HR0
          have HR0 := HR0n
          clear HR0n
          have HR1n := Lib.hid (show U3.ownsRow U1.heap.size 40 2 (.slice A1 (p.globals.length + m.globals.length) k1) (p.globals.length + m.globals.length) (csP1 ++ csM1) by rw [← hU3]; exact row_aside (row_below HR1.out HB6.out) 3 HQ1.out.lt _)
          clear HR1
          have HR1 := HR1n
          clear HR1n
          rw [hU3]
          clear hU3 q6 q6t q6l HQ6 HB6 HN6 HE HXe HDA HSF HUW HVA HU2 hb5 hb6 hown5
          obtain ⟨csP3, bP3, oP3, hch, _, haa, hcc⟩ := Chk.of_row HK4.out (by decide)
          have HCHP3 := Lib.hid hch
          have HAAP3 := Lib.hid haa
          have HCCP3 := Lib.hid hcc
          clear hch haa hcc
          obtain ⟨csM3, bM3, oM3, hch, _, haa, hcc⟩ := Chk.of_row HM4.out (by decide)
          have HCHM3 := Lib.hid hch
          have HAAM3 := Lib.hid haa
          have HCCM3 := Lib.hid hcc
          clear hch haa hcc
          have hlp3 := HFW.out.fu
          have hlm3 := HFM.out.fu
          have HSF := Lib.hid (fun (w' : World) (hb : Below w4.heap.size w4 w') => (show ((w').cell? ⟨w.heap.size, 4, none⟩ = some (.slice B4 p.funcs.length c4) ∧ (w').cell? ⟨w.heap.size + 1 + 1 + 1, 4, none⟩ = some (.slice M4 m.funcs.length e4)) ∧ Hid (Below w4.heap.size w4 (w')) from ⟨⟨((HOP.out.below (HC4.out.trans (hb.mono HC4.out.size)) HOP.out.lt).cell 4).trans rfl, ((HOM.out.below (HC4.out.trans (hb.mono HC4.out.size)) HOM.out.lt).cell 4).trans rfl⟩, Lib.hid hb⟩))
          have HUW := Lib.hid (Nat.le_of_lt HQ3.out.lt)
          have HVA := Lib.hid (show Below w4.heap.size w4 (U3.drew.alloc (.cells #[] 30)) from (HV3.out.drew).alloc HUW.out _)
          have HDA := Lib.hid (show Below U3.heap.size U3 (U3.drew.alloc (.cells #[] 30)) from ((Below.refl U3.heap.size U3).drew).alloc (Nat.le_refl _) _)
          have HE := Lib.hid (show (U3.drew.alloc (.cells #[] 30)).ownsRow U3.heap.size 30 5 (.slice (some ⟨U3.heap.size, 0, none⟩) 0 0) 0 [] from empty_row U3.drew 30 5)
          have HXe := Lib.hid (HBW.out.trans (HCU3.out.mono HBW.out.size |>.trans (HDA.out.mono (Nat.le_trans HBW.out.size HCU3.out.size))))
          go_wp2_with fail
          go_region_held3 (fun w' => ((w').cell? ⟨w.heap.size, 4, none⟩ = some (.slice B4 p.funcs.length c4) ∧ (w').cell? ⟨w.heap.size + 1 + 1 + 1, 4, none⟩ = some (.slice M4 m.funcs.length e4)) ∧ Hid (Below w4.heap.size w4 (w')))
            (first | exact HSF.out _ HV3.out | exact HSF.out _ HV3.out.drew | exact HSF.out _ HVA.out | exact HSF.out _ (HVA.out.trans (hb5.mono HUW.out)) | exact HSF.out _ ((HVA.out.trans (hb5.mono HUW.out)).trans (hb6.mono HUW.out)) | exact HSF.out _ (((HVA.out.trans (hb5.mono HUW.out)).trans (hb6.mono HUW.out)).setCell (p := ⟨w4.heap.size, 4, none⟩) (Nat.le_refl _) _))
            (first | (refine step_all rfl _ _ 25 rfl U3.heap.size 30 _ 5 104 Tryd.underlying25 info_func7 rfl (by decide) _ 0 [] rfl HE.out B4 p.funcs.length c4 bP3 oP3 csP3 rfl (fun h => (HAAP3.out h).1) HCHP3.out.1 (fun j u hu => (HXe.out.cell (p := ⟨bP3, oP3 + j, none⟩) (World.block_lt_of_cell? w _ (HCCP3.out j u hu))).trans (HCCP3.out j u hu)) (Chk.ones_of HCHP3.out (by decide) Chk.ones_func) (by unfold maxLen; omega) (by omega) HDA.out.size ?_; intro v5 w5 hown5 hb5) | (refine step_all rfl _ _ 25 rfl U3.heap.size 30 _ 5 104 Tryd.underlying25 info_func7 rfl (by decide) _ (0 + p.funcs.length) ([] ++ csP3) rfl hown5 M4 m.funcs.length e4 bM3 oM3 csM3 rfl (fun h => (HAAM3.out h).1) HCHM3.out.1 (fun j u hu => ((HXe.out.trans (hb5.mono (Nat.le_trans HBW.out.size HCU3.out.size))).cell (p := ⟨bM3, oM3 + j, none⟩) (World.block_lt_of_cell? w _ (HCCM3.out j u hu))).trans (HCCM3.out j u hu)) (Chk.ones_of HCHM3.out (by decide) Chk.ones_func) (by unfold maxLen; omega) (by omega) (HDA.out.trans hb5).size ?_; intro v6 w6 hown6 hb6; have hown7 := row_plain hown6; obtain ⟨A3, k3, e9⟩ := Fl9.any9 hown7; subst e9; have HN6 := Lib.hid hown7; have hc6 := (HDA.out.trans hb5).trans hb6; have HB6 := Lib.hid hc6; have HQ6 := Lib.hid (HQ3.out.below hc6 HQ3.out.lt); have q6 := (HQ6.out.cell 4).trans rfl; have q6t := HQ6.out.thaw 4; have q6l := HQ6.out.lt; clear hown6 hown7 hc6))
          obtain ⟨U4, hU4⟩ : ∃ X, w6.setCell ⟨w4.heap.size, 4, none⟩ (.slice A3 (p.funcs.length + m.funcs.length) k3) = X := ⟨_, rfl⟩
          have HZ4 := Lib.hid (show w4.heap.size < U4.heap.size by rw [← hU4]; simpa using q6l)
          have HU3 := Lib.hid (show Below U3.heap.size w4 w4 from Below.refl _ _)
          have HR3 := Lib.hid (show U4.ownsRow U3.heap.size 30 5 (.slice A3 (p.funcs.length + m.funcs.length) k3) (p.funcs.length + m.funcs.length) (csP3 ++ csM3) by rw [← hU4]; exact row_aside HN6.out 4 HQ3.out.lt _)
          have HQ4 := Lib.hid (show Own U4 w4.heap.size 27 [.bool p.ssa, .slice A0 (p.classes.length + m.classes.length) k0, .slice A1 (p.globals.length + m.globals.length) k1, .slice A2 (p.externs.length + m.externs.length) k2, .slice A3 (p.funcs.length + m.funcs.length) k3] by rw [← hU4]; exact HQ6.out.store 4 _)
          have HV4 := Lib.hid (show Below w4.heap.size w4 U4 by rw [← hU4]; exact (HV3.out.trans (HB6.out.mono (Nat.le_of_lt HQ3.out.lt))).setCell (p := ⟨w4.heap.size, 4, none⟩) (Nat.le_refl _) _)
          have HCU4 := Lib.hid (HC4.out.trans (HV4.out.mono HC4.out.size))
          have HR0n := Lib.hid (show U4.ownsRow U0.heap.size 36 2 (.slice A0 (p.classes.length + m.classes.length) k0) (p.classes.length + m.classes.length) (csP0 ++ csM0) by rw [← hU4]; exact row_aside (row_below HR0.out HB6.out) 4 HQ0.out.lt _)
          clear HR0
          have HR0 := HR0n
          clear HR0n
          have HR1n := Lib.hid (show U4.ownsRow U1.heap.size 40 2 (.slice A1 (p.globals.length + m.globals.length) k1) (p.globals.length + m.globals.length) (csP1 ++ csM1) by rw [← hU4]; exact row_aside (row_below HR1.out HB6.out) 4 HQ1.out.lt _)
          clear HR1
          have HR1 := HR1n
          clear HR1n
          have HR2n := Lib.hid (show U4.ownsRow U2.heap.size 47 2 (.slice A2 (p.externs.length + m.externs.length) k2) (p.externs.length + m.externs.length) (csP2 ++ csM2) by rw [← hU4]; exact row_aside (row_below HR2.out HB6.out) 4 HQ2.out.lt _)
          clear HR2
          have HR2 := HR2n
          clear HR2n
          rw [hU4]
          clear hU4 q6 q6t q6l HQ6 HB6 HN6 HE HXe HDA HSF HUW HVA HU3 hb5 hb6 hown5
          have HXU4 := Lib.hid (HBW.out.trans (HCU4.out.mono HBW.out.size))
          have hst : Still 0 w.heap.size 0 U4.heap.size w U4 := ⟨fun k _ hk => HXU4.out.block k hk, Nat.zero_le _, HXU4.out.size⟩
          have hr0 : Row 0 U4.heap.size U4 2 (ClassC 0 U4.heap.size U4) (.slice A0 (p.classes.length + m.classes.length) k0) (p.classes ++ m.classes) := Chk.to_row HR0.out (Chk.Chunks.app (HCHP0.out.mono fun ds x h => ClassC.move hst h) (HCHM0.out.mono fun ds x h => ClassC.move hst h)) (by decide) (by rw [List.length_append]; omega) (Nat.le_refl _) (Nat.zero_le _)
          have hr1 : Row 0 U4.heap.size U4 2 ((fun cs x => cs = varC x)) (.slice A1 (p.globals.length + m.globals.length) k1) (p.globals ++ m.globals) := Chk.to_row HR1.out (Chk.Chunks.app HCHP1.out HCHM1.out) (by decide) (by rw [List.length_append]; omega) (Nat.le_refl _) (Nat.zero_le _)
          have hr2 : Row 0 U4.heap.size U4 2 ((fun cs x => cs = externC x)) (.slice A2 (p.externs.length + m.externs.length) k2) (p.externs ++ m.externs) := Chk.to_row HR2.out (Chk.Chunks.app HCHP2.out HCHM2.out) (by decide) (by rw [List.length_append]; omega) (Nat.le_refl _) (Nat.zero_le _)
          have hr3 : Row 0 U4.heap.size U4 5 (FuncC 0 U4.heap.size U4) (.slice A3 (p.funcs.length + m.funcs.length) k3) (p.funcs ++ m.funcs) := Chk.to_row HR3.out (Chk.Chunks.app (HCHP3.out.mono fun ds x h => FuncC.move hst h) (HCHM3.out.mono fun ds x h => FuncC.move hst h)) (by decide) (by rw [List.length_append]; omega) (Nat.le_refl _) (Nat.zero_le _)
          have HPQ := Lib.hid (show ProgC 0 U4.heap.size U4 [.bool p.ssa, .slice A0 (p.classes.length + m.classes.length) k0, .slice A1 (p.globals.length + m.globals.length) k1, .slice A2 (p.externs.length + m.externs.length) k2, .slice A3 (p.funcs.length + m.funcs.length) k3] ⟨p.ssa, p.classes ++ m.classes, p.globals ++ m.globals, p.externs ++ m.externs, p.funcs ++ m.funcs⟩ from ⟨_, _, _, _, rfl, hr0, hr1, hr2, hr3⟩)
          clear hr0 hr1 hr2 hr3 hst HR0 HR1 HR2 HR3
          have fo := HOF.out.below HCU4.out HOF.out.lt
          have f0 := (fo.cell 0).trans rfl
          have f1 := (fo.cell 1).trans rfl
          have f2 := (fo.cell 2).trans rfl
          have f3 := (fo.cell 3).trans rfl
          have f4 := (fo.cell 4).trans rfl
          have fl := fo.lt
          clear fo
          obtain ⟨U5, hU5⟩ : ∃ X, U4.alloc (.cells #[str f.name, str f.result, .slice D1 f.params.length d1, .slice D2 f.vars.length d2, .slice D3 f.blocks.length d3] 30) = X := ⟨_, rfl⟩
          have HG5 := Lib.hid (show Own U5 U4.heap.size 30 [str f.name, str f.result, .slice D1 f.params.length d1, .slice D2 f.vars.length d2, .slice D3 f.blocks.length d3] by rw [← hU5]; exact made7 rfl _ _)
          have hu45 : Below U4.heap.size U4 U5 := by rw [← hU5]; exact (Below.refl _ _).alloc (Nat.le_refl _) _
          have HU45 := Lib.hid hu45
          have HW4L := Lib.hid (Nat.le_of_lt HZ4.out)
          have HV5 := Lib.hid (HV4.out.trans (hu45.mono HW4L.out))
          have HCU5 := Lib.hid (HC4.out.trans (HV5.out.mono HC4.out.size))
          have HU5 := Lib.hid hU5
          clear hU5 hu45
          go_wp2_with fail
          rw [HU5.out]
          clear f0 f1 f2 f3 f4 fl HU5
          obtain ⟨csF, bF, oF, hch, _, haa, hcc⟩ := Chk.of_row (show Row 0 w.heap.size w 2 (fun cs x => cs = varC x) (.slice D2 f.vars.length d2) f.vars from HJ2.out) (by decide)
          have HCHF := Lib.hid hch
          have HAAF := Lib.hid haa
          have HCCF := Lib.hid hcc
          clear hch haa hcc
          have hlv := HFW.out.vs
          obtain ⟨iv, hi1, hi2, hi3, hi4⟩ := info_parts info_var9
          have HIV : Hid (Tryd.prog.info? 40 = some iv ∧ iv.zero = some (.agg #[str [], str []]) ∧ iv.size = 2 ∧ iv.bytes = 32) := Lib.hid ⟨hi1, hi2, hi3, hi4⟩
          clear hi1 hi2 hi3 hi4
          have hfo := HOF.out.below HCU5.out HOF.out.lt
          have f3 := (hfo.cell 3).trans rfl
          have f3l := hfo.lt
          have hvo := HOV.out.below HCU5.out HOV.out.lt
          have vz0 := (hvo.cell 0).trans rfl
          have vz1 := (hvo.cell 1).trans rfl
          have vzl := hvo.lt
          have f3l1 := Nat.lt_succ_of_lt f3l
          have f3l2 := Nat.lt_succ_of_lt f3l1
          have vzl1 := Nat.lt_succ_of_lt vzl
          have vzl2 := Nat.lt_succ_of_lt vzl1
          have HFO := Lib.hid hfo
          have HVO := Lib.hid hvo
          clear hfo hvo
          have HBa := Lib.hid (show Below U5.heap.size U5 (U5.alloc (.cells #[] 40)).drew from ((Below.refl U5.heap.size U5).alloc (Nat.le_refl _) _).drew)
          have HBb := Lib.hid (show Below U5.heap.size U5 ((U5.alloc (.cells #[] 40)).alloc (.cells #[str v.name, str v.type] 40)).drew from (((Below.refl U5.heap.size U5).alloc (Nat.le_refl _) _).alloc ((Below.refl U5.heap.size U5).alloc (Nat.le_refl _) _).size _).drew)
          have HBc := Lib.hid (show Below U5.heap.size U5 ((U5.alloc (.cells #[str v.name, str v.type] 40)).alloc (.cells #[] 40)).drew from (((Below.refl U5.heap.size U5).alloc (Nat.le_refl _) _).alloc ((Below.refl U5.heap.size U5).alloc (Nat.le_refl _) _).size _).drew)
          have HEa := Lib.hid (show (U5.alloc (.cells #[] 40)).drew.ownsRow U5.heap.size 40 2 (.slice (some ⟨U5.heap.size, 0, none⟩) 0 0) 0 [] from row_drew (empty_row U5 40 2))
          have HEb := Lib.hid (show ((U5.alloc (.cells #[] 40)).alloc (.cells #[str v.name, str v.type] 40)).drew.ownsRow U5.heap.size 40 2 (.slice (some ⟨U5.heap.size, 0, none⟩) 0 0) 0 [] from row_drew (World.ownsRow.alloc (empty_row U5 40 2) _))
          have HEc := Lib.hid (show ((U5.alloc (.cells #[str v.name, str v.type] 40)).alloc (.cells #[] 40)).drew.ownsRow U5.heap.size 40 2 (.slice (some ⟨U5.heap.size + 1, 0, none⟩) 0 0) 0 [] from row_drew (Hold.Rec.on.lower (r := ⟨40, 2, .slice (some ⟨U5.heap.size + 1, 0, none⟩) 0 0, 0, []⟩) (b := U5.heap.size) (base := U5.heap.size + 1) (by have := empty_row (U5.alloc (.cells #[str v.name, str v.type] 40)) 40 2; rw [show (U5.alloc (.cells #[str v.name, str v.type] 40)).heap.size = U5.heap.size + 1 by simp] at this; exact this) (Nat.le_succ _)))
          have HNb := Lib.hid (show Own ((U5.alloc (.cells #[] 40)).alloc (.cells #[str v.name, str v.type] 40)).drew (U5.heap.size + 1) 40 [str v.name, str v.type] from (show Own ((U5.alloc (.cells #[] 40)).alloc (.cells #[str v.name, str v.type] 40)) (U5.heap.size + 1) 40 [str v.name, str v.type] from made7 (by simp) _ _).drew)
          have HNc := Lib.hid (show Own ((U5.alloc (.cells #[str v.name, str v.type] 40)).alloc (.cells #[] 40)).drew U5.heap.size 40 [str v.name, str v.type] from ((Own.made U5 40 [str v.name, str v.type]).alloc _).drew)
          have HXU5 := Lib.hid (HBW.out.trans (HCU5.out.mono HBW.out.size))
          have hw5 := HXU5.out.size
          go_cut [12] (fun pv wx => ∃ (AV : Option Addr) (kV : Nat), pv = .pointer (some ⟨U4.heap.size, 0, none⟩) ∧ Hid (Own wx U4.heap.size 30 [str f.name, str f.result, .slice D1 f.params.length d1, .slice AV (f.vars.length + 1) kV, .slice D3 f.blocks.length d3]) ∧ Hid (Below U4.heap.size U4 wx) ∧ Hid (wx.ownsRow U5.heap.size 40 2 (.slice AV (f.vars.length + 1) kV) (f.vars.length + 1) (csF ++ [str v.name, str v.type])))
          case first =>
            rename_i J9 K9 hRJ hMK
            go_region_law (first | (refine step_all2 rfl _ _ 23 rfl U5.heap.size 40 _ 2 32 Tryd.underlying23 info_var9 rfl (by decide) (.slice (some ⟨U5.heap.size, 0, none⟩) 0 0) 0 [] rfl HEa.out D2 f.vars.length d2 bF oF csF rfl (fun h => (HAAF.out h).1) HCHF.out.1 (fun j u hu => ((HXU5.out.trans (HBa.out.mono hw5)).cell (p := ⟨bF, oF + j, none⟩) (World.block_lt_of_cell? w _ (HCCF.out j u hu))).trans (HCCF.out j u hu)) (Chk.ones_of HCHF.out (by decide) ones_var7) (by unfold maxLen; omega) (by omega) HBa.out.size ?_; intro v5 w5 hown5 hg5; have hb0 := (Below.refl U5.heap.size _).grown hg5 HBa.out.size (fun k hk => (World.ownsRow.lt HEa.out k hk).1); have hbt := HBa.out.trans hb0; have hfo := HFO.out.below hbt HFO.out.lt; have f3 := (hfo.cell 3).trans rfl; have f3l := hfo.lt; have hvo := HVO.out.below hbt HVO.out.lt; have vz0 := (hvo.cell 0).trans rfl; have vz1 := (hvo.cell 1).trans rfl; have vzl := hvo.lt; have vzl1 := Nat.lt_succ_of_lt vzl; clear hfo hvo) | (refine step_all2 rfl _ _ 23 rfl U5.heap.size 40 _ 2 32 Tryd.underlying23 info_var9 rfl (by decide) (.slice (some ⟨U5.heap.size, 0, none⟩) 0 0) 0 [] rfl HEb.out D2 f.vars.length d2 bF oF csF rfl (fun h => (HAAF.out h).1) HCHF.out.1 (fun j u hu => ((HXU5.out.trans (HBb.out.mono hw5)).cell (p := ⟨bF, oF + j, none⟩) (World.block_lt_of_cell? w _ (HCCF.out j u hu))).trans (HCCF.out j u hu)) (Chk.ones_of HCHF.out (by decide) ones_var7) (by unfold maxLen; omega) (by omega) HBb.out.size ?_; intro v5 w5 hown5 hg5; have hb0 := (Below.refl U5.heap.size _).grown hg5 HBb.out.size (fun k hk => (World.ownsRow.lt HEb.out k hk).1); have hnv := own_grown HNb.out hg5 (by simp [Value.ownBlock]); have hbt := HBb.out.trans hb0; have hfo := HFO.out.below hbt HFO.out.lt; have f3 := (hfo.cell 3).trans rfl; have f3l := hfo.lt; have hvo := HVO.out.below hbt HVO.out.lt; have vz0 := (hvo.cell 0).trans rfl; have vz1 := (hvo.cell 1).trans rfl; have vzl := hvo.lt; have vzl1 := Nat.lt_succ_of_lt vzl; clear hfo hvo) | (refine step_all2 rfl _ _ 23 rfl U5.heap.size 40 _ 2 32 Tryd.underlying23 info_var9 rfl (by decide) (.slice (some ⟨U5.heap.size + 1, 0, none⟩) 0 0) 0 [] rfl HEc.out D2 f.vars.length d2 bF oF csF rfl (fun h => (HAAF.out h).1) HCHF.out.1 (fun j u hu => ((HXU5.out.trans (HBc.out.mono hw5)).cell (p := ⟨bF, oF + j, none⟩) (World.block_lt_of_cell? w _ (HCCF.out j u hu))).trans (HCCF.out j u hu)) (Chk.ones_of HCHF.out (by decide) ones_var7) (by unfold maxLen; omega) (by omega) HBc.out.size ?_; intro v5 w5 hown5 hg5; have hb0 := (Below.refl U5.heap.size _).grown hg5 HBc.out.size (fun k hk => (World.ownsRow.lt HEc.out k hk).1); have hnv := own_grown HNc.out hg5 (by simp [Value.ownBlock]); have hbt := HBc.out.trans hb0; have hfo := HFO.out.below hbt HFO.out.lt; have f3 := (hfo.cell 3).trans rfl; have f3l := hfo.lt; have hvo := HVO.out.below hbt HVO.out.lt; have vz0 := (hvo.cell 0).trans rfl; have vz1 := (hvo.cell 1).trans rfl; have vzl := hvo.lt; have vzl1 := Nat.lt_succ_of_lt vzl; clear hfo hvo) | (refine Hp15.step_grow15 (w := w5) rfl _ _ 23 rfl U5.heap.size 40 2 iv _ 32 Tryd.underlying23 HIV.out.1 HIV.out.2.1 HIV.out.2.2.1 HIV.out.2.2.2 rfl (by decide) v5 (0 + f.vars.length) ([] ++ csF) rfl hown5 [str v.name, str v.type] w5.heap.size rfl rfl rfl (by intro u hu; simp at hu; rcases hu with rfl | rfl <;> rfl) (by omega) (by omega) hbt.size ?_; intro v6 w6 hown6 hg6 _; have hb6 := (Below.refl U5.heap.size w5).grown hg6 hbt.size (fun k hk => (World.ownsRow.lt hown5 k hk).1); have hown7 : w6.ownsRow U5.heap.size 40 2 v6 (f.vars.length + 1) (csF ++ [str v.name, str v.type]) := (by simpa using hown6); obtain ⟨AV, kV, e9⟩ := Fl9.any9 hown7; subst e9; have HN6 := Lib.hid hown7; have hc6 := hbt.trans hb6; have HB6 := Lib.hid hc6; have HQ6 := Lib.hid (HG5.out.below hc6 HG5.out.lt); have q6 := (HQ6.out.cell 3).trans rfl; have q6t := HQ6.out.thaw 3; have q6l := HQ6.out.lt; clear hown6 hown7 hc6) | (refine step_all rfl _ _ 23 rfl U5.heap.size 40 _ 2 32 Tryd.underlying23 info_var9 rfl (by decide) v5 (0 + f.vars.length) ([] ++ csF) rfl hown5 _ 1 1 _ 0 [str v.name, str v.type] rfl (fun _ => rfl) rfl (fun j u hu => by rw [Nat.zero_add]; exact (hnv.cell j).trans hu) (by intro u hu; simp at hu; rcases hu with rfl | rfl <;> rfl) (by unfold maxLen; omega) (by omega) hbt.size ?_; intro v6 w6 hown6 hb6; have hown7 : w6.ownsRow U5.heap.size 40 2 v6 (f.vars.length + 1) (csF ++ [str v.name, str v.type]) := (by simpa using hown6); obtain ⟨AV, kV, e9⟩ := Fl9.any9 hown7; subst e9; have HN6 := Lib.hid hown7; have hc6 := hbt.trans hb6; have HB6 := Lib.hid hc6; have HQ6 := Lib.hid (HG5.out.below hc6 HG5.out.lt); have q6 := (HQ6.out.cell 3).trans rfl; have q6t := HQ6.out.thaw 3; have q6l := HQ6.out.lt; clear hown6 hown7 hc6))
            all_goals
              obtain ⟨U6, hU6⟩ : ∃ X, w6.setCell ⟨U4.heap.size, 3, none⟩ (.slice AV (f.vars.length + 1) kV) = X := ⟨_, rfl⟩
              have HG6 := Lib.hid (show Own U6 U4.heap.size 30 [str f.name, str f.result, .slice D1 f.params.length d1, .slice AV (f.vars.length + 1) kV, .slice D3 f.blocks.length d3] by rw [← hU6]; exact HQ6.out.store 3 _)
              have HU46 := Lib.hid (show Below U4.heap.size U4 U6 by rw [← hU6]; exact (HU45.out.trans (HB6.out.mono HU45.out.size)).setCell (p := ⟨U4.heap.size, 3, none⟩) (Nat.le_refl _) _)
              have HRV := Lib.hid (show U6.ownsRow U5.heap.size 40 2 (.slice AV (f.vars.length + 1) kV) (f.vars.length + 1) (csF ++ [str v.name, str v.type]) by rw [← hU6]; exact row_aside HN6.out 3 HG5.out.lt _)
              rw [hU6]
              refine hMK _ _ (hRJ _ _ ?_)
              clear hMK hRJ hU6
              (repeat apply Exists.intro)
              exact ⟨⟨AV, kV, rfl, HG6, HU46, HRV⟩, rfl⟩
          case rest =>
          obtain ⟨AV, kV, rfl, HG6, HU46, HRV⟩ := hcut
          obtain ⟨U6, hU6⟩ : ∃ X, X = wc := ⟨_, rfl⟩
          subst hU6
          have HV6 := Lib.hid (HV4.out.trans (HU46.out.mono HW4L.out))
          have HCU6 := Lib.hid (HC4.out.trans (HV6.out.mono HC4.out.size))
          have HXU6 := Lib.hid (HBW.out.trans (HCU6.out.mono HBW.out.size))
          clear f3 f3l vz0 vz1 vzl f3l1 f3l2 vzl1 vzl2
          have hvr : Vars 0 U6.heap.size U6 (.slice AV (f.vars.length + 1) kV) (f.vars ++ [v]) := Chk.to_row HRV.out (Chk.Chunks.app HCHF.out (Chk.Chunks.one rfl rfl)) (by decide) (by rw [List.length_append, List.length_singleton]; omega) (Nat.le_refl _) (Nat.zero_le _)
          have hst : Still 0 w.heap.size 0 U6.heap.size w U6 := ⟨fun k _ hk => HXU6.out.block k hk, Nat.zero_le _, HXU6.out.size⟩
          have HFG6 := Lib.hid (show FuncC 0 U6.heap.size U6 [str f.name, str f.result, .slice D1 f.params.length d1, .slice AV (f.vars.length + 1) kV, .slice D3 f.blocks.length d3] ⟨f.name, f.result, f.params, f.vars ++ [v], f.blocks⟩ from ⟨_, _, _, rfl, Vars.move hst HJ1.out, hvr, Blocks.move hst HJ3.out⟩)
          have HPQ6 := Lib.hid (ProgC.move ⟨fun k _ hk => HU46.out.block k hk, Nat.zero_le _, HU46.out.size⟩ HPQ.out : ProgC 0 U6.heap.size U6 _ _)
          have HI6 := Lib.hid (InstrC.move hst HI.out)
          have HQB := Lib.hid (HQ4.out.below HU46.out HQ4.out.lt)
          clear hvr hst
          have q0 := (HQB.out.cell 0).trans rfl
          have q1 := (HQB.out.cell 1).trans rfl
          have q2 := (HQB.out.cell 2).trans rfl
          have q3 := (HQB.out.cell 3).trans rfl
          have q4 := (HQB.out.cell 4).trans rfl
          have ql := HQB.out.lt
          have r0 := (HG6.out.cell 0).trans rfl
          have r1 := (HG6.out.cell 1).trans rfl
          have r2 := (HG6.out.cell 2).trans rfl
          have r3 := (HG6.out.cell 3).trans rfl
          have r4 := (HG6.out.cell 4).trans rfl
          have rl := HG6.out.lt
          have xo := HOX.out.below HCU6.out HOX.out.lt
          have x0 := (xo.cell 0).trans rfl
          have x1 := (xo.cell 1).trans rfl
          have x2 := (xo.cell 2).trans rfl
          have x3 := (xo.cell 3).trans rfl
          have x4 := (xo.cell 4).trans rfl
          have x5 := (xo.cell 5).trans rfl
          have xl := xo.lt
          clear xo
          have QI := instr_any7 U6.heap.size U6 _ _ _ _ _ x HPQ6.out HFG6.out HI6.out (Nat.le_refl _) (HL.out.below HXU6.out (Nat.le_refl _))
          rw [(more_app p m f v p.ssa).instr HBV.out] at QI
          have QI := Lib.hid QI
          go_wp2_with fail
          refine QI.out.mono ?_
          rintro e w7 ⟨rfl, hb⟩
          have HX7 := Lib.hid (HXU6.out.trans (hb.mono HXU6.out.size))
          clear hb QI q0 q1 q2 q3 q4 ql r0 r1 r2 r3 r4 rl x0 x1 x2 x3 x4 x5 xl
          go_wp2_with fail
          go_ret
          exact ⟨rfl, HX7.out⟩
      · have ehal : decide ((100 : Int) < (x.args.length : Int)) = true := decide_eq_true (by omega)
        go_wp2_with fail
        refine (L07.awake7_any w3 (HL.out.below HX3.out (Nat.le_refl _))).mono ?_
        rintro e wz ⟨rfl, hbz⟩
        have HZ := Lib.hid (HX3.out.trans (hbz.mono HX3.out.size))
        clear hbz
        go_wp2_with fail
        go_ret
        exact ⟨rfl, HZ.out⟩

abbrev laids {H : Type} : List (String × DataW H) := [("lateen/syntax.words", Rows.laid_lateen_syntax_words)]
theorem door_met (os : Os) (args : Array Value) : laidMetH Tryd.prog laids ((World.doorLaid Tryd.prog 400 os).forCall (fun _ _ => 0) ⟨#[], args, []⟩).memory :=
  laidMetH_of_parts3 (fuel := 8) (laidMet_of_run' 8 (by kernel_rfl) (by kernel_rfl)) (by kernel_rfl) (by kernel_rfl)

set_option maxRecDepth 100000 in
theorem lifted (os : Os) (started : os.Started) (H : Type) (enc : TypeId × Value → H) :
    ReturnsInHanded {} Tryd.checked os 6 .any (fun w args => (Rows.typesKeepSpec.pre enc Tryd.prog Tryd.f6 [] false w args ∧ laidMetH Tryd.prog laids w) ∧ sizedMet enc Tryd.prog Tryd.f6 (OpenSpec.ofChange Rows.typesKeepSpec) false w args)
      (Rows.typesKeepSpec.post enc Tryd.prog Tryd.f6 false true false false) := by
  refine returnsInHanded_of_change_and (C := Tryd.checked) (X := fun w _ => laidMetH Tryd.prog laids w) (fun _ _ _ hh h => h.of_heap hh) (by kernel_rfl) started (by kernel_rfl) Tryd.func6
    (ChangeSpec.witness_shaped (enc := enc) (C := Tryd.checked) (os := os) (X := fun w _ => laidMetH Tryd.prog laids w) false (World.doorLaid Tryd.prog 400 os) #[.agg #[.bool false, .slice none 0 0, .slice none 0 0, .slice none 0 0, .slice none 0 0], .agg #[.string ⟨#[]⟩, .string ⟨#[]⟩, .slice none 0 0, .slice none 0 0, .slice none 0 0], .agg #[.int .i64 0, .string ⟨#[]⟩, .string ⟨#[]⟩, .slice none 0 0, .slice none 0 0, .slice none 0 0], .agg #[.bool false, .slice none 0 0, .slice none 0 0, .slice none 0 0, .slice none 0 0], .agg #[.string ⟨#[]⟩, .string ⟨#[]⟩]] 8 rfl (World.shaped_of_RefB (by kernel_rfl) (by kernel_rfl)) (by kernel_rfl) (by kernel_rfl) (by kernel_rfl) (door_met os _)) ?_
  intro W base args ds gs before hval0 hW _ hsz0 hL0 _
  have hval : ∀ (j : Nat) t v, Tryd.f6.params[j]? = some t → args[j]? = some v → Value.okWide Tryd.prog W .any base t v := hval0
  have hW' := hW
  obtain ⟨p, q, hA0, hV, rfl, hfz, hnd⟩ := hW
  have hsz : (DataW.weightsEach Tryd.prog (Tryd.f6.params.toList ++ Rows.typesKeepSpec.plain.varTypes Tryd.prog) (ds ++ gs)).all (· ≤ reachBytes) = true := hsz0
  have hA : DataW.TrodAll enc Tryd.prog W 0 (fun _ => true) true Tryd.f6.params.toList args.toList ds p := hA0
  rw [Tryd.params6] at hA hval hsz
  obtain ⟨v0, vs0, d0, ds0, p0, q0, hargs, rfl, rfl, h0, r0⟩ := trodAll_cons hA
  obtain ⟨v1, vs1, d1, ds1, p1, q1, rfl, rfl, rfl, h1, r1⟩ := trodAll_cons r0
  obtain ⟨v2, vs2, d2, ds2, p2, q2, rfl, rfl, rfl, h2, r2⟩ := trodAll_cons r1
  obtain ⟨v3, vs3, d3, ds3, p3, q3, rfl, rfl, rfl, h3, r3⟩ := trodAll_cons r2
  obtain ⟨v4, vs4, d4, ds4, p4, q4, rfl, rfl, rfl, h4, r4⟩ := trodAll_cons r3
  obtain ⟨rfl, rfl, rfl⟩ := trodAll_nil r4
  obtain rfl : args = #[v0, v1, v2, v3, v4] := by cases args; simp_all
  obtain ⟨rfl, rfl⟩ := trodVars_none hV
  obtain ⟨xs0, hG0⟩ := OpenP.open_prog hsz (j := 0) rfl rfl (hval 0 27 v0 rfl rfl) h0
  obtain ⟨xs1, hG1⟩ := OpenP.open_func hsz (j := 1) rfl rfl (hval 1 30 v1 rfl rfl) h1
  obtain ⟨xs2, hG2⟩ := OpenP.open_instr hsz (j := 2) rfl rfl (hval 2 59 v2 rfl rfl) h2
  obtain ⟨xs3, hG3⟩ := OpenP.open_prog hsz (j := 3) rfl rfl (hval 3 27 v3 rfl rfl) h3
  obtain ⟨xs4, hG4⟩ := OpenP.open_var hsz (j := 4) rfl rfl (hval 4 40 v4 rfl rfl) h4
  clear hA0 hval0
  simp only [List.append_nil] at hW'
  refine (walk v0 xs0 v1 xs1 v2 xs2 v3 xs3 v4 xs4 hG0 hG1 hG2 hG3 hG4 (Rd5.laid_swords hL0)).mono fun e W' ⟨he, hg⟩ => ?_
  subst he
  exact ⟨_, rfl, Shell.lawPost (by kernel_rfl) rfl (by kernel_rfl) rfl Tryd.underlying4 hW' rfl hg⟩

theorem row_holds : Rows.TypesKeepSaid :=
  OpenClaim.holds_of_wide 6 Tryd.f6 rfl rfl rfl rfl rfl rfl rfl ⟨rfl, rfl, rfl, rfl, rfl⟩ rfl rfl rfl rfl rfl (by kernel_rfl) Tryd.func6 (by kernel_rfl)
    (of_decide_eq_true (by kernel_rfl)) (by unfold Func.isWrapper; first | (rw [if_pos (by decide +kernel)]; kernel_rfl) | (rw [if_neg (by decide +kernel)]; exact ⟨rfl, rfl⟩))
    (fun os started H enc _ => lifted os started H enc)

/-- The statement. -/
theorem proved : Rows.TypesKeepCardSaid :=
  Claim7.holds_tied_plain_at .later [] [.data] true Rows.typesKeepCard.stood.harness false
    row_holds (fun _ h => by cases h) (by kernel_rfl) (fun _ h => by cases h) typesKeep_row_tie rfl ⟨rfl, rfl⟩ (by kernel_rfl) rfl
    (fun f fn hf hfn => by
      obtain rfl : f = 6 := Option.some.inj ((show Tryd.prog.funcNamed "lateen/lateenlaw07.TypesKeep" = some 6 by kernel_rfl).symm.trans hf) |>.symm
      obtain rfl : fn = Tryd.f6 := (Option.some.inj (Tryd.func6.symm.trans hfn)).symm
      exact ⟨by kernel_rfl, fun j t ht => by
        rw [Tryd.params6] at ht
        have hm : t ∈ [27, 30, 59, 27, 40] := by simpa using Array.mem_of_getElem? ht
        have hall : ([27, 30, 59, 27, 40].all fun u => !Tryd.prog.wantsStandIn u) = true := by kernel_rfl
        exact (show Tryd.prog.wantsStandIn t = false by simpa using List.all_eq_true.1 hall t hm)⟩)
    (by kernel_rfl)
end Go.Proofs.YtikfncgdjnljiaaDoor.typesKeep
