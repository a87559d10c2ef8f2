/-
  The document's Few (layer 6): a function.
-/
import Derived.Test.YtikfncgdjnljiaaDoorFew3
import Derived.Test.YtikfncgdjnljiaaDoorProg
import Derived.Test.YtikfncgdjnljiaaDoorMem
import Derived.Test.YtikfncgdjnljiaaDoorPlainS
import Derived.Lib.Hide
import Derived.Lib.Walk
import Derived.Deep.QuietTactic
import Derived.BigQuiet
import Derived.StillTailTactics
namespace Go.Proofs.YtikfncgdjnljiaaDoor.Few6
open Go.RowKit Api Mem

def funcS (f : Api.Func) : Prop := (Sh f.name ∧ Sh f.result) ∧ (∀ v ∈ f.params, Sh v.name ∧ Sh v.type) ∧ (∀ v ∈ f.vars, Sh v.name ∧ Sh v.type) ∧ ∀ b ∈ f.blocks, blockS b
abbrev B3 : Nat := 281478282821632
set_option maxRecDepth 100000 in
set_option maxHeartbeats 16000000 in
theorem cntFunc_any (lo hi : Nat) (w : World) (cs : List Value) (x : Api.Func) (hx : FuncC lo hi w cs x) (hh : hi ≤ w.heap.size) (most : Nat) (hm : most ≤ 1073741824) (hG : funcS x) :
    Calls Tryd.prog 35 #[.agg cs.toArray, i64 most] w fun e w' => ∃ n : Nat, e = .returned (i64 n) ∧ Cnt B3 most (cFunc x) n ∧ Below w.heap.size w w' := by
  obtain ⟨u1, u2, u3, rfl, kp, kv, kb⟩ := hx
  obtain ⟨nm, rs, ps, vs, bl⟩ := x
  simp only at kp kv kb hG
  obtain ⟨⟨g1, g2⟩, g3, g4, g5⟩ := hG
  simp only at g1 g2 g3 g4 g5
  obtain ⟨A1, k1, rfl⟩ := kp.form
  obtain ⟨A2, k2, rfl⟩ := kv.form
  obtain ⟨A3, k3, rfl⟩ := kb.form
  obtain ⟨W, hW⟩ : ∃ W, w.alloc (.cells #[str nm, str rs, .slice A1 ps.length k1, .slice A2 vs.length k2, .slice A3 bl.length k3] 30) = W := ⟨_, rfl⟩
  obtain ⟨o1, b1, z1⟩ := boxF (cs := [str nm, str rs, .slice A1 ps.length k1, .slice A2 vs.length k2, .slice A3 bl.length k3]) hW
  have kP := Vars.move (Still.of_below (b1.mono hh)) kp
  have kV := Vars.move (Still.of_below (b1.mono hh)) kv
  have kB := Blocks.move (Still.of_below (b1.mono hh)) kb
  have lB := kB.get
  have HO := Lib.hid o1
  have HB := Lib.hid b1
  have HW := Lib.hid hW
  have KB := Lib.hid kB
  have GB := Lib.hid g5
  have QP := Lib.hid (cntVars_any lo hi W _ ps kP most hm g3)
  have QV := Lib.hid (cntVars_any lo hi W _ vs kV most hm g4)
  have HHW : Hid (hi ≤ W.heap.size) := Lib.hid (by omega)
  have hlb : bl.length ≤ 4611686018427387903 := by obtain ⟨_, _, _, h, _⟩ := lB; exact h
  clear o1 b1 hW kp kv kb kP kV kB g3 g4 g5 lB
  by_cases hb1 : most < bl.length
  · have e1 : decide ((most : Int) < (bl.length : Int)) = true := decide_eq_true (by omega)
    go_enter Tryd.func35, Tryd.ntmps35
    go_wp2_with fail
    rw [HW.out]
    go_ret
    exact ⟨most + 1, by go_num, cnt_more (by unfold cFunc; simp only; have := sum_len cBlock bl (fun x => by unfold cBlock; omega); omega) hm (by decide), HB.out⟩
  have e1 : decide ((most : Int) < (bl.length : Int)) = false := decide_eq_false (by omega)
  obtain ⟨S0, hS0⟩ : ∃ S0, 1 + nm.length + rs.length + cVars ps + cVars vs = S0 := ⟨_, rfl⟩
  have hs1 : Cnt B3 most (1 + nm.length) (1 + nm.length) := cnt_start (by unfold B3; omega)
  have HS0 := Lib.hid hS0
  clear hS0
  by_cases hc1 : 1 + nm.length ≤ most
  · have hs2 := cnt_add hs1 hc1 (a := rs.length) (by omega) hm (by decide)
    by_cases hc2 : 1 + nm.length + rs.length ≤ most
    · have HS2 := Lib.hid hs2
      clear hs1 hs2
      go_enter Tryd.func35, Tryd.ntmps35
      go_wp2_with fail
      rw [HW.out]
      refine QP.out.mono ?_
      rintro e w5 ⟨d, rfl, hd, hw5⟩
      obtain rfl := hw5.symm
      have hd2 : d ≤ 281474976710656 := by rcases hd with ⟨h1, h2⟩ | ⟨h1, h2, h3⟩ <;> (try unfold B0 at *) <;> omega
      have hs3 := cnt_plus HS2.out hc2 hd hm (by decide) (by decide)
      have f3 := holdF HO.out 3 rfl
      by_cases hc3 : 1 + nm.length + rs.length + d ≤ most
      · have HS3 := Lib.hid hs3
        clear hs3 hd
        go_wp2_with fail
        refine QV.out.mono ?_
        rintro e w6 ⟨d2, rfl, hd3, hw6⟩
        obtain rfl := hw6.symm
        have hd4 : d2 ≤ 281474976710656 := by rcases hd3 with ⟨h1, h2⟩ | ⟨h1, h2, h3⟩ <;> (try unfold B0 at *) <;> omega
        have HST3 := Lib.hid (cnt_of (T := S0) (cnt_plus HS3.out hc3 hd3 hm (by decide) (by decide)) (by rw [← HS0.out]))
        clear hd3 f3
        go_wp2_with fail
        go_loopw [5, 6] (fun m i wr => ∃ (k c : Nat), k ≤ bl.length ∧ m = .int .i64 c ∧ i = .int .i64 k ∧ Hid (Cnt B3 most (S0 + sumOf cBlock (bl.take k)) c) ∧ Hid (Below W.heap.size W wr)) (fun _ i _ => bl.length - (intOf i).toNat)
        case atStart => exact ⟨0, _, Nat.zero_le _, rfl, rfl, Lib.hid (by rw [sum_zero]; exact HST3.out), Lib.hid (Below.refl _ _)⟩
        case round =>
        obtain ⟨k, c, hk, rfl, rfl, HCN, HBr⟩ := hrel
        have f4 := (HO.out.below HBr.out HO.out.lt).cell 4
        simp only [List.getElem?_cons_succ, List.getElem?_cons_zero] at f4
        by_cases hlt : k < bl.length
        · obtain ⟨⟨bn, phs, cod, ⟨tk, ⟨ak, as_, an⟩, td, tn⟩⟩, hx⟩ : ∃ y, bl[k]? = some y := ⟨_, List.getElem?_eq_getElem hlt⟩
          by_cases hcm : c ≤ most
          · obtain ⟨b3, of3, hn3, hm3, a3, j3⟩ := KB.out.get
            obtain ⟨rfl, _, hb3⟩ := a3 (by omega)
            obtain ⟨cs3, _, q3, hu⟩ := j3 k _ hx
            have hu2 := BlockC.move (Still.of_below (HBr.out.mono HHW.out)) hu
            have QI := Lib.hid (cntBlock_any lo hi wr cs3 _ hu2 (Nat.le_trans HHW.out HBr.out.size) most hm (GB.out _ (List.mem_of_getElem? hx)))
            obtain ⟨x1, x2, x3, e1', _, _, x4, e2', _⟩ := hu
            subst e2'
            subst e1'
            obtain ⟨m0, m1, m2, m3, m4, m5, m6, m7, m8⟩ := at9 (cells_later q3 HBr.out (by have := HHW.out; omega))
            have HX := Lib.hid hx
            clear q3 j3 a3 hx hu2
            go_wp2_with ((with_reducible refine QI.out.mono ?_); rintro e w5 ⟨d, rfl, hd, hb5⟩; have HB5 := Lib.hid (HBr.out.trans (hb5.mono HBr.out.size)); have HD := Lib.hid hd; have hd2 : d ≤ 281477209079808 := (by rcases hd with ⟨h1, h2⟩ | ⟨h1, h2, h3⟩ <;> (try unfold B2 at *) <;> omega); clear hd hb5)
            go_roundw
            case rel => exact ⟨k + 1, c + d, by omega, by go_num, by go_num, Lib.hid (cnt_of (cnt_plus HCN.out hcm HD.out hm (by decide) (by decide)) (by rw [sum_next _ HX.out]; omega)), HB5⟩
            case measure => simp [intOf]; omega
          · clear hx
            have H9 := Lib.hid (cnt_end (S' := S0 + sumOf cBlock bl) HCN.out hcm (by have := sum_le cBlock bl k; omega))
            go_wp2
            go_ret
            exact ⟨c, rfl, cnt_of H9.out (by rw [← HS0.out]; unfold cFunc; simp only; try omega), HB.out.trans (HBr.out.mono HB.out.size)⟩
        · have H9 := Lib.hid (cnt_of (T := S0 + sumOf cBlock bl) HCN.out (by rw [sum_all cBlock (by omega)]))
          go_wp2
          go_ret
          exact ⟨c, rfl, cnt_of H9.out (by rw [← HS0.out]; unfold cFunc; simp only; try omega), HB.out.trans (HBr.out.mono HB.out.size)⟩
      · obtain ⟨c0, hC0⟩ : ∃ c0 : Nat, 1 + nm.length + rs.length + d = c0 := ⟨_, rfl⟩
        rw [hC0] at hs3 hc3
        have HST := Lib.hid hs3
        have hc0 := hc3
        have HC0 := Lib.hid (show ((1 : Int) + (nm.length : Int) + (rs.length : Int) + (d : Int)) = (c0 : Int) by omega)
        have HC1 : Hid (1 + nm.length + rs.length + cVars ps ≤ cFunc ⟨nm, rs, ps, vs, bl⟩) := Lib.hid (by unfold cFunc; simp only; omega)
        have hz : ¬ ((1 : Int) + (nm.length : Int) + (rs.length : Int) + (d : Int)) ≤ (most : Int) := by omega
        clear hs3 hc3 hC0 f3 hd
        go_wp2_with fail
        go_loop [5, 6] (fun m i => m = .int .i64 c0 ∧ i = .int .i64 0) (fun _ _ => 0)
        case atStart => exact ⟨by rw [HC0.out], rfl⟩
        case round =>
        obtain ⟨rfl, rfl⟩ := hrel
        have f4 := holdF HO.out 4 rfl
        by_cases h0 : 0 < bl.length
        all_goals
          go_wp2
          go_ret
          exact ⟨c0, rfl, cnt_end HST.out hc0 HC1.out, HB.out⟩
    · obtain ⟨c0, hC0⟩ : ∃ c0 : Nat, 1 + nm.length + rs.length = c0 := ⟨_, rfl⟩
      rw [hC0] at hs2 hc2
      have HST := Lib.hid hs2
      have hc0 := hc2
      have HC0 := Lib.hid (show ((1 : Int) + (nm.length : Int) + (rs.length : Int)) = (c0 : Int) by omega)
      have HC1 : Hid (c0 ≤ cFunc ⟨nm, rs, ps, vs, bl⟩) := Lib.hid (by unfold cFunc; simp only; omega)
      have hz : ¬ ((1 : Int) + (nm.length : Int) + (rs.length : Int)) ≤ (most : Int) := by omega
      clear hs1 hs2 hc2 hC0
      go_enter Tryd.func35, Tryd.ntmps35
      go_wp2_with fail
      rw [HW.out]
      go_loop [5, 6] (fun m i => m = .int .i64 c0 ∧ i = .int .i64 0) (fun _ _ => 0)
      case atStart => exact ⟨by rw [HC0.out], rfl⟩
      case round =>
      obtain ⟨rfl, rfl⟩ := hrel
      have f4 := holdF HO.out 4 rfl
      by_cases h0 : 0 < bl.length
      all_goals
        go_wp2
        go_ret
        exact ⟨c0, rfl, cnt_end HST.out hc0 HC1.out, HB.out⟩
  · obtain ⟨c0, hC0⟩ : ∃ c0 : Nat, 1 + nm.length = c0 := ⟨_, rfl⟩
    rw [hC0] at hs1 hc1
    have HST := Lib.hid hs1
    have hc0 := hc1
    have HC0 := Lib.hid (show ((1 : Int) + (nm.length : Int)) = (c0 : Int) by omega)
    have HC1 : Hid (c0 ≤ cFunc ⟨nm, rs, ps, vs, bl⟩) := Lib.hid (by unfold cFunc; simp only; omega)
    have hz : ¬ ((1 : Int) + (nm.length : Int)) ≤ (most : Int) := by omega
    clear hs1 hc1 hC0
    go_enter Tryd.func35, Tryd.ntmps35
    go_wp2_with fail
    rw [HW.out]
    go_loop [5, 6] (fun m i => m = .int .i64 c0 ∧ i = .int .i64 0) (fun _ _ => 0)
    case atStart => exact ⟨by rw [HC0.out], rfl⟩
    case round =>
    obtain ⟨rfl, rfl⟩ := hrel
    have f4 := holdF HO.out 4 rfl
    by_cases h0 : 0 < bl.length
    all_goals
      go_wp2
      go_ret
      exact ⟨c0, rfl, cnt_end HST.out hc0 HC1.out, HB.out⟩
end Go.Proofs.YtikfncgdjnljiaaDoor.Few6
