/-
  Layer 8: the document's Few and Leads.
-/
import Derived.Test.YtdgmdpphimenjaaDoorShRight
import Derived.Deep.RegionLaw
import Derived.Deep.QuietTactic
import Derived.BigQuiet
namespace Go.Proofs.YtdgmdpphimenjaaDoor.Sh8
open Go.RowKit Api Mem Go.Maps

/-- A bool is answered; if it is true, it is so. -/
def TP (p : Prop) (w : World) (e : Ending) (w' : World) : Prop := ∃ b : Bool, e = .returned (.bool b) ∧ (b = true → p) ∧ Below w.heap.size w w'
set_option maxRecDepth 100000 in
set_option maxHeartbeats 8000000 in
theorem few_any (lo hi : Nat) (w : World) (cs : List Value) (f : Api.Func) (hf : FuncC lo hi w cs f) (hh : hi ≤ w.heap.size) :
    Calls Tryd.prog 35 #[.agg cs.toArray] w (TP (FewP f.blocks) w) := by
  have hG : True := trivial
  obtain ⟨u1, u2, u3, rfl, kp, kv, kb⟩ := hf
  obtain ⟨nm, rs, ps, vs, bl⟩ := f
  simp only at kp kv kb hG ⊢
  obtain ⟨A1, k1, rfl⟩ := kp.form
  obtain ⟨A2, k2, rfl⟩ := kv.form
  obtain ⟨A3, k3, rfl⟩ := kb.form
  obtain ⟨W, hW⟩ : ∃ W, w.alloc (.cells #[str nm, str rs, .slice A1 ps.length k1, .slice A2 vs.length k2, .slice A3 bl.length k3] 37) = W := ⟨_, rfl⟩
  obtain ⟨o1, b1, z1⟩ := box8 (c := [str nm, str rs, .slice A1 ps.length k1, .slice A2 vs.length k2, .slice A3 bl.length k3]) hW
  have hlb : bl.length ≤ 4611686018427387903 := by obtain ⟨_, _, _, h, _⟩ := kb.get; exact h
  have KB := Lib.hid (Blocks.move (Still.of_below (b1.mono hh)) kb)
  have HO := Lib.hid o1
  have HB := Lib.hid b1
  have HW := Lib.hid hW
  have HHW : Hid (hi ≤ W.heap.size) := Lib.hid (by omega)
  have GB := Lib.hid hG
  have zlt := o1.lt
  clear o1 b1 hW kp kv kb hG
  clear GB
  by_cases h60 : bl.length ≤ 60
  · have e60 : decide ((60 : Int) < (bl.length : Int)) = false := decide_eq_false (by omega)
    go_enter Tryd.func35, Tryd.ntmps35
    go_wp2_with fail
    rw [HW.out]
    have f4' := HO.out.cell 4
    simp only [List.getElem?_cons_succ, List.getElem?_cons_zero] at f4'
    go_wp2_with fail
    go_loopw [3] (fun i wr => ∃ k : Nat, k ≤ bl.length ∧ i = .int .i64 k ∧ Hid (∀ b ∈ bl.take k, b.fin.dest.length ≤ 8 ∧ b.phis.length ≤ 40 ∧ ∀ p ∈ b.phis, p.ins.length ≤ 60) ∧ Hid (Below W.heap.size W wr)) (fun i _ => bl.length - (intOf i).toNat)
    case atStart => exact ⟨0, Nat.zero_le _, rfl, Lib.hid (fun b hb => by simp at hb), Lib.hid (Below.refl _ _)⟩
    case round =>
    obtain ⟨k, hk, rfl, HK, HBr⟩ := hrel
    clear f4'
    have f4 := (HO.out.below HBr.out HO.out.lt).cell 4
    simp only [List.getElem?_cons_succ, List.getElem?_cons_zero] at f4
    by_cases hlt : k < bl.length
    · obtain ⟨⟨bn, phs, cod, ⟨tk, ⟨ak, as_, an⟩, td, tn⟩⟩, hx⟩ : ∃ y, bl[k]? = some y := ⟨_, List.getElem?_eq_getElem hlt⟩
      obtain ⟨b3, of3, hn3, hm3, a3, j3⟩ := KB.out.get
      obtain ⟨rfl, _, hb3⟩ := a3 (by omega)
      obtain ⟨cs3, _, q3, hu⟩ := j3 k _ hx
      obtain ⟨x1, x2, x3, e1', kph, kco, x4, e2', kto⟩ := hu
      subst e2'
      subst e1'
      obtain ⟨m0, m1, m2, m3, m4, m5, m6, m7, m8⟩ := at9 (cells_later q3 HBr.out (by have := HHW.out; omega))
      obtain ⟨At, kt, rfl⟩ := Row.form kto
      obtain ⟨A5, k5, rfl⟩ := Row.form kph
      have hpl : phs.length ≤ 4611686018427387903 := by obtain ⟨_, _, _, h, _⟩ := Row.get kph; exact h
      have HX := Lib.hid hx
      have KP := Lib.hid kph
      clear q3 j3 a3 hx kph kco kto
      by_cases h8 : td.length ≤ 8
      · have e8 : decide ((8 : Int) < (td.length : Int)) = false := decide_eq_false (by omega)
        by_cases h40 : phs.length ≤ 40
        · have e40 : decide ((40 : Int) < (phs.length : Int)) = false := decide_eq_false (by omega)
          have H8 := Lib.hid h8
          have H40 := Lib.hid h40
          clear h8 h40
          go_wp2_with fail
          go_loopw [4] (fun i wr2 => ∃ j : Nat, j ≤ phs.length ∧ i = .int .i64 j ∧ Hid (∀ p ∈ phs.take j, p.ins.length ≤ 60) ∧ Hid (Below W.heap.size W wr2)) (fun i _ => phs.length - (intOf i).toNat)
          case atStart => exact ⟨0, Nat.zero_le _, rfl, Lib.hid (fun b hb => by simp at hb), HBr⟩
          case round =>
          obtain ⟨j, hj, rfl, HPP, HBr2⟩ := hrel
          clear m0 m1 m2 m3 m4 m5 m6 m7 m8 f4
          have f4 := (HO.out.below HBr2.out HO.out.lt).cell 4
          simp only [List.getElem?_cons_succ, List.getElem?_cons_zero] at f4
          obtain ⟨b4, of4, hn4, hm4, a4, j4⟩ := KB.out.get
          obtain ⟨eq4, _, hb4⟩ := a4 (by omega)
          simp only [Option.some.injEq, Addr.mk.injEq, and_true] at eq4
          obtain ⟨rfl, rfl⟩ := eq4
          obtain ⟨cs4, _, q4, hu4⟩ := j4 k _ HX.out
          obtain ⟨y1, y2, y3, e4', kph4, kco4, y4, e5', kto4⟩ := hu4
          subst e5'
          subst e4'
          obtain ⟨A8, k8, rfl⟩ := Row.form kph4
          obtain ⟨m0, m1, m2, m3, m4, m5, m6, m7, m8⟩ := at9 (cells_later q4 HBr2.out (by have := HHW.out; omega))
          have KP4 := Lib.hid kph4
          clear q4 j4 a4 kph4 kco4 kto4
          by_cases hlt2 : j < phs.length
          · obtain ⟨⟨dn, ins⟩, hxj⟩ : ∃ y, phs[j]? = some y := ⟨_, List.getElem?_eq_getElem hlt2⟩
            have kt2 := KP4.out
            obtain ⟨b5, of5, hn5, hm5, a5, j5⟩ := Row.get kt2
            obtain ⟨rfl, _, hb5⟩ := a5 (show 0 < phs.length by omega)
            obtain ⟨cs5, _, q5, hu5⟩ := j5 j _ hxj
            obtain ⟨x5, hu6, kin⟩ := hu5
            subst hu6
            obtain ⟨A9, k9, rfl⟩ := Row.form kin
            obtain ⟨n0, n1⟩ := at2 (cells_later q5 HBr2.out (by have := HHW.out; omega))
            have HXJ := Lib.hid hxj
            clear q5 j5 a5 hxj kin kt2
            by_cases h6 : ins.length ≤ 60
            · have e6 : decide ((60 : Int) < (ins.length : Int)) = false := decide_eq_false (by omega)
              have H6 := Lib.hid h6
              clear h6
              go_wp2_with fail
              go_roundw
              case rel => exact ⟨j + 1, by omega, by go_num, Lib.hid (take_in HXJ.out HPP.out H6.out), HBr2⟩
              case measure => simp [intOf]; omega
            · have e6 : decide ((60 : Int) < (ins.length : Int)) = true := decide_eq_true (by omega)
              clear h6
              go_wp2_with fail
              go_ret
              exact ⟨false, rfl, fun h => (by cases h), HB.out.trans (HBr2.out.mono HB.out.size)⟩
          · have HPN := Lib.hid (take_in HX.out HK.out ⟨H8.out, H40.out, by have := HPP.out; rwa [List.take_of_length_le (by omega)] at this⟩)
            go_wp2_with fail
            go_roundw
            case rel => exact ⟨k + 1, by omega, by go_num, HPN, HBr2⟩
            case measure => simp [intOf]; omega
        · have e40 : decide ((40 : Int) < (phs.length : Int)) = true := decide_eq_true (by omega)
          clear h8 h40
          go_wp2_with fail
          go_ret
          exact ⟨false, rfl, fun h => (by cases h), HB.out.trans (HBr.out.mono HB.out.size)⟩
      · have e8 : decide ((8 : Int) < (td.length : Int)) = true := decide_eq_true (by omega)
        clear h8
        go_wp2_with fail
        go_ret
        exact ⟨false, rfl, fun h => (by cases h), HB.out.trans (HBr.out.mono HB.out.size)⟩
    · have HAL := Lib.hid (show FewP bl by
        refine ⟨h60, ?_⟩
        have := HK.out
        rwa [List.take_of_length_le (by omega)] at this)
      go_wp2_with fail
      go_ret
      exact ⟨true, rfl, fun _ => HAL.out, HB.out.trans (HBr.out.mono HB.out.size)⟩
  · have e60 : decide ((60 : Int) < (bl.length : Int)) = true := decide_eq_true (by omega)
    clear h60
    go_enter Tryd.func35, Tryd.ntmps35
    go_wp2_with fail
    rw [HW.out]
    have f4 := HO.out.cell 4
    simp only [List.getElem?_cons_succ, List.getElem?_cons_zero] at f4
    go_wp2_with fail
    go_ret
    exact ⟨false, rfl, fun h => (by cases h), HB.out⟩
set_option maxRecDepth 100000 in
set_option maxHeartbeats 8000000 in
theorem leads_any (lo hi : Nat) (w : World) (cs : List Value) (f : Api.Func) (hf : FuncC lo hi w cs f) (hh : hi ≤ w.heap.size) (i k : Nat) (c : Bl) (hi' : f.blocks[i]? = some c) (hk : k ≤ 1099511627776) :
    Calls Tryd.prog 91 #[.agg cs.toArray, .int .i64 (i : Int), .int .i64 (k : Int)] w (BP (∃ x ∈ c.fin.dest, plc (names f.blocks) x = some k) w) := by
  have hG : True := trivial
  have hfc := hf
  obtain ⟨u1, u2, u3, rfl, kp, kv, kb⟩ := hf
  obtain ⟨nm, rs, ps, vs, bl⟩ := f
  simp only at kp kv kb hG hi' hfc ⊢
  obtain ⟨A1, k1, rfl⟩ := kp.form
  obtain ⟨A2, k2, rfl⟩ := kv.form
  obtain ⟨A3, k3, rfl⟩ := kb.form
  obtain ⟨W, hW⟩ : ∃ W, w.alloc (.cells #[str nm, str rs, .slice A1 ps.length k1, .slice A2 vs.length k2, .slice A3 bl.length k3] 37) = W := ⟨_, rfl⟩
  obtain ⟨o1, b1, z1⟩ := box8 (c := [str nm, str rs, .slice A1 ps.length k1, .slice A2 vs.length k2, .slice A3 bl.length k3]) hW
  have hlb : bl.length ≤ 4611686018427387903 := by obtain ⟨_, _, _, h, _⟩ := kb.get; exact h
  have KB := Lib.hid (Blocks.move (Still.of_below (b1.mono hh)) kb)
  have HO := Lib.hid o1
  have HB := Lib.hid b1
  have HW := Lib.hid hW
  have HHW : Hid (hi ≤ W.heap.size) := Lib.hid (by omega)
  have GB := Lib.hid hG
  have zlt := o1.lt
  clear o1 b1 hW kp kv kb hG
  clear GB
  obtain ⟨bn, phs, cod, ⟨tk, ⟨ak, as_, an⟩, td, tn⟩⟩ := c
  simp only
  have HX := Lib.hid hi'
  have HF := Lib.hid hfc
  have hil : i < bl.length := (List.getElem?_eq_some_iff.1 hi').1
  clear hi' hfc
  go_enter Tryd.func91, Tryd.ntmps91
  go_wp2_with fail
  rw [HW.out]
  go_loopw [7] (fun i wr => ∃ j : Nat, j ≤ td.length ∧ i = .int .i64 j ∧ Hid (∀ x ∈ td.take j, plc (names bl) x ≠ some k) ∧ Hid (Below W.heap.size W wr)) (fun i _ => td.length - (intOf i).toNat)
  case atStart => exact ⟨0, Nat.zero_le _, rfl, Lib.hid (fun b hb => by simp at hb), Lib.hid (Below.refl _ _)⟩
  case round =>
  obtain ⟨j, hj, rfl, HK, HBr⟩ := hrel
  have HOr := Lib.hid (HO.out.below HBr.out HO.out.lt)
  have f0 := HOr.out.cell 0
  have f1 := HOr.out.cell 1
  have f2 := HOr.out.cell 2
  have f3 := HOr.out.cell 3
  have f4 := HOr.out.cell 4
  simp only [List.getElem?_cons_succ, List.getElem?_cons_zero] at f0 f1 f2 f3 f4
  have hx := HX.out
  obtain ⟨b3, of3, hn3, hm3, a3, j3⟩ := KB.out.get
  obtain ⟨rfl, _, hb3⟩ := a3 (by omega)
  obtain ⟨cs3, _, q3, hu⟩ := j3 i _ hx
  obtain ⟨x1, x2, x3, e1', kph, kco, x4, e2', kto⟩ := hu
  subst e2'
  subst e1'
  obtain ⟨m0, m1, m2, m3, m4, m5, m6, m7, m8⟩ := at9 (cells_later q3 HBr.out (by have := HHW.out; omega))
  obtain ⟨At, kt, rfl⟩ := Row.form kto
  have KT := Lib.hid kto
  have htl : td.length ≤ 4611686018427387903 := by obtain ⟨_, _, _, h, _⟩ := Row.get kto; exact h
  clear q3 j3 a3 kph kco kto hx
  by_cases hlt2 : j < td.length
  · obtain ⟨x, hxj⟩ : ∃ y, td[j]? = some y := ⟨_, List.getElem?_eq_getElem hlt2⟩
    have kt2 := KT.out
    obtain ⟨b5, of5, hn5, hm5, a5, j5⟩ := Row.get kt2
    obtain ⟨rfl, _, hb5⟩ := a5 (show 0 < td.length by omega)
    obtain ⟨cs5, _, q5, hu5⟩ := j5 j _ hxj
    subst hu5
    have n0 := cells_later q5 HBr.out (by have := HHW.out; omega) 0 _ rfl
    simp only [Nat.mul_one, Nat.add_zero] at n0
    clear q5 j5 a5 kt2
    have HXJ := Lib.hid hxj
    have QP := Lib.hid (rplace_any lo hi wr.drew _ _ (FuncC.move (Still.of_below (((HB.out.trans (HBr.out.mono HB.out.size)).drew).mono hh)) HF.out) (Nat.le_trans HHW.out HBr.out.size) x)
    clear hxj
    cases hp : plc (names bl) x with
    | none =>
      have HPX : Hid (plc (names bl) x ≠ some k) := Lib.hid (by rw [hp]; simp)
      rw [hp] at QP
      simp only [plN, plB, Option.getD_none, Option.isSome_none] at QP
      clear hp
      go_wp2_with fail
      go_region_law (go_simp; go_at_call 60; (with_reducible refine QP.out.mono ?_); rintro e w6 ⟨rfl, hw6⟩; have HB6 := Lib.hid (HBr.out.drew.trans (hw6.mono HBr.out.size)); clear hw6)
      all_goals
        go_wp2_with fail
        go_roundw
        case rel => exact ⟨j + 1, by omega, by go_num, Lib.hid (take_in HXJ.out HK.out HPX.out), HB6⟩
        case measure => simp [intOf]; omega
    | some q =>
      rw [hp] at QP
      simp only [plN, plB, Option.getD_some, Option.isSome_some] at QP
      have hql : q < bl.length := by have := plc_lt hp; rwa [names_len] at this
      by_cases hq : q = k
      · subst hq
        have HPX := Lib.hid hp
        clear hp
        go_wp2_with fail
        go_region_law (go_simp; go_at_call 60; (with_reducible refine QP.out.mono ?_); rintro e w6 ⟨rfl, hw6⟩; have HB6 := Lib.hid (HBr.out.drew.trans (hw6.mono HBr.out.size)); clear hw6)
        all_goals
          go_wp2_with fail
          go_ret
          exact ⟨true, rfl, ⟨fun _ => ⟨x, List.mem_of_getElem? HXJ.out, HPX.out⟩, fun _ => rfl⟩, HB.out.trans (HB6.out.mono HB.out.size)⟩
      · have HPX : Hid (plc (names bl) x ≠ some k) := Lib.hid (by rw [hp]; simpa using hq)
        have eq1 : ((q : Int) == (k : Int)) = false := by simp; omega
        have eq2 : (q == k) = false := by simpa using hq
        clear hp hq
        go_wp2_with fail
        go_region_law (go_simp; go_at_call 60; (with_reducible refine QP.out.mono ?_); rintro e w6 ⟨rfl, hw6⟩; have HB6 := Lib.hid (HBr.out.drew.trans (hw6.mono HBr.out.size)); clear hw6)
        all_goals
          go_wp2_with fail
          go_roundw
          case rel => exact ⟨j + 1, by omega, by go_num, Lib.hid (take_in HXJ.out HK.out HPX.out), HB6⟩
          case measure => simp [intOf]; omega
  · have HNO := Lib.hid (show ¬ ∃ x ∈ td, plc (names bl) x = some k by
      rintro ⟨x, hx, e⟩
      have := HK.out
      rw [List.take_of_length_le (by omega)] at this
      exact this x hx e)
    go_wp2_with fail
    go_ret
    exact ⟨false, rfl, ⟨fun h => (by cases h), fun h => absurd h HNO.out⟩, HB.out.trans (HBr.out.mono HB.out.size)⟩
end Go.Proofs.YtdgmdpphimenjaaDoor.Sh8
