/-
  Layer 8: the document's Right.
-/
import Derived.Test.YtdgmdpphimenjaaDoorShRCome
namespace Go.Proofs.YtdgmdpphimenjaaDoor.Sh8
open Go.RowKit Api Mem Go.Maps

theorem first_nodup {ns : List Wd} (h : ∀ (i : Nat) (x : Wd), ns[i]? = some x → plc ns x = some i) : ns.Nodup := by
  rw [List.nodup_iff_pairwise_ne, List.pairwise_iff_getElem]
  intro i j hi hj hij e
  have h1 := h i _ (List.getElem?_eq_getElem hi)
  have h2 := h j _ (List.getElem?_eq_getElem hj)
  rw [e, h2] at h1
  cases h1
  omega
def FirstTo (ns : List Wd) (k : Nat) : Prop := ∀ (i : Nat) (x : Wd), i < k → ns[i]? = some x → plc ns x = some i
theorem FirstTo.next {ns : List Wd} {k : Nat} {x : Wd} (h : FirstTo ns k) (hx : ns[k]? = some x) (hp : plc ns x = some k) : FirstTo ns (k + 1) := by
  intro i y hi hy
  by_cases e : i < k
  · exact h i y e hy
  · obtain rfl : i = k := by omega
    rw [hx] at hy
    cases hy
    exact hp
theorem FirstTo.fin {ns : List Wd} {k : Nat} (h : FirstTo ns k) (hk : ns.length ≤ k) : ns.Nodup := first_nodup fun i x hx => h i x (by have := (List.getElem?_eq_some_iff.1 hx).1; omega) hx
set_option maxRecDepth 100000 in
set_option maxHeartbeats 8000000 in
theorem rright_any (lo hi : Nat) (w : World) (cs : List Value) (f : Api.Func) (hf : FuncC lo hi w cs f) (hh : hi ≤ w.heap.size) (hn : f.blocks.length ≤ 1099511627776) :
    Calls Tryd.prog 36 #[.agg cs.toArray] w (BP (RightP f.blocks) w) := by
  have hG : True := trivial
  have hfc := hf
  obtain ⟨u1, u2, u3, rfl, kp, kv, kb⟩ := hf
  obtain ⟨nm, rs, ps, vs, bl⟩ := f
  simp only at kp kv kb hG hn hfc ⊢
  obtain ⟨A1, k1, rfl⟩ := kp.form
  obtain ⟨A2, k2, rfl⟩ := kv.form
  obtain ⟨A3, k3, rfl⟩ := kb.form
  obtain ⟨W, hW⟩ : ∃ W, w.alloc (.cells #[str nm, str rs, .slice A1 ps.length k1, .slice A2 vs.length k2, .slice A3 bl.length k3] 37) = W := ⟨_, rfl⟩
  obtain ⟨o1, b1, z1⟩ := box8 (c := [str nm, str rs, .slice A1 ps.length k1, .slice A2 vs.length k2, .slice A3 bl.length k3]) hW
  have hlb : bl.length ≤ 4611686018427387903 := by obtain ⟨_, _, _, h, _⟩ := kb.get; exact h
  have KB := Lib.hid (Blocks.move (Still.of_below (b1.mono hh)) kb)
  have HO := Lib.hid o1
  have HB := Lib.hid b1
  have HW := Lib.hid hW
  have HHW : Hid (hi ≤ W.heap.size) := Lib.hid (by omega)
  have GB := Lib.hid hG
  have zlt := o1.lt
  clear o1 b1 hW kp kv kb hG
  clear GB
  have HF := Lib.hid hfc
  have HN := Lib.hid hn
  clear hfc hn
  go_enter Tryd.func36, Tryd.ntmps36
  go_wp2_with fail
  rw [HW.out]
  go_loopw [3] (fun i wr => ∃ k : Nat, k ≤ bl.length ∧ i = .int .i64 k ∧ Hid (FirstTo (names bl) k) ∧ Hid (∀ c ∈ bl.take k, EndOk (names bl) c.fin.dest) ∧ Hid (Below W.heap.size W wr)) (fun i _ => bl.length - (intOf i).toNat)
  case atStart => exact ⟨0, Nat.zero_le _, rfl, Lib.hid (fun i x h => by omega), Lib.hid (fun c hc => by simp at hc), Lib.hid (Below.refl _ _)⟩
  case round =>
  obtain ⟨k, hk, rfl, HFT, HEN, HBr⟩ := hrel
  have HOr := Lib.hid (HO.out.below HBr.out HO.out.lt)
  have f0 := HOr.out.cell 0
  have f1 := HOr.out.cell 1
  have f2 := HOr.out.cell 2
  have f3 := HOr.out.cell 3
  have f4 := HOr.out.cell 4
  simp only [List.getElem?_cons_succ, List.getElem?_cons_zero] at f0 f1 f2 f3 f4
  by_cases hlt : k < bl.length
  · obtain ⟨⟨bn, phs, cod, ⟨tk, ⟨ak, as_, an⟩, td, tn⟩⟩, hx⟩ : ∃ y, bl[k]? = some y := ⟨_, List.getElem?_eq_getElem hlt⟩
    obtain ⟨b3, of3, hn3, hm3, a3, j3⟩ := KB.out.get
    obtain ⟨rfl, _, hb3⟩ := a3 (by omega)
    obtain ⟨cs3, _, q3, hu⟩ := j3 k _ hx
    obtain ⟨x1, x2, x3, e1', kph, kco, x4, e2', kto⟩ := hu
    subst e2'
    subst e1'
    obtain ⟨m0, m1, m2, m3, m4, m5, m6, m7, m8⟩ := at9 (cells_later q3 HBr.out (by have := HHW.out; omega))
    obtain ⟨At, kt, rfl⟩ := Row.form kto
    have htl : td.length ≤ 4611686018427387903 := by obtain ⟨_, _, _, h, _⟩ := Row.get kto; exact h
    have HX := Lib.hid hx
    have KT := Lib.hid kto
    have HXN := Lib.hid (names_at hx)
    have QP := Lib.hid (rplace_any lo hi wr.drew _ _ (FuncC.move (Still.of_below (((HB.out.trans (HBr.out.mono HB.out.size)).drew).mono hh)) HF.out) (Nat.le_trans HHW.out HBr.out.size) bn)
    obtain ⟨q, hq⟩ := plc_mem (List.mem_of_getElem? (names_at hx))
    have hql : q < bl.length := by have := plc_lt hq; rwa [names_len] at this
    simp only at hq
    rw [hq] at QP
    simp only [plN, plB, Option.getD_some, Option.isSome_some] at QP
    have HQ := Lib.hid hq
    clear q3 kph kco kto hx j3 a3 hq
    by_cases hqk : q = k
    · subst hqk
      go_wp2_with fail
      go_region_law (go_simp; go_at_call 60; (with_reducible refine QP.out.mono ?_); rintro e w6 ⟨rfl, hw6⟩; have HB6 := Lib.hid (HBr.out.drew.trans (hw6.mono HBr.out.size)); clear hw6)
      all_goals
        have HO6 := Lib.hid (HO.out.below HB6.out HO.out.lt)
        obtain ⟨b4, of4, hn4, hm4, a4, j4⟩ := KB.out.get
        obtain ⟨eq4, _, hb4⟩ := a4 (by omega)
        simp only [Option.some.injEq, Addr.mk.injEq, and_true] at eq4
        obtain ⟨rfl, rfl⟩ := eq4
        obtain ⟨cs4, _, q4, hu4⟩ := j4 q _ HX.out
        obtain ⟨y1, y2, y3, e4', kph4, kco4, y4, e5', kto4⟩ := hu4
        subst e5'
        subst e4'
        obtain ⟨A8, k8, rfl⟩ := Row.form kto4
        clear m0 m1 m2 m3 m4 m5 m6 m7 m8 f0 f1 f2 f3 f4
        obtain ⟨m0, m1, m2, m3, m4, m5, m6, m7, m8⟩ := at9 (cells_later q4 HB6.out (by have := HHW.out; omega))
        have f0 := HO6.out.cell 0
        have f1 := HO6.out.cell 1
        have f2 := HO6.out.cell 2
        have f3 := HO6.out.cell 3
        have f4 := HO6.out.cell 4
        simp only [List.getElem?_cons_succ, List.getElem?_cons_zero] at f0 f1 f2 f3 f4
        have KT4 := Lib.hid kto4
        clear q4 j4 a4 kph4 kco4 kto4
        go_wp2_with fail
        go_loopw [7] (fun i wr2 => ∃ j : Nat, j ≤ td.length ∧ i = .int .i64 j ∧ Hid (EndOk (names bl) (td.take j)) ∧ Hid (Below W.heap.size W wr2)) (fun i _ => td.length - (intOf i).toNat)
        case atStart => exact ⟨0, Nat.zero_le _, rfl, Lib.hid ⟨by simp, fun x hx => by simp at hx⟩, HB6⟩
        case round =>
        obtain ⟨j, hj, rfl, HEJ, HBr2⟩ := hrel
        clear m0 m1 m2 m3 m4 m5 m6 m7 m8 f0 f1 f2 f3 f4 QP HO6
        by_cases hlt2 : j < td.length
        · obtain ⟨x, hxj⟩ : ∃ y, td[j]? = some y := ⟨_, List.getElem?_eq_getElem hlt2⟩
          have HOr2 := Lib.hid (HO.out.below HBr2.out HO.out.lt)
          have f0 := HOr2.out.cell 0
          have f1 := HOr2.out.cell 1
          have f2 := HOr2.out.cell 2
          have f3 := HOr2.out.cell 3
          have f4 := HOr2.out.cell 4
          simp only [List.getElem?_cons_succ, List.getElem?_cons_zero] at f0 f1 f2 f3 f4
          have kt2 := KT4.out
          obtain ⟨b5, of5, hn5, hm5, a5, j5⟩ := Row.get kt2
          obtain ⟨rfl, _, hb5⟩ := a5 (show 0 < td.length by omega)
          obtain ⟨cs5, _, q5, hu5⟩ := j5 j _ hxj
          subst hu5
          have n0 := cells_later q5 HBr2.out (by have := HHW.out; omega) 0 _ rfl
          simp only [Nat.mul_one, Nat.add_zero] at n0
          clear q5 j5 a5 kt2
          have HXJ := Lib.hid hxj
          have QP := Lib.hid (rplace_any lo hi wr.drew _ _ (FuncC.move (Still.of_below (((HB.out.trans (HBr2.out.mono HB.out.size)).drew).mono hh)) HF.out) (Nat.le_trans HHW.out HBr2.out.size) x)
          clear hxj
          cases hp : plc (names bl) x with
          | none =>
            have HBAD := Lib.hid (end_bad (ns := names bl) HXJ.out (.inl (plc_none.1 hp)))
            rw [hp] at QP
            simp only [plN, plB, Option.getD_none, Option.isSome_none] at QP
            clear hp
            go_wp2_with fail
            go_region_law (go_simp; go_at_call 60; (with_reducible refine QP.out.mono ?_); rintro e w6 ⟨rfl, hw6⟩; have HB6 := Lib.hid (HBr2.out.drew.trans (hw6.mono HBr2.out.size)); clear hw6)
            all_goals
              go_wp2_with fail
              go_ret
              exact ⟨false, rfl, ⟨fun h => (by cases h), fun h => absurd (h.2.2.1 _ (List.mem_of_getElem? HX.out)) HBAD.out⟩, HB.out.trans (HB6.out.mono HB.out.size)⟩
          | some p =>
            rw [hp] at QP
            simp only [plN, plB, Option.getD_some, Option.isSome_some] at QP
            have hpl : p < bl.length := by have := plc_lt hp; rwa [names_len] at this
            have HP := Lib.hid hp
            clear hp
            by_cases hp0 : p = 0
            · subst hp0
              have HBAD := Lib.hid (end_bad (ns := names bl) HXJ.out (.inr (.inl (plc_at HP.out))))
              go_wp2_with fail
              go_region_law (go_simp; go_at_call 60; (with_reducible refine QP.out.mono ?_); rintro e w6 ⟨rfl, hw6⟩; have HB6 := Lib.hid (HBr2.out.drew.trans (hw6.mono HBr2.out.size)); clear hw6)
              all_goals
                go_wp2_with fail
                go_ret
                exact ⟨false, rfl, ⟨fun h => (by cases h), fun h => absurd (h.2.2.1 _ (List.mem_of_getElem? HX.out)) HBAD.out⟩, HB.out.trans (HB6.out.mono HB.out.size)⟩
            · have ep : ((p : Int) == 0) = false := by simpa using hp0
              have HP0 := Lib.hid hp0
              clear hp0
              go_wp2_with fail
              go_region_law (go_simp; go_at_call 60; (with_reducible refine QP.out.mono ?_); rintro e w6 ⟨rfl, hw6⟩; have HB6 := Lib.hid (HBr2.out.drew.trans (hw6.mono HBr2.out.size)); clear hw6)
              all_goals
                clear f0 f1 f2 f3 f4 n0
                go_wp2_with fail
                go_loopw [10] (fun i wr3 => ∃ m : Nat, m ≤ j ∧ i = .int .i64 m ∧ Hid (∀ y ∈ td.take m, y ≠ x) ∧ Hid (Below W.heap.size W wr3)) (fun i _ => j - (intOf i).toNat)
                case atStart => exact ⟨0, Nat.zero_le _, rfl, Lib.hid (fun y hy => by simp at hy), HB6⟩
                case round =>
                obtain ⟨m, hm, rfl, HNE, HBr3⟩ := hrel
                by_cases hlt3 : m < j
                · obtain ⟨y, hyj⟩ : ∃ y, td[m]? = some y := ⟨_, List.getElem?_eq_getElem (by omega)⟩
                  have kt2 := KT4.out
                  obtain ⟨b7, of7, hn7, hm7, a7, j7⟩ := Row.get kt2
                  obtain ⟨eq7, _, hb7⟩ := a7 (show 0 < td.length by omega)
                  simp only [Option.some.injEq, Addr.mk.injEq, and_true] at eq7
                  obtain ⟨rfl, rfl⟩ := eq7
                  obtain ⟨cs5, _, q5, hu5⟩ := j7 m _ hyj
                  subst hu5
                  obtain ⟨cs6, _, q6, hu6⟩ := j7 j _ HXJ.out
                  subst hu6
                  have n0 := cells_later q5 HBr3.out (by have := HHW.out; omega) 0 _ rfl
                  have n1 := cells_later q6 HBr3.out (by have := HHW.out; omega) 0 _ rfl
                  simp only [Nat.mul_one, Nat.add_zero] at n0 n1
                  have HYJ := Lib.hid hyj
                  have hmt : m < td.length := by omega
                  clear q5 q6 j7 a7 kt2 hyj
                  by_cases hyx : y = x
                  · have en : (y == x) = true := by simpa using hyx
                    have HBAD := Lib.hid (end_bad (ns := names bl) HXJ.out (.inr (.inr (by
                      rw [← hyx]
                      obtain ⟨q1, q2⟩ := List.getElem?_eq_some_iff.1 HYJ.out
                      exact List.mem_take_iff_getElem.2 ⟨m, by omega, q2⟩))))
                    clear hyx
                    go_wp2_with fail
                    go_region
                    go_wp2_with fail
                    go_ret
                    exact ⟨false, rfl, ⟨fun h => (by cases h), fun h => absurd (h.2.2.1 _ (List.mem_of_getElem? HX.out)) HBAD.out⟩, HB.out.trans (HBr3.out.drew.mono HB.out.size)⟩
                  · have en : (y == x) = false := by simpa using hyx
                    have HYX := Lib.hid hyx
                    clear hyx
                    go_wp2_with fail
                    go_region
                    go_wp2_with fail
                    go_roundw
                    case rel => exact ⟨m + 1, by omega, by go_num, Lib.hid (take_in HYJ.out HNE.out HYX.out), Lib.hid HBr3.out.drew⟩
                    case measure => simp [intOf]; omega
                · have HEN2 := Lib.hid (end_next HEJ.out HXJ.out (List.mem_of_getElem? (plc_at HP.out)) (fun e => HP0.out (by have := plc_first e (fun i hi => by omega); rw [HP.out] at this; cases this; rfl)) (fun hm9 => by
                    have := HNE.out
                    rw [show m = j by omega] at this
                    exact this x hm9 rfl))
                  go_wp2_with fail
                  go_roundw
                  case rel => exact ⟨j + 1, by omega, by go_num, HEN2, HBr3⟩
                  case measure => simp [intOf]; omega
        · have HFN := Lib.hid (HFT.out.next HXN.out HQ.out)
          have HEK := Lib.hid (take_in HX.out HEN.out (by have := HEJ.out; rwa [List.take_of_length_le (by omega)] at this))
          go_wp2_with fail
          go_roundw
          case rel => exact ⟨q + 1, by omega, by go_num, HFN, HEK, HBr2⟩
          case measure => simp [intOf]; omega
    · have eq1 : ((q : Int) == (k : Int)) = false := by simp; omega
      have eq2 : (q == k) = false := by simpa using hqk
      have HBAD : Hid (¬ RightP bl) := Lib.hid (fun h => hqk (by
        have := plc_nodup h.2.1 HXN.out
        rw [HQ.out] at this
        cases this
        rfl))
      clear hqk
      go_wp2_with fail
      go_region_law (go_simp; go_at_call 60; (with_reducible refine QP.out.mono ?_); rintro e w6 ⟨rfl, hw6⟩; have HB6 := Lib.hid (HBr.out.drew.trans (hw6.mono HBr.out.size)); clear hw6)
      all_goals
        go_wp2_with fail
        go_ret
        exact ⟨false, rfl, ⟨fun h => (by cases h), fun h => absurd h HBAD.out⟩, HB.out.trans (HB6.out.mono HB.out.size)⟩
  · have HND := Lib.hid (HFT.out.fin (by rw [names_len]; omega))
    have HEA := Lib.hid (show ∀ c ∈ bl, EndOk (names bl) c.fin.dest by have := HEN.out; rwa [List.take_of_length_le (by omega)] at this)
    have QC := Lib.hid (rcome_any lo hi wr _ _ (FuncC.move (Still.of_below ((HB.out.trans (HBr.out.mono HB.out.size)).mono hh)) HF.out) (Nat.le_trans HHW.out HBr.out.size) HN.out)
    go_wp2_with fail
    refine QC.out.mono ?_
    rintro e w6 ⟨g, C, rfl, hC, hBT, hg, hw6⟩
    have HB6 := Lib.hid (HBr.out.trans (hw6.mono HBr.out.size))
    have HC := Lib.hid hC
    have HBT := Lib.hid hBT
    have hcl : C.length = bl.length := hBT.1.len
    clear hC hBT hw6 f0 f1 f2 f3 f4
    go_wp2_with fail
    go_loopw [12] (fun i wr3 => ∃ p : Nat, p ≤ bl.length ∧ i = .int .i64 p ∧ Hid (∀ q, q < p → C[q]? = some true) ∧ wr3 = w6) (fun i _ => bl.length - (intOf i).toNat)
    case atStart => exact ⟨0, Nat.zero_le _, rfl, Lib.hid (fun q hq => by omega), rfl⟩
    case round =>
    obtain ⟨p, hp, rfl, HAL, rfl⟩ := hrel
    by_cases hlt3 : p < bl.length
    · obtain ⟨c, hc⟩ : ∃ c, C[p]? = some c := ⟨_, List.getElem?_eq_getElem (by omega)⟩
      have c8 := (HC.out.cell p).trans (show (C.map Value.bool)[p]? = some (Value.bool c) by rw [List.getElem?_map, hc]; rfl)
      have HCP := Lib.hid hc
      clear hc
      cases c with
      | false =>
        have HBAD : Hid (¬ RightP bl) := Lib.hid (fun h => by
          have := (HBT.out.fin HND.out (by omega)).2 h.2.2.2 p hlt3
          rw [HCP.out] at this
          cases this)
        go_wp2_with fail
        go_ret
        exact ⟨false, rfl, ⟨fun h => (by cases h), fun h => absurd h HBAD.out⟩, HB.out.trans (HB6.out.mono HB.out.size)⟩
      | true =>
        go_wp2_with fail
        go_roundw
        case rel => exact ⟨p + 1, by omega, by go_num, Lib.hid (fun q hq => by
          by_cases e : q < p
          · exact HAL.out q e
          · obtain rfl : q = p := by omega
            exact HCP.out), trivial⟩
        case measure => simp [intOf]; omega
    · have HPP : Hid (p = bl.length) := Lib.hid (by omega)
      go_wp2_with fail
      go_ret
      refine ⟨_, rfl, ?_, HB.out.trans (HB6.out.mono HB.out.size)⟩
      constructor
      · intro h
        have h0 : 0 < bl.length := by simpa using h
        refine ⟨fun e => by rw [e] at h0; simp at h0, HND.out, HEA.out, (HBT.out.fin HND.out h0).1 fun q hq => HAL.out q (by rw [HPP.out]; exact hq)⟩
      · intro h
        have h0 : 0 < bl.length := List.length_pos_iff.2 h.1
        simpa using h0
end Go.Proofs.YtdgmdpphimenjaaDoor.Sh8
