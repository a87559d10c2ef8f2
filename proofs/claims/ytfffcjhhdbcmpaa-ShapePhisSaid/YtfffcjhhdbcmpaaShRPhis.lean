/-
  Layer 8: the document's Phis.
-/
import Derived.Test.YtfffcjhhdbcmpaaShRef
import Derived.Test.YtfffcjhhdbcmpaaShPhis
namespace Go.Proofs.Ytfffcjhhdbcmpaa.Sh8
open Go.RowKit Api Mem Go.Maps

theorem cntN_le (x : Wd) : ∀ l : List Wd, cntN x l ≤ l.length
  | [] => Nat.le_refl _
  | y :: r => by
    have := cntN_le x r
    unfold cntN
    simp only [List.length_cons]
    split <;> omega
theorem cntN_take {l : List Wd} {q : Nat} {y : Wd} (x : Wd) (h : l[q]? = some y) : cntN x (l.take (q + 1)) = cntN x (l.take q) + (if y = x then 1 else 0) := by
  obtain ⟨hq, e⟩ := List.getElem?_eq_some_iff.1 h
  rw [List.take_succ_eq_append_getElem hq, e, cntN_snoc]
theorem names_take (bl : List Bl) (k : Nat) : names (bl.take k) = (names bl).take k := by simp [names]
theorem sumN_take {bl : List Bl} {j : Nat} {b : Bl} (l : List Wd) (h : bl[j]? = some b) : sumN l (names (bl.take (j + 1))) = sumN l (names (bl.take j)) + cntN b.name l := by
  obtain ⟨hj, e⟩ := List.getElem?_eq_some_iff.1 h
  rw [List.take_succ_eq_append_getElem hj, e]
  have : names (bl.take j ++ [b]) = names (bl.take j) ++ [b.name] := by simp [names]
  rw [this, sumN_snoc]
theorem sumN_small {bl : List Bl} (h : (names bl).Nodup) (j : Nat) (l : List Wd) : sumN l (names (bl.take j)) ≤ l.length := by
  refine (sumN_le ?_ l).1
  rw [names_take]
  exact h.sublist (List.take_sublist _ _)
theorem leads_is {bl : List Bl} (h : (names bl).Nodup) {i : Nat} {b c : Bl} (hi : bl[i]? = some b) : (∃ x ∈ c.fin.dest, plc (names bl) x = some i) ↔ b.name ∈ c.fin.dest := by
  constructor
  · rintro ⟨x, hx, hp⟩
    have := plc_at hp
    rw [names_at hi] at this
    cases this
    exact hx
  · intro hx
    exact ⟨b.name, hx, plc_nodup h (names_at hi)⟩
set_option maxRecDepth 100000 in
set_option maxHeartbeats 8000000 in
theorem rphis_any (lo hi : Nat) (w : World) (cs : List Value) (f : Api.Func) (hf : FuncC lo hi w cs f) (hh : hi ≤ w.heap.size) (hn : f.blocks.length ≤ 1099511627776) (hG2 : phG f.blocks) (hR : (names f.blocks).Nodup) :
    Calls Try.prog 15 #[.agg cs.toArray] w (BP (PhisP f.blocks) w) := by
  have hG : True := trivial
  have hfc := hf
  obtain ⟨u1, u2, u3, rfl, kp, kv, kb⟩ := hf
  obtain ⟨nm, rs, ps, vs, bl⟩ := f
  simp only at kp kv kb hG hG2 hn hfc hR ⊢
  obtain ⟨A1, k1, rfl⟩ := kp.form
  obtain ⟨A2, k2, rfl⟩ := kv.form
  obtain ⟨A3, k3, rfl⟩ := kb.form
  obtain ⟨W, hW⟩ : ∃ W, w.alloc (.cells #[str nm, str rs, .slice A1 ps.length k1, .slice A2 vs.length k2, .slice A3 bl.length k3] 25) = W := ⟨_, rfl⟩
  obtain ⟨o1, b1, z1⟩ := box8 (c := [str nm, str rs, .slice A1 ps.length k1, .slice A2 vs.length k2, .slice A3 bl.length k3]) hW
  have hlb : bl.length ≤ 4611686018427387903 := by obtain ⟨_, _, _, h, _⟩ := kb.get; exact h
  have KB := Lib.hid (Blocks.move (Still.of_below (b1.mono hh)) kb)
  have HO := Lib.hid o1
  have HB := Lib.hid b1
  have HW := Lib.hid hW
  have HHW : Hid (hi ≤ W.heap.size) := Lib.hid (by omega)
  have GB := Lib.hid hG
  have zlt := o1.lt
  clear o1 b1 hW kp kv kb hG
  clear GB
  have HF := Lib.hid hfc
  have HN := Lib.hid hn
  have HND := Lib.hid hR
  have HG2 := Lib.hid hG2
  clear hfc hn hG2 hR
  go_enter Try.func15, Try.ntmps15
  go_wp2_with fail
  rw [HW.out]
  go_loopw [3] (fun i wr => ∃ k : Nat, k ≤ bl.length ∧ i = .int .i64 k ∧ Hid (PhisTo bl k) ∧ Hid (Below W.heap.size W wr)) (fun i _ => bl.length - (intOf i).toNat)
  case atStart => exact ⟨0, Nat.zero_le _, rfl, Lib.hid (fun i b h => by omega), Lib.hid (Below.refl _ _)⟩
  case round =>
  obtain ⟨i, hi9, rfl, HPT, HBr⟩ := hrel
  have HOr := Lib.hid (HO.out.below HBr.out HO.out.lt)
  have f0 := HOr.out.cell 0
  have f1 := HOr.out.cell 1
  have f2 := HOr.out.cell 2
  have f3 := HOr.out.cell 3
  have f4 := HOr.out.cell 4
  simp only [List.getElem?_cons_succ, List.getElem?_cons_zero] at f0 f1 f2 f3 f4
  by_cases hlt : i < bl.length
  · obtain ⟨⟨bn, phs, cod, ⟨tk, ⟨ak, as_, an⟩, td, tn⟩⟩, hx⟩ : ∃ y, bl[i]? = some y := ⟨_, List.getElem?_eq_getElem hlt⟩
    have HX := Lib.hid hx
    clear hx
    go_wp2_with fail
    go_loopw [4] (fun k wr2 => ∃ j : Nat, j ≤ phs.length ∧ k = .int .i64 j ∧ Hid (∀ p ∈ phs.take j, InsOk bl bn (insN p)) ∧ Hid (i = 0 → j = 0) ∧ Hid (Below W.heap.size W wr2)) (fun k _ => phs.length - (intOf k).toNat)
    case atStart => exact ⟨0, Nat.zero_le _, rfl, Lib.hid (fun p hp => by simp at hp), Lib.hid (fun _ => rfl), HBr⟩
    case round =>
    obtain ⟨k, hk, rfl, HPP, HZ, HBr2⟩ := hrel
    clear f0 f1 f2 f3 f4
    have HOr2 := Lib.hid (HO.out.below HBr2.out HO.out.lt)
    have f0 := HOr2.out.cell 0
    have f1 := HOr2.out.cell 1
    have f2 := HOr2.out.cell 2
    have f3 := HOr2.out.cell 3
    have f4 := HOr2.out.cell 4
    simp only [List.getElem?_cons_succ, List.getElem?_cons_zero] at f0 f1 f2 f3 f4
    obtain ⟨bx, ofx, hnx, hmx, ax, jx⟩ := KB.out.get
    obtain ⟨rfl, _, hbx⟩ := ax (show 0 < bl.length by omega)
    obtain ⟨csx, _, qx, hux⟩ := jx i _ HX.out
    obtain ⟨x1, x2, x3, xe, kphx, kcox, x4, xf, ktox⟩ := hux
    subst xf
    subst xe
    obtain ⟨m0, m1, m2, m3, m4, m5, m6, m7, m8⟩ := at9 (cells_later qx HBr2.out (by have := HHW.out; omega))
    obtain ⟨A5, k5, rfl⟩ := Row.form kphx
    have hpl : phs.length ≤ 4611686018427387903 := by obtain ⟨_, _, _, h, _⟩ := Row.get kphx; exact h
    have KP := Lib.hid kphx
    clear qx jx ax kphx kcox ktox
    by_cases hlt2 : k < phs.length
    · obtain ⟨⟨dn, ins⟩, hxj⟩ : ∃ y, phs[k]? = some y := ⟨_, List.getElem?_eq_getElem hlt2⟩
      have kt2 := KP.out
      obtain ⟨b5, of5, hn5, hm5, a5, j5⟩ := Row.get kt2
      obtain ⟨rfl, _, hb5⟩ := a5 (show 0 < phs.length by omega)
      obtain ⟨cs5, _, q5, hu5⟩ := j5 k _ hxj
      obtain ⟨x5, hu6, kin⟩ := hu5
      subst hu6
      obtain ⟨A9, k9, rfl⟩ := Row.form kin
      obtain ⟨n0, n1⟩ := at2 (cells_later q5 HBr2.out (by have := HHW.out; omega))
      have HPG := Lib.hid (HG2.out _ (List.mem_of_getElem? HX.out) _ (List.mem_of_getElem? hxj))
      have hil : ins.length ≤ 1099511627776 := HPG.out.1
      have HXJ := Lib.hid hxj
      have KI := Lib.hid kin
      have HRO := Lib.hid (ref_ok HND.out bn (insN ⟨dn, ins⟩))
      clear q5 j5 a5 hxj kin kt2
      go_wp2_with fail
      go_loopw [6, 7] (fun n j wr3 => ∃ (j' s : Nat), j' ≤ bl.length ∧ n = .int .i64 s ∧ j = .int .i64 j' ∧ Hid (s = sumN (ins.map (·.name)) (names (bl.take j'))) ∧ Hid (∀ b ∈ bl.take j', cntN b.name (ins.map (·.name)) = if bn ∈ b.fin.dest then 1 else 0) ∧ Hid (Below W.heap.size W wr3)) (fun _ j _ => bl.length - (intOf j).toNat)
      case atStart => exact ⟨0, 0, Nat.zero_le _, rfl, rfl, Lib.hid (by simp [names, sumN]), Lib.hid (fun b hb => by simp at hb), HBr2⟩
      case round =>
      obtain ⟨j, s, hj, rfl, rfl, HSM, HCN, HBr3⟩ := hrel
      clear m0 m1 m2 m3 m4 m5 m6 m7 m8 f0 f1 f2 f3 f4 n0 n1 HOr2
      have HOr3 := Lib.hid (HO.out.below HBr3.out HO.out.lt)
      have hsl : s ≤ 1099511627776 := by
        have h1 := HSM.out
        have h2 := sumN_small HND.out j (ins.map (·.name))
        rw [List.length_map] at h2
        omega
      have f0 := HOr3.out.cell 0
      have f1 := HOr3.out.cell 1
      have f2 := HOr3.out.cell 2
      have f3 := HOr3.out.cell 3
      have f4 := HOr3.out.cell 4
      simp only [List.getElem?_cons_succ, List.getElem?_cons_zero] at f0 f1 f2 f3 f4
      by_cases hlt3 : j < bl.length
      · obtain ⟨⟨cn, phs2, cod2, ⟨tk2, ⟨ak2, as2, an2⟩, td2, tn2⟩⟩, hy⟩ : ∃ y, bl[j]? = some y := ⟨_, List.getElem?_eq_getElem hlt3⟩
        have HY := Lib.hid hy
        clear hy
        go_wp2_with fail
        go_loopw [8, 9] (fun m q wr4 => ∃ (q' : Nat), q' ≤ ins.length ∧ m = .int .i64 (cntN cn ((ins.map (·.name)).take q') : Nat) ∧ q = .int .i64 q' ∧ Hid (Below W.heap.size W wr4)) (fun _ q _ => ins.length - (intOf q).toNat)
        case atStart => exact ⟨0, Nat.zero_le _, by simp [cntN], rfl, HBr3⟩
        case round =>
        obtain ⟨q, hq, rfl, rfl, HBr4⟩ := hrel
        clear f0 f1 f2 f3 f4 HOr3
        have HOr4 := Lib.hid (HO.out.below HBr4.out HO.out.lt)
        have f0 := HOr4.out.cell 0
        have f1 := HOr4.out.cell 1
        have f2 := HOr4.out.cell 2
        have f3 := HOr4.out.cell 3
        have f4 := HOr4.out.cell 4
        simp only [List.getElem?_cons_succ, List.getElem?_cons_zero] at f0 f1 f2 f3 f4
        obtain ⟨byy, ofyy, hnyy, hmyy, ayy, jyy⟩ := KB.out.get
        obtain ⟨eqyy, _, hbyy⟩ := ayy (show 0 < bl.length by omega)
        simp only [Option.some.injEq, Addr.mk.injEq, and_true] at eqyy
        obtain ⟨rfl, rfl⟩ := eqyy
        obtain ⟨csyy, _, qyy, huyy⟩ := jyy j _ HY.out
        obtain ⟨yy1, yy2, yy3, yye, kphyy, kcoyy, yy4, yyf, ktoyy⟩ := huyy
        subst yyf
        subst yye
        obtain ⟨m0, m1, m2, m3, m4, m5, m6, m7, m8⟩ := at9 (cells_later qyy HBr4.out (by have := HHW.out; omega))
        clear qyy jyy ayy kphyy kcoyy ktoyy
        obtain ⟨cq, hcq⟩ : ∃ c, cntN cn ((ins.map (·.name)).take q) = c := ⟨_, rfl⟩
        rw [hcq]
        have hcl : cq ≤ 1099511627776 := by
          have h1 := cntN_le cn ((ins.map (·.name)).take q)
          rw [List.length_take, hcq] at h1
          omega
        have HCQ := Lib.hid hcq
        clear hcq
        by_cases hlt4 : q < ins.length
        · obtain ⟨⟨zn, ⟨zk, zs, za⟩⟩, hz⟩ : ∃ y, ins[q]? = some y := ⟨_, List.getElem?_eq_getElem hlt4⟩
          have kt2 := KI.out
          obtain ⟨b5, of5, hn5, hm5, a5, j5⟩ := Row.get kt2
          obtain ⟨rfl, _, hb5⟩ := a5 (show 0 < ins.length by omega)
          obtain ⟨cs5, _, q5, hu5⟩ := j5 q _ hz
          subst hu5
          obtain ⟨n0, n1, n2, n3⟩ := at4 (cells_later q5 HBr4.out (by have := HHW.out; omega))
          have HCT := Lib.hid (cntN_take cn (show (ins.map (·.name))[q]? = some zn by rw [List.getElem?_map, hz]; rfl))
          clear q5 j5 a5 kt2 hz
          by_cases he : zn = cn
          · have en : (zn == cn) = true := by simpa using he
            have HE := Lib.hid he
            clear he
            go_wp2_with fail
            go_region
            go_wp2_with fail
            go_roundw
            case rel => exact ⟨q + 1, by omega, by rw [HCT.out, HCQ.out, if_pos HE.out]; go_num, by go_num, Lib.hid HBr4.out.drew⟩
            case measure => simp [intOf]; omega
          · have en : (zn == cn) = false := by simpa using he
            have HE := Lib.hid he
            clear he
            go_wp2_with fail
            go_region
            go_wp2_with fail
            go_roundw
            case rel => exact ⟨q + 1, by omega, by rw [HCT.out, HCQ.out, if_neg HE.out]; rfl, by go_num, Lib.hid HBr4.out.drew⟩
            case measure => simp [intOf]; omega
        · have HCF : Hid (cntN cn (ins.map (·.name)) = cq) := Lib.hid (by
            have := HCQ.out
            rwa [List.take_of_length_le (by simp; omega)] at this)
          have QL := Lib.hid (leads_any lo hi wr _ _ (FuncC.move (Still.of_below ((HB.out.trans (HBr4.out.mono HB.out.size)).mono hh)) HF.out) (Nat.le_trans HHW.out HBr4.out.size) j i _ HY.out (by have := HN.out; omega))
          go_wp2_with fail
          refine QL.out.mono ?_
          rintro e w6 ⟨b6, rfl, hb6, hw6⟩
          have HB6 := Lib.hid (HBr4.out.trans (hw6.mono HBr4.out.size))
          have HE6 := Lib.hid (hb6.trans (leads_is HND.out (c := ⟨cn, phs2, cod2, ⟨tk2, ⟨ak2, as2, an2⟩, td2, tn2⟩⟩) HX.out))
          clear hb6 hw6 f0 f1 f2 f3 f4 m0 m1 m2 m3 m4 m5 m6 m7 m8
          by_cases hm : cq = (if b6 = true then 1 else 0)
          · have HM := Lib.hid hm
            have HNX := Lib.hid (take_in (Q := fun b => cntN b.name (ins.map (·.name)) = if bn ∈ b.fin.dest then 1 else 0) HY.out HCN.out (by
              show cntN cn (ins.map (·.name)) = _
              rw [HCF.out, HM.out]
              have := HE6.out
              simp only at this
              by_cases hb : b6 = true
              · rw [if_pos hb, if_pos (this.1 hb)]
              · rw [if_neg hb, if_neg (fun h => hb (this.2 h))]))
            have HSN := Lib.hid (sumN_take (ins.map (·.name)) HY.out)
            subst hm
            clear hcl
            cases b6 with
            | true =>
              simp only [if_true]
              go_wp2_with fail
              go_roundw
              case rel => exact ⟨j + 1, s + 1, by omega, by go_num, by go_num, Lib.hid (by rw [HSN.out, ← HSM.out, HCF.out]; rfl), HNX, HB6⟩
              case measure => simp [intOf]; omega
            | false =>
              simp only [Bool.false_eq_true, if_false]
              go_wp2_with fail
              go_roundw
              case rel => exact ⟨j + 1, s, by omega, by go_num, by go_num, Lib.hid (by rw [HSN.out, ← HSM.out, HCF.out]; rfl), HNX, HB6⟩
              case measure => simp [intOf]; omega
          · have HBAD : Hid (¬ PhisP bl) := Lib.hid (fun h => by
              have h1 := (HRO.out.2 (h.2 _ (List.mem_of_getElem? HX.out) _ (List.mem_of_getElem? HXJ.out))).1 _ (List.mem_of_getElem? HY.out)
              apply hm
              have h2 : cq = if bn ∈ td2 then 1 else 0 := by
                rw [← HCF.out]
                exact h1
              have := HE6.out
              simp only at this
              rw [h2]
              by_cases hb : b6 = true
              · rw [if_pos hb, if_pos (this.1 hb)]
              · rw [if_neg hb, if_neg (fun h => hb (this.2 h))])
            cases b6 with
            | true =>
              have e1 : ((cq : Int) == 1) = false := by simp at hm; simp; omega
              have HM := Lib.hid hm
              clear hm
              go_wp2_with fail
              go_ret
              exact ⟨false, rfl, ⟨fun h => (by cases h), fun h => absurd h HBAD.out⟩, HB.out.trans (HB6.out.mono HB.out.size)⟩
            | false =>
              have e1 : ((cq : Int) == 0) = false := by simp at hm; simp; omega
              have HM := Lib.hid hm
              clear hm
              go_wp2_with fail
              go_ret
              exact ⟨false, rfl, ⟨fun h => (by cases h), fun h => absurd h HBAD.out⟩, HB.out.trans (HB6.out.mono HB.out.size)⟩
      · have HSF : Hid (s = sumN (ins.map (·.name)) (names bl)) := Lib.hid (by
          have := HSM.out
          rwa [List.take_of_length_le (by omega)] at this)
        have HCF : Hid (∀ b ∈ bl, cntN b.name (ins.map (·.name)) = if bn ∈ b.fin.dest then 1 else 0) := Lib.hid (by
          have := HCN.out
          rwa [List.take_of_length_le (by omega)] at this)
        by_cases hsn : s = ins.length
        · have HOK := Lib.hid (HRO.out.1 ⟨HCF.out, by rw [show insN ⟨dn, ins⟩ = ins.map (·.name) from rfl, ← HSF.out, hsn, List.length_map]⟩)
          by_cases hi0 : i = 0
          · have e1 : ((i : Int) == 0) = true := by simpa using hi0
            have HBAD : Hid (¬ PhisP bl) := Lib.hid (fun h => by
              have := h.1 _ (by rw [← hi0]; exact HX.out)
              simp only at this
              rw [this] at hlt2
              simp at hlt2)
            have HI := Lib.hid hi0
            subst hsn
            clear hi0
            go_wp2_with fail
            go_ret
            exact ⟨false, rfl, ⟨fun h => (by cases h), fun h => absurd h HBAD.out⟩, HB.out.trans (HBr3.out.mono HB.out.size)⟩
          · have e1 : ((i : Int) == 0) = false := by simpa using hi0
            have HI := Lib.hid hi0
            subst hsn
            clear hi0
            go_wp2_with fail
            go_roundw
            case rel => exact ⟨k + 1, by omega, by go_num, Lib.hid (take_in HXJ.out HPP.out HOK.out), Lib.hid (fun h => absurd h HI.out), HBr3⟩
            case measure => simp [intOf]; omega
        · have e2 : ((s : Int) == (ins.length : Int)) = false := by simp; omega
          have HBAD : Hid (¬ PhisP bl) := Lib.hid (fun h => by
            have h1 := (HRO.out.2 (h.2 _ (List.mem_of_getElem? HX.out) _ (List.mem_of_getElem? HXJ.out))).2
            rw [show insN ⟨dn, ins⟩ = ins.map (·.name) from rfl, ← HSF.out, List.length_map] at h1
            exact hsn h1)
          have hne : ¬ ((s : Int) = (ins.length : Int)) := by omega
          have HSN := Lib.hid hsn
          clear hsn
          go_wp2_with fail
          go_ret
          exact ⟨false, rfl, ⟨fun h => (by cases h), fun h => absurd h HBAD.out⟩, HB.out.trans (HBr3.out.mono HB.out.size)⟩
    · have HNX := Lib.hid (phisTo_next HPT.out HX.out (fun h0 => by
        have := HZ.out h0
        simp only
        exact List.eq_nil_of_length_eq_zero (by omega)) (by have := HPP.out; rwa [List.take_of_length_le (by omega)] at this))
      go_wp2_with fail
      go_roundw
      case rel => exact ⟨i + 1, by omega, by go_num, HNX, HBr2⟩
      case measure => simp [intOf]; omega
  · have HPA := Lib.hid (show PhisP bl by
      have h := HPT.out
      rw [show i = bl.length by omega] at h
      exact phisTo_all.1 h)
    go_wp2_with fail
    go_ret
    exact ⟨true, rfl, ⟨fun _ => HPA.out, fun _ => rfl⟩, HB.out.trans (HBr.out.mono HB.out.size)⟩
end Go.Proofs.Ytfffcjhhdbcmpaa.Sh8
