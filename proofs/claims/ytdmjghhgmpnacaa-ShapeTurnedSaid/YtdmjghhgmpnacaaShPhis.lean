/-
  Layer 8: the program's Phis.
-/
import Derived.Test.YtdmjghhgmpnacaaShPhisP
import Derived.Deep.RegionLaw
import Derived.Deep.QuietTactic
import Derived.BigQuiet
namespace Go.Proofs.Ytdmjghhgmpnacaa.Sh8
open Go.RowKit Api Mem Go.Maps

abbrev phG (bl : List Bl) : Prop := ∀ b ∈ bl, ∀ p ∈ b.phis, p.ins.length ≤ 1099511627776 ∧ bdG p.ins
/-- the phis of so many blocks are right. -/
def PhisTo (bl : List Bl) (k : Nat) : Prop := ∀ i b, i < k → bl[i]? = some b → (i = 0 → b.phis = []) ∧ ∀ p ∈ b.phis, InsOk bl b.name (insN p)
theorem phisTo_all {bl : List Bl} : PhisTo bl bl.length ↔ PhisP bl := by
  constructor
  · intro h
    refine ⟨fun b hb => (h 0 b (List.getElem?_eq_some_iff.1 hb).1 hb).1 rfl, fun b hb => ?_⟩
    obtain ⟨i, hi, e⟩ := List.mem_iff_getElem.1 hb
    exact (h i b hi (by rw [List.getElem?_eq_getElem hi, e])).2
  · intro h i b hi hb
    exact ⟨fun e => h.1 b (by rw [← e]; exact hb), h.2 b (List.mem_of_getElem? hb)⟩
theorem phisTo_next {bl : List Bl} {k : Nat} {b : Bl} (h : PhisTo bl k) (hb : bl[k]? = some b) (h0 : k = 0 → b.phis = []) (hp : ∀ p ∈ b.phis, InsOk bl b.name (insN p)) : PhisTo bl (k + 1) := by
  intro i c hi hc
  by_cases e : i < k
  · exact h i c e hc
  · obtain rfl : i = k := by omega
    rw [hb] at hc
    cases hc
    exact ⟨h0, hp⟩
set_option maxRecDepth 100000 in
set_option maxHeartbeats 8000000 in
theorem phis_any (lo hi : Nat) (w : World) (cs : List Value) (f : Api.Func) (hf : FuncC lo hi w cs f) (hh : hi ≤ w.heap.size) (hn : f.blocks.length ≤ 1099511627776) (hG1 : nmG f.blocks) (hG : toG f.blocks) (hG2 : phG f.blocks) (hR : RightP f.blocks) :
    Calls Try.prog 14 #[.agg cs.toArray] w (BP (PhisP f.blocks) w) := by
  have hfc := hf
  obtain ⟨u1, u2, u3, rfl, kp, kv, kb⟩ := hf
  obtain ⟨nm, rs, ps, vs, bl⟩ := f
  simp only at kp kv kb hG hG1 hG2 hn hfc hR ⊢
  obtain ⟨A1, k1, rfl⟩ := kp.form
  obtain ⟨A2, k2, rfl⟩ := kv.form
  obtain ⟨A3, k3, rfl⟩ := kb.form
  obtain ⟨W, hW⟩ : ∃ W, w.alloc (.cells #[str nm, str rs, .slice A1 ps.length k1, .slice A2 vs.length k2, .slice A3 bl.length k3] 25) = W := ⟨_, rfl⟩
  obtain ⟨o1, b1, z1⟩ := box8 (c := [str nm, str rs, .slice A1 ps.length k1, .slice A2 vs.length k2, .slice A3 bl.length k3]) hW
  have hlb : bl.length ≤ 4611686018427387903 := by obtain ⟨_, _, _, h, _⟩ := kb.get; exact h
  have KB := Lib.hid (Blocks.move (Still.of_below (b1.mono hh)) kb)
  have HO := Lib.hid o1
  have HB := Lib.hid b1
  have HW := Lib.hid hW
  have HHW : Hid (hi ≤ W.heap.size) := Lib.hid (by omega)
  have GB := Lib.hid hG
  have zlt := o1.lt
  clear o1 b1 hW kp kv kb hG
  have HF := Lib.hid (FuncC.move (Still.of_below (HB.out.mono hh)) hfc)
  have HN := Lib.hid hn
  have HRT := Lib.hid hR
  have HG2 := Lib.hid hG2
  have hlb2 := hn
  have QP := Lib.hid (lead_any lo hi W _ _ HF.out HHW.out hn hG1 GB.out hR)
  clear hfc hn hG1 hG2 hR
  go_enter Try.func14, Try.ntmps14
  go_wp2_with fail
  rw [HW.out]
  have f0 := HO.out.cell 0
  have f1 := HO.out.cell 1
  have f2 := HO.out.cell 2
  have f3 := HO.out.cell 3
  have f4 := HO.out.cell 4
  simp only [List.getElem?_cons_succ, List.getElem?_cons_zero] at f0 f1 f2 f3 f4
  go_wp2_with fail
  refine QP.out.mono ?_
  rintro e w5 ⟨gf, L, rfl, hgf, ho5, hs5, hb5⟩
  have HL5 := Lib.hid ho5
  have HS5 := Lib.hid hs5
  have HB5 := Lib.hid hb5
  have HO5 := Lib.hid (HO.out.below hb5 HO.out.lt)
  clear f0 f1 f2 f3 f4 ho5 hs5 hb5
  have f4' := HO5.out.cell 4
  simp only [List.getElem?_cons_succ, List.getElem?_cons_zero] at f4'
  have zl5 := HO5.out.lt
  go_wp2_with fail
  go_loopw [13] (fun i wr => ∃ (k : Nat), k ≤ bl.length ∧ i = .int .i64 k ∧ Hid (PhisTo bl k) ∧ Hid (Below w5.heap.size w5 wr)) (fun i _ => bl.length - (intOf i).toNat)
  case atStart => exact ⟨0, Nat.zero_le _, rfl, Lib.hid (fun i b h => by omega), Lib.hid (Below.refl _ _)⟩
  case round =>
  obtain ⟨k, hk, rfl, HP, HBr⟩ := hrel
  clear f4'
  have f4 := (HO5.out.below HBr.out HO5.out.lt).cell 4
  simp only [List.getElem?_cons_succ, List.getElem?_cons_zero] at f4
  have HBW := Lib.hid (HB5.out.trans (HBr.out.mono HB5.out.size))
  by_cases hlt : k < bl.length
  · obtain ⟨⟨bn, phs, cod, ⟨tk, ⟨ak, as_, an⟩, td, tn⟩⟩, hx⟩ : ∃ y, bl[k]? = some y := ⟨_, List.getElem?_eq_getElem (by omega)⟩
    obtain ⟨b3, of3, hn3, hm3, a3, j3⟩ := KB.out.get
    obtain ⟨rfl, _, hb3⟩ := a3 (by omega)
    obtain ⟨cs3, _, q3, hu⟩ := j3 k _ hx
    obtain ⟨x1, x2, x3, e1', kph, kco, x4, e2', kto⟩ := hu
    subst e2'
    subst e1'
    obtain ⟨m0, m1, m2, m3, m4, m5, m6, m7, m8⟩ := at9 (cells_later q3 HBW.out (by have := HHW.out; omega))
    obtain ⟨A5, k5, rfl⟩ := Row.form kph
    have hpl : phs.length ≤ 4611686018427387903 := by obtain ⟨_, _, _, h, _⟩ := Row.get kph; exact h
    have HX := Lib.hid hx
    have KP := Lib.hid kph
    clear q3 j3 a3 hx kph kco kto
    by_cases hz : k = 0 ∧ 0 < phs.length
    · obtain ⟨rfl, hz2⟩ := hz
      have e2 : decide ((0 : Int) < (phs.length : Int)) = true := decide_eq_true (by omega)
      have HBAD : Hid (¬ PhisP bl) := Lib.hid (fun h => by
        have := h.1 _ HX.out
        simp only at this
        rw [this] at hz2
        simp at hz2)
      go_wp2_with fail
      go_ret
      exact ⟨false, rfl, ⟨fun h => (by cases h), fun h => absurd h HBAD.out⟩, HB.out.trans (HBW.out.mono HB.out.size)⟩
    · have HZ := Lib.hid hz
      by_cases hk0 : k = 0
      · subst hk0
        have hp0 : phs.length = 0 := by omega
        have e2 : decide ((0 : Int) < (phs.length : Int)) = false := decide_eq_false (by omega)
        clear hz
        have HP1 := Lib.hid (phisTo_next HP.out HX.out (fun _ => List.eq_nil_of_length_eq_zero hp0) (fun p hp => by
          rw [show phs = [] from List.eq_nil_of_length_eq_zero hp0] at hp
          cases hp))
        go_wp2_with fail
        go_loopw [31] (fun i wr2 => i = .int .i64 0 ∧ wr2 = wr) (fun i _ => phs.length - (intOf i).toNat)
        case atStart => exact ⟨rfl, rfl⟩
        case round =>
        obtain ⟨rfl, rfl⟩ := hrel
        go_wp2_with fail
        go_roundw
        case rel => exact ⟨1, by omega, by go_num, HP1, HBr⟩
        case measure => simp [intOf]; omega
      · have e1 : ((k : Int) == 0) = false := by simpa using hk0
        clear hz
        go_wp2_with fail
        go_loopw [31] (fun i wr2 => ∃ (j : Nat), j ≤ phs.length ∧ i = .int .i64 j ∧ Hid (∀ p ∈ phs.take j, InsOk bl bn (insN p)) ∧ Hid (Below w5.heap.size w5 wr2)) (fun i _ => phs.length - (intOf i).toNat)
        case atStart => exact ⟨0, Nat.zero_le _, rfl, Lib.hid (fun p hp => by simp at hp), HBr⟩
        case round =>
        obtain ⟨j, hj, rfl, HPP, HBr2⟩ := hrel
        clear m0 m1 m2 m3 m4 m5 m6 m7 m8 f4
        by_cases hlt2 : j < phs.length
        · obtain ⟨⟨dn, ins⟩, hxj⟩ : ∃ y, phs[j]? = some y := ⟨_, List.getElem?_eq_getElem hlt2⟩
          have HBW2 := Lib.hid (HB5.out.trans (HBr2.out.mono HB5.out.size))
          have kt2 := KP.out
          obtain ⟨b5, of5, hn5, hm5, a5, j5⟩ := Row.get kt2
          obtain ⟨rfl, _, hb5⟩ := a5 (by omega)
          obtain ⟨cs5, _, q5, hu5⟩ := j5 j _ hxj
          obtain ⟨x5, hu6, kin⟩ := hu5
          subst hu6
          obtain ⟨A9, k9, rfl⟩ := Row.form kin
          obtain ⟨n0, n1⟩ := at2 (cells_later q5 HBW2.out (by have := HHW.out; omega))
          obtain ⟨g, hg⟩ : ∃ g, L[k]? = some g := ⟨_, List.getElem?_eq_getElem (by rw [HS5.out.1, names_len]; exact hlt)⟩
          have hown := (HS5.out.2.2 k g bn hg (names_at HX.out)).2
          have hgl := hown.lt
          have HPG := Lib.hid (HG2.out _ (List.mem_of_getElem? HX.out) _ (List.mem_of_getElem? hxj))
          have HR2 := HL5.out.below HBr2.out HL5.out.lt
          obtain ⟨W9, hW9⟩ : ∃ W9, wr.alloc (.cells #[str dn, .slice A9 ins.length k9] 51) = W9 := ⟨_, rfl⟩
          have HBX := Lib.hid (show Own W9 wr.heap.size 51 [str dn, .slice A9 ins.length k9] by rw [← hW9]; exact Own.made wr 51 [str dn, .slice A9 ins.length k9])
          have HB9 := Lib.hid (show Below w5.heap.size w5 W9 by rw [← hW9]; exact HBr2.out.alloc HBr2.out.size _)
          have hRX : Own W9 gf 60 (L.map fun g => .map (some g)) := by rw [← hW9]; exact HR2.alloc _
          have cg := (hRX.cell k).trans (show _ = some (Value.map (some g)) by rw [List.getElem?_map, hg]; rfl)
          have c1 := HBX.out.cell 1
          simp only [List.getElem?_cons_succ, List.getElem?_cons_zero] at c1
          have HB9W := Lib.hid (HB5.out.trans (HB9.out.mono HB5.out.size))
          have QN := Lib.hid (one_any lo hi W9.drew (.slice A9 ins.length k9) ins (Binds.move (Still.of_below ((HB9W.out.drew).mono HHW.out)) kin) (Nat.le_trans HHW.out HB9W.out.size) HPG.out.1 HPG.out.2 g _ _ (owns_below hown HB9.out hgl).drew)
          have HOK := Lib.hid (one_ok HRT.out.2.1 bn ins)
          have HXJ := Lib.hid hxj
          have hgfl := hRX.lt
          have hbxl := HBX.out.lt
          rw [← hW9] at cg c1 QN HB9 hgfl hbxl
          clear q5 j5 a5 kin hxj hg hown hW9 hRX HR2 kt2
          go_wp2_with fail
          go_region_law (go_simp; go_at_call 23; (with_reducible refine QN.out.mono ?_); rintro e w6 ⟨b6, rfl, hb6, hw6⟩; have HE6 := Lib.hid (hb6.trans HOK.out); have HW6 := Lib.hid hw6; clear hb6 hw6)
          all_goals
            have HB6 := Lib.hid (HB9.out.drew.trans (HW6.out.mono HB9.out.size))
            cases b6 with
            | false =>
              have HBAD : Hid (¬ PhisP bl) := Lib.hid (fun h => by
                have := HE6.out.2 (h.2 _ (List.mem_of_getElem? HX.out) _ (List.mem_of_getElem? HXJ.out))
                cases this)
              go_wp2_with fail
              go_ret
              exact ⟨false, rfl, ⟨fun h => (by cases h), fun h => absurd h HBAD.out⟩, HB.out.trans ((HB5.out.trans (HB6.out.mono HB5.out.size)).mono HB.out.size)⟩
            | true =>
              have HPN := Lib.hid (take_in HXJ.out HPP.out (HE6.out.1 rfl))
              go_wp2_with fail
              go_roundw
              case rel => exact ⟨j + 1, by omega, by go_num, HPN, HB6⟩
              case measure => simp [intOf]; omega
        · have HFIN := Lib.hid (phisTo_next HP.out HX.out (fun h0 => by
            have := HZ.out
            simp only at this ⊢
            exact List.eq_nil_of_length_eq_zero (by omega)) (by have := HPP.out; rwa [List.take_of_length_le (by omega)] at this))
          go_wp2_with fail
          go_roundw
          case rel => exact ⟨k + 1, by omega, by go_num, HFIN, HBr2⟩
          case measure => simp [intOf]; omega
  · have HPA := Lib.hid (show PhisP bl by
      have h := HP.out
      rw [show k = bl.length by omega] at h
      exact phisTo_all.1 h)
    go_wp2_with fail
    go_ret
    exact ⟨true, rfl, ⟨fun _ => HPA.out, fun _ => rfl⟩, HB.out.trans (HBW.out.mono HB.out.size)⟩
end Go.Proofs.Ytdmjghhgmpnacaa.Sh8
