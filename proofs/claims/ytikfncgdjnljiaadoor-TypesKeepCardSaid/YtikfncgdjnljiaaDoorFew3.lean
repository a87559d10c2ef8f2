/-
  The document's Few (layer 6): a block.
-/
import Derived.Test.YtikfncgdjnljiaaDoorFew2
import Derived.Test.YtikfncgdjnljiaaDoorProg
import Derived.Test.YtikfncgdjnljiaaDoorMem
import Derived.Test.YtikfncgdjnljiaaDoorPlainS
import Derived.Lib.Hide
import Derived.Lib.Walk
import Derived.Deep.QuietTactic
import Derived.BigQuiet
import Derived.StillTailTactics
namespace Go.Proofs.YtikfncgdjnljiaaDoor.Few6
open Go.RowKit Api Mem

def phiS (p : Phi) : Prop := Sh p.dst ∧ ∀ b ∈ p.ins, Sh b.name ∧ Sh b.a.s
def blockS (b : Api.Block) : Prop := (Sh b.name ∧ Sh b.fin.a.s) ∧ (∀ x ∈ b.fin.dest, Sh x) ∧ (∀ p ∈ b.phis, phiS p) ∧ ∀ i ∈ b.code, instrS i
abbrev B2 : Nat := 281477209079808
set_option maxRecDepth 100000 in
set_option maxHeartbeats 16000000 in
theorem cntBlock_any (lo hi : Nat) (w : World) (cs : List Value) (x : Api.Block) (hx : BlockC lo hi w cs x) (hh : hi ≤ w.heap.size) (most : Nat) (hm : most ≤ 1073741824) (hG : blockS x) :
    Calls Tryd.prog 71 #[.agg cs.toArray, i64 most] w fun e w' => ∃ n : Nat, e = .returned (i64 n) ∧ Cnt B2 most (cBlock x) n ∧ Below w.heap.size w w' := by
  obtain ⟨u1, u2, cs2, rfl, kp, kc, u3, rfl, kd⟩ := hx
  obtain ⟨nm, phis, code, ⟨tk, ⟨ak, as_, an⟩, dest, tn⟩⟩ := x
  simp only at kp kc kd hG
  obtain ⟨⟨g1, g2⟩, g3, g4, g5⟩ := hG
  simp only at g1 g2 g3 g4 g5
  obtain ⟨A1, k1, rfl⟩ := kp.form
  obtain ⟨A2, k2, rfl⟩ := kc.form
  obtain ⟨A3, k3, rfl⟩ := kd.form
  obtain ⟨W, hW⟩ : ∃ W, w.alloc (.cells #[str nm, .slice A1 phis.length k1, .slice A2 code.length k2, i64 tk, i64 ak, str as_, i64 an, .slice A3 dest.length k3, i64 tn] 94) = W := ⟨_, rfl⟩
  obtain ⟨o1, b1, z1⟩ := boxF (cs := [str nm, .slice A1 phis.length k1, .slice A2 code.length k2, i64 tk, i64 ak, str as_, i64 an, .slice A3 dest.length k3, i64 tn]) hW
  have kP := Phis.move (Still.of_below (b1.mono hh)) kp
  have kC := Instrs.move (Still.of_below (b1.mono hh)) kc
  have kD := Texts.move (Still.of_below (b1.mono hh)) kd
  have lP := kP.get
  have lC := kC.get
  have lD := kD.get
  have HO := Lib.hid o1
  have HB := Lib.hid b1
  have HW := Lib.hid hW
  have KP := Lib.hid kP
  have KC := Lib.hid kC
  have KD := Lib.hid kD
  have GD := Lib.hid g3
  have GP := Lib.hid g4
  have GC := Lib.hid g5
  have HHW : Hid (hi ≤ W.heap.size) := Lib.hid (by omega)
  have hlp : phis.length ≤ 4611686018427387903 := by obtain ⟨_, _, _, h, _⟩ := lP; exact h
  have hlc : code.length ≤ 4611686018427387903 := by obtain ⟨_, _, _, h, _⟩ := lC; exact h
  have hld : dest.length ≤ 4611686018427387903 := by obtain ⟨_, _, _, h, _⟩ := lD; exact h
  clear o1 b1 hW kp kc kd kP kC kD g3 g4 g5 lP lC lD
  by_cases hb1 : most < phis.length
  · have e1 : decide ((most : Int) < (phis.length : Int)) = true := decide_eq_true (by omega)
    go_enter Tryd.func71, Tryd.ntmps71
    go_wp2_with fail
    rw [HW.out]
    go_ret
    exact ⟨most + 1, by go_num, cnt_more (by unfold cBlock; simp only; have := sum_len cPhi phis (fun x => by unfold cPhi; omega); omega) hm (by decide), HB.out⟩
  have e1 : decide ((most : Int) < (phis.length : Int)) = false := decide_eq_false (by omega)
  by_cases hb2 : most < code.length
  · have e2 : decide ((most : Int) < (code.length : Int)) = true := decide_eq_true (by omega)
    go_enter Tryd.func71, Tryd.ntmps71
    go_wp2_with fail
    rw [HW.out]
    go_ret
    exact ⟨most + 1, by go_num, cnt_more (by unfold cBlock; simp only; have := sum_len cInstr code (fun x => by unfold cInstr; omega); omega) hm (by decide), HB.out⟩
  have e2 : decide ((most : Int) < (code.length : Int)) = false := decide_eq_false (by omega)
  by_cases hb3 : most < dest.length
  · have e3 : decide ((most : Int) < (dest.length : Int)) = true := decide_eq_true (by omega)
    go_enter Tryd.func71, Tryd.ntmps71
    go_wp2_with fail
    rw [HW.out]
    go_ret
    exact ⟨most + 1, by go_num, cnt_more (by unfold cBlock; simp only; have := sum_len cText dest (fun x => by unfold cText; omega); omega) hm (by decide), HB.out⟩
  have e3 : decide ((most : Int) < (dest.length : Int)) = false := decide_eq_false (by omega)
  obtain ⟨S0, hS0⟩ : ∃ S0, 1 + nm.length + as_.length = S0 := ⟨_, rfl⟩
  have hs1 : Cnt B2 most (1 + nm.length) (1 + nm.length) := cnt_start (by unfold B2; omega)
  have HS0 := Lib.hid hS0
  clear hS0
  by_cases hc1 : 1 + nm.length ≤ most
  · have HST := Lib.hid (cnt_of (T := S0) (cnt_add hs1 hc1 (a := as_.length) (by omega) hm (by decide)) HS0.out)
    clear hs1
    go_enter Tryd.func71, Tryd.ntmps71
    go_wp2_with fail
    rw [HW.out]
    go_loop [5, 6] (fun m i => ∃ (k c : Nat), k ≤ dest.length ∧ m = .int .i64 c ∧ i = .int .i64 k ∧ Hid (Cnt B2 most (S0 + sumOf cText (dest.take k)) c)) (fun _ i => dest.length - (intOf i).toNat)
    case atStart => exact ⟨0, _, Nat.zero_le _, rfl, rfl, Lib.hid (by rw [sum_zero]; exact HST.out)⟩
    case round =>
    obtain ⟨k, c, hk, rfl, rfl, HCN⟩ := hrel
    have f7 := holdF HO.out 7 rfl
    by_cases hlt : k < dest.length
    · obtain ⟨x, hx⟩ : ∃ y, dest[k]? = some y := ⟨_, List.getElem?_eq_getElem hlt⟩
      by_cases hcm : c ≤ most
      · obtain ⟨b3, of3, hn3, hm3, a3, j3⟩ := KD.out.get
        obtain ⟨rfl, _, hb3⟩ := a3 (by omega)
        obtain ⟨cs3, _, q3, rfl⟩ := j3 k _ hx
        have m0 := q3 0 _ rfl
        rw [Nat.mul_one, Nat.add_zero] at m0
        have s1 := GD.out _ (List.mem_of_getElem? hx)
        have HX := Lib.hid hx
        clear q3 j3 a3 hx
        have H7 := Lib.hid (cnt_add HCN.out hcm (a := 1 + x.length) (by omega) hm (by decide))
        go_wp2
        go_round
        case rel => exact ⟨k + 1, c + (1 + x.length), by omega, by go_num, by go_num, Lib.hid (cnt_of H7.out (by rw [sum_next _ HX.out]; unfold cText; omega))⟩
        case measure => simp [intOf]; omega
      · clear hx
        have HST2 := Lib.hid (cnt_end (S' := S0 + sumOf cText dest) HCN.out hcm (by have := sum_le cText dest k; omega))
        have f1 := holdF HO.out 1 rfl
        go_wp2
        clear f1 f7
        go_loop [5, 7, 8] (fun m i _ => ∃ (k c : Nat), k ≤ phis.length ∧ m = .int .i64 c ∧ i = .int .i64 k ∧ Hid (Cnt B2 most (S0 + sumOf cText dest + sumOf cPhi (phis.take k)) c)) (fun _ i _ => phis.length - (intOf i).toNat)
        case atStart => exact ⟨0, _, Nat.zero_le _, rfl, rfl, Lib.hid (by rw [sum_zero]; exact HST2.out)⟩
        case round =>
        obtain ⟨k, c, hk, rfl, rfl, HCN⟩ := hrel
        have f1 := holdF HO.out 1 rfl
        by_cases hlt : k < phis.length
        · obtain ⟨⟨pd, fv⟩, hx⟩ : ∃ y, phis[k]? = some y := ⟨_, List.getElem?_eq_getElem hlt⟩
          by_cases hcm : c ≤ most
          · obtain ⟨b3, of3, hn3, hm3, a3, j3⟩ := KP.out.get
            obtain ⟨rfl, _, hb3⟩ := a3 (by omega)
            obtain ⟨cs3, _, q3, u, rfl, hu⟩ := j3 k _ hx
            obtain ⟨B4, k4, rfl⟩ := hu.form
            simp only at hu q3
            obtain ⟨m0, m1⟩ := at2 q3
            obtain ⟨s1, s3⟩ := GP.out _ (List.mem_of_getElem? hx)
            simp only at s1 s3
            have HX := Lib.hid hx
            have HFV := Lib.hid hu
            have HGV := Lib.hid s3
            have hfl : fv.length ≤ 4611686018427387903 := by obtain ⟨_, _, _, h, _⟩ := hu.get; exact h
            clear q3 j3 a3 hx hu s3
            have HST := Lib.hid (cnt_val (m := c + 1 + pd.length) (cnt_add HCN.out hcm (a := 1 + pd.length) (by omega) hm (by decide)) (by omega))
            go_wp2
            go_loop [5, 8] (fun m i => ∃ (q c : Nat), q ≤ fv.length ∧ m = .int .i64 c ∧ i = .int .i64 q ∧ Hid (Cnt B2 most ((S0 + sumOf cText dest + sumOf cPhi (phis.take k) + (1 + pd.length)) + sumOf cBind (fv.take q)) c)) (fun _ i => fv.length - (intOf i).toNat)
            case atStart => exact ⟨0, _, Nat.zero_le _, rfl, rfl, Lib.hid (by rw [sum_zero]; exact HST.out)⟩
            case round =>
            obtain ⟨q, c, hq, rfl, rfl, HCN⟩ := hrel
            by_cases hqt : q < fv.length
            · obtain ⟨⟨bn, ⟨bq, bs, bi⟩⟩, hy⟩ : ∃ y, fv[q]? = some y := ⟨_, List.getElem?_eq_getElem hqt⟩
              by_cases hcm : c ≤ most
              · obtain ⟨b4, of4, hn4, hm4, a4, j4⟩ := HFV.out.get
                obtain ⟨rfl, _, hb4⟩ := a4 (by omega)
                obtain ⟨cs4, _, q4, rfl⟩ := j4 q _ hy
                obtain ⟨r0, r1, r2, r3⟩ := at4 q4
                obtain ⟨s1, s2⟩ := HGV.out _ (List.mem_of_getElem? hy)
                simp only at s1 s2 r0 r1 r2 r3
                have HY := Lib.hid hy
                clear q4 j4 a4 hy
                have h9 := cnt_add HCN.out hcm (a := 1 + bn.length) (by omega) hm (by decide)
                by_cases hc9 : c + 1 + bn.length ≤ most
                · have H9 := Lib.hid (cnt_add (cnt_of (T := (S0 + sumOf cText dest + sumOf cPhi (phis.take k) + (1 + pd.length)) + sumOf cBind (fv.take q) + (1 + bn.length)) h9 rfl) (by omega) (a := bs.length) (by omega) hm (by decide))
                  clear h9
                  go_wp2
                  go_round
                  case rel => exact ⟨q + 1, c + (1 + bn.length) + bs.length, by omega, by go_num, by go_num, Lib.hid (cnt_of H9.out (by rw [sum_next _ HY.out]; unfold cBind; simp only; omega))⟩
                  case measure => simp [intOf]; omega
                · have H9 := Lib.hid h9
                  clear h9
                  go_wp2
                  go_round
                  case rel => exact ⟨q + 1, c + (1 + bn.length), by omega, by go_num, by go_num, Lib.hid (cnt_end H9.out (by omega) (by rw [sum_next _ HY.out]; unfold cBind; simp only; omega))⟩
                  case measure => simp [intOf]; omega
              · clear hy
                have H9 := Lib.hid (cnt_end (S' := (S0 + sumOf cText dest + sumOf cPhi (phis.take k) + (1 + pd.length)) + sumOf cBind fv) HCN.out hcm (by have := sum_le cBind fv q; omega))
                go_wp2
                go_round
                case rel => exact ⟨k + 1, c, by omega, rfl, by go_num, Lib.hid (cnt_of H9.out (by rw [sum_next _ HX.out]; unfold cPhi; simp only; omega))⟩
                case measure => simp [intOf]; omega
            · have H9 := Lib.hid (cnt_of (T := (S0 + sumOf cText dest + sumOf cPhi (phis.take k) + (1 + pd.length)) + sumOf cBind fv) HCN.out (by rw [sum_all cBind (by omega)]))
              go_wp2
              go_round
              case rel => exact ⟨k + 1, c, by omega, rfl, by go_num, Lib.hid (cnt_of H9.out (by rw [sum_next _ HX.out]; unfold cPhi; simp only; omega))⟩
              case measure => simp [intOf]; omega
          · clear hx
            have HST3 := Lib.hid (cnt_end (S' := S0 + sumOf cText dest + sumOf cPhi phis) HCN.out hcm (by have := sum_le cPhi phis k; omega))
            have f2 := holdF HO.out 2 rfl
            go_wp2
            clear f1 f2
            go_loopw [5, 9] (fun m i wr => ∃ (k c : Nat), k ≤ code.length ∧ m = .int .i64 c ∧ i = .int .i64 k ∧ Hid (Cnt B2 most (S0 + sumOf cText dest + sumOf cPhi phis + sumOf cInstr (code.take k)) c) ∧ Hid (Below W.heap.size W wr)) (fun _ i _ => code.length - (intOf i).toNat)
            case atStart => exact ⟨0, _, Nat.zero_le _, rfl, rfl, Lib.hid (by rw [sum_zero]; exact HST3.out), Lib.hid (Below.refl _ _)⟩
            case round =>
            obtain ⟨k, c, hk, rfl, rfl, HCN, HBr⟩ := hrel
            have f2 := (HO.out.below HBr.out HO.out.lt).cell 2
            simp only [List.getElem?_cons_succ, List.getElem?_cons_zero] at f2
            by_cases hlt : k < code.length
            · obtain ⟨x, hx⟩ : ∃ y, code[k]? = some y := ⟨_, List.getElem?_eq_getElem hlt⟩
              by_cases hcm : c ≤ most
              · obtain ⟨b3, of3, hn3, hm3, a3, j3⟩ := KC.out.get
                obtain ⟨rfl, _, hb3⟩ := a3 (by omega)
                obtain ⟨cs3, _, q3, hu⟩ := j3 k _ hx
                have hu2 := InstrC.move (Still.of_below (HBr.out.mono HHW.out)) hu
                have QI := Lib.hid (cntInstr_any lo hi wr cs3 x hu2 (Nat.le_trans HHW.out HBr.out.size) most hm (GC.out _ (List.mem_of_getElem? hx)))
                obtain ⟨x1, x2, x3, e1', _⟩ := hu
                subst e1'
                obtain ⟨m0, m1, m2, m3, m4, m5⟩ := at6 (cells_later q3 HBr.out (by have := HHW.out; omega))
                have HX := Lib.hid hx
                clear q3 j3 a3 hx hu2
                go_wp2_with ((with_reducible refine QI.out.mono ?_); rintro e w5 ⟨d, rfl, hd, hb5⟩; have HB5 := Lib.hid (HBr.out.trans (hb5.mono HBr.out.size)); have HD := Lib.hid hd; have hd2 : d ≤ 281476135337984 := (by rcases hd with ⟨h1, h2⟩ | ⟨h1, h2, h3⟩ <;> (try unfold B1 at *) <;> omega); clear hd hb5)
                go_roundw
                case rel => exact ⟨k + 1, c + d, by omega, by go_num, by go_num, Lib.hid (cnt_of (cnt_plus HCN.out hcm HD.out hm (by decide) (by decide)) (by rw [sum_next _ HX.out]; omega)), HB5⟩
                case measure => simp [intOf]; omega
              · clear hx
                have H9 := Lib.hid (cnt_end (S' := S0 + sumOf cText dest + sumOf cPhi phis + sumOf cInstr code) HCN.out hcm (by have := sum_le cInstr code k; omega))
                go_wp2
                go_ret
                exact ⟨c, rfl, cnt_of H9.out (by rw [← HS0.out]; unfold cBlock; simp only; try omega), HB.out.trans (HBr.out.mono HB.out.size)⟩
            · have H9 := Lib.hid (cnt_of (T := S0 + sumOf cText dest + sumOf cPhi phis + sumOf cInstr code) HCN.out (by rw [sum_all cInstr (by omega)]))
              go_wp2
              go_ret
              exact ⟨c, rfl, cnt_of H9.out (by rw [← HS0.out]; unfold cBlock; simp only; try omega), HB.out.trans (HBr.out.mono HB.out.size)⟩
        · have HST3 := Lib.hid (cnt_of (T := S0 + sumOf cText dest + sumOf cPhi phis) HCN.out (by rw [sum_all cPhi (by omega)]))
          have f2 := holdF HO.out 2 rfl
          go_wp2
          clear f1 f2
          go_loopw [5, 9] (fun m i wr => ∃ (k c : Nat), k ≤ code.length ∧ m = .int .i64 c ∧ i = .int .i64 k ∧ Hid (Cnt B2 most (S0 + sumOf cText dest + sumOf cPhi phis + sumOf cInstr (code.take k)) c) ∧ Hid (Below W.heap.size W wr)) (fun _ i _ => code.length - (intOf i).toNat)
          case atStart => exact ⟨0, _, Nat.zero_le _, rfl, rfl, Lib.hid (by rw [sum_zero]; exact HST3.out), Lib.hid (Below.refl _ _)⟩
          case round =>
          obtain ⟨k, c, hk, rfl, rfl, HCN, HBr⟩ := hrel
          have f2 := (HO.out.below HBr.out HO.out.lt).cell 2
          simp only [List.getElem?_cons_succ, List.getElem?_cons_zero] at f2
          by_cases hlt : k < code.length
          · obtain ⟨x, hx⟩ : ∃ y, code[k]? = some y := ⟨_, List.getElem?_eq_getElem hlt⟩
            by_cases hcm : c ≤ most
            · obtain ⟨b3, of3, hn3, hm3, a3, j3⟩ := KC.out.get
              obtain ⟨rfl, _, hb3⟩ := a3 (by omega)
              obtain ⟨cs3, _, q3, hu⟩ := j3 k _ hx
              have hu2 := InstrC.move (Still.of_below (HBr.out.mono HHW.out)) hu
              have QI := Lib.hid (cntInstr_any lo hi wr cs3 x hu2 (Nat.le_trans HHW.out HBr.out.size) most hm (GC.out _ (List.mem_of_getElem? hx)))
              obtain ⟨x1, x2, x3, e1', _⟩ := hu
              subst e1'
              obtain ⟨m0, m1, m2, m3, m4, m5⟩ := at6 (cells_later q3 HBr.out (by have := HHW.out; omega))
              have HX := Lib.hid hx
              clear q3 j3 a3 hx hu2
              go_wp2_with ((with_reducible refine QI.out.mono ?_); rintro e w5 ⟨d, rfl, hd, hb5⟩; have HB5 := Lib.hid (HBr.out.trans (hb5.mono HBr.out.size)); have HD := Lib.hid hd; have hd2 : d ≤ 281476135337984 := (by rcases hd with ⟨h1, h2⟩ | ⟨h1, h2, h3⟩ <;> (try unfold B1 at *) <;> omega); clear hd hb5)
              go_roundw
              case rel => exact ⟨k + 1, c + d, by omega, by go_num, by go_num, Lib.hid (cnt_of (cnt_plus HCN.out hcm HD.out hm (by decide) (by decide)) (by rw [sum_next _ HX.out]; omega)), HB5⟩
              case measure => simp [intOf]; omega
            · clear hx
              have H9 := Lib.hid (cnt_end (S' := S0 + sumOf cText dest + sumOf cPhi phis + sumOf cInstr code) HCN.out hcm (by have := sum_le cInstr code k; omega))
              go_wp2
              go_ret
              exact ⟨c, rfl, cnt_of H9.out (by rw [← HS0.out]; unfold cBlock; simp only; try omega), HB.out.trans (HBr.out.mono HB.out.size)⟩
          · have H9 := Lib.hid (cnt_of (T := S0 + sumOf cText dest + sumOf cPhi phis + sumOf cInstr code) HCN.out (by rw [sum_all cInstr (by omega)]))
            go_wp2
            go_ret
            exact ⟨c, rfl, cnt_of H9.out (by rw [← HS0.out]; unfold cBlock; simp only; try omega), HB.out.trans (HBr.out.mono HB.out.size)⟩
    · have HST2 := Lib.hid (cnt_of (T := S0 + sumOf cText dest) HCN.out (by rw [sum_all cText (by omega)]))
      have f1 := holdF HO.out 1 rfl
      go_wp2
      clear f1 f7
      go_loop [5, 7, 8] (fun m i _ => ∃ (k c : Nat), k ≤ phis.length ∧ m = .int .i64 c ∧ i = .int .i64 k ∧ Hid (Cnt B2 most (S0 + sumOf cText dest + sumOf cPhi (phis.take k)) c)) (fun _ i _ => phis.length - (intOf i).toNat)
      case atStart => exact ⟨0, _, Nat.zero_le _, rfl, rfl, Lib.hid (by rw [sum_zero]; exact HST2.out)⟩
      case round =>
      obtain ⟨k, c, hk, rfl, rfl, HCN⟩ := hrel
      have f1 := holdF HO.out 1 rfl
      by_cases hlt : k < phis.length
      · obtain ⟨⟨pd, fv⟩, hx⟩ : ∃ y, phis[k]? = some y := ⟨_, List.getElem?_eq_getElem hlt⟩
        by_cases hcm : c ≤ most
        · obtain ⟨b3, of3, hn3, hm3, a3, j3⟩ := KP.out.get
          obtain ⟨rfl, _, hb3⟩ := a3 (by omega)
          obtain ⟨cs3, _, q3, u, rfl, hu⟩ := j3 k _ hx
          obtain ⟨B4, k4, rfl⟩ := hu.form
          simp only at hu q3
          obtain ⟨m0, m1⟩ := at2 q3
          obtain ⟨s1, s3⟩ := GP.out _ (List.mem_of_getElem? hx)
          simp only at s1 s3
          have HX := Lib.hid hx
          have HFV := Lib.hid hu
          have HGV := Lib.hid s3
          have hfl : fv.length ≤ 4611686018427387903 := by obtain ⟨_, _, _, h, _⟩ := hu.get; exact h
          clear q3 j3 a3 hx hu s3
          have HST := Lib.hid (cnt_val (m := c + 1 + pd.length) (cnt_add HCN.out hcm (a := 1 + pd.length) (by omega) hm (by decide)) (by omega))
          go_wp2
          go_loop [5, 8] (fun m i => ∃ (q c : Nat), q ≤ fv.length ∧ m = .int .i64 c ∧ i = .int .i64 q ∧ Hid (Cnt B2 most ((S0 + sumOf cText dest + sumOf cPhi (phis.take k) + (1 + pd.length)) + sumOf cBind (fv.take q)) c)) (fun _ i => fv.length - (intOf i).toNat)
          case atStart => exact ⟨0, _, Nat.zero_le _, rfl, rfl, Lib.hid (by rw [sum_zero]; exact HST.out)⟩
          case round =>
          obtain ⟨q, c, hq, rfl, rfl, HCN⟩ := hrel
          by_cases hqt : q < fv.length
          · obtain ⟨⟨bn, ⟨bq, bs, bi⟩⟩, hy⟩ : ∃ y, fv[q]? = some y := ⟨_, List.getElem?_eq_getElem hqt⟩
            by_cases hcm : c ≤ most
            · obtain ⟨b4, of4, hn4, hm4, a4, j4⟩ := HFV.out.get
              obtain ⟨rfl, _, hb4⟩ := a4 (by omega)
              obtain ⟨cs4, _, q4, rfl⟩ := j4 q _ hy
              obtain ⟨r0, r1, r2, r3⟩ := at4 q4
              obtain ⟨s1, s2⟩ := HGV.out _ (List.mem_of_getElem? hy)
              simp only at s1 s2 r0 r1 r2 r3
              have HY := Lib.hid hy
              clear q4 j4 a4 hy
              have h9 := cnt_add HCN.out hcm (a := 1 + bn.length) (by omega) hm (by decide)
              by_cases hc9 : c + 1 + bn.length ≤ most
              · have H9 := Lib.hid (cnt_add (cnt_of (T := (S0 + sumOf cText dest + sumOf cPhi (phis.take k) + (1 + pd.length)) + sumOf cBind (fv.take q) + (1 + bn.length)) h9 rfl) (by omega) (a := bs.length) (by omega) hm (by decide))
                clear h9
                go_wp2
                go_round
                case rel => exact ⟨q + 1, c + (1 + bn.length) + bs.length, by omega, by go_num, by go_num, Lib.hid (cnt_of H9.out (by rw [sum_next _ HY.out]; unfold cBind; simp only; omega))⟩
                case measure => simp [intOf]; omega
              · have H9 := Lib.hid h9
                clear h9
                go_wp2
                go_round
                case rel => exact ⟨q + 1, c + (1 + bn.length), by omega, by go_num, by go_num, Lib.hid (cnt_end H9.out (by omega) (by rw [sum_next _ HY.out]; unfold cBind; simp only; omega))⟩
                case measure => simp [intOf]; omega
            · clear hy
              have H9 := Lib.hid (cnt_end (S' := (S0 + sumOf cText dest + sumOf cPhi (phis.take k) + (1 + pd.length)) + sumOf cBind fv) HCN.out hcm (by have := sum_le cBind fv q; omega))
              go_wp2
              go_round
              case rel => exact ⟨k + 1, c, by omega, rfl, by go_num, Lib.hid (cnt_of H9.out (by rw [sum_next _ HX.out]; unfold cPhi; simp only; omega))⟩
              case measure => simp [intOf]; omega
          · have H9 := Lib.hid (cnt_of (T := (S0 + sumOf cText dest + sumOf cPhi (phis.take k) + (1 + pd.length)) + sumOf cBind fv) HCN.out (by rw [sum_all cBind (by omega)]))
            go_wp2
            go_round
            case rel => exact ⟨k + 1, c, by omega, rfl, by go_num, Lib.hid (cnt_of H9.out (by rw [sum_next _ HX.out]; unfold cPhi; simp only; omega))⟩
            case measure => simp [intOf]; omega
        · clear hx
          have HST3 := Lib.hid (cnt_end (S' := S0 + sumOf cText dest + sumOf cPhi phis) HCN.out hcm (by have := sum_le cPhi phis k; omega))
          have f2 := holdF HO.out 2 rfl
          go_wp2
          clear f1 f2
          go_loopw [5, 9] (fun m i wr => ∃ (k c : Nat), k ≤ code.length ∧ m = .int .i64 c ∧ i = .int .i64 k ∧ Hid (Cnt B2 most (S0 + sumOf cText dest + sumOf cPhi phis + sumOf cInstr (code.take k)) c) ∧ Hid (Below W.heap.size W wr)) (fun _ i _ => code.length - (intOf i).toNat)
          case atStart => exact ⟨0, _, Nat.zero_le _, rfl, rfl, Lib.hid (by rw [sum_zero]; exact HST3.out), Lib.hid (Below.refl _ _)⟩
          case round =>
          obtain ⟨k, c, hk, rfl, rfl, HCN, HBr⟩ := hrel
          have f2 := (HO.out.below HBr.out HO.out.lt).cell 2
          simp only [List.getElem?_cons_succ, List.getElem?_cons_zero] at f2
          by_cases hlt : k < code.length
          · obtain ⟨x, hx⟩ : ∃ y, code[k]? = some y := ⟨_, List.getElem?_eq_getElem hlt⟩
            by_cases hcm : c ≤ most
            · obtain ⟨b3, of3, hn3, hm3, a3, j3⟩ := KC.out.get
              obtain ⟨rfl, _, hb3⟩ := a3 (by omega)
              obtain ⟨cs3, _, q3, hu⟩ := j3 k _ hx
              have hu2 := InstrC.move (Still.of_below (HBr.out.mono HHW.out)) hu
              have QI := Lib.hid (cntInstr_any lo hi wr cs3 x hu2 (Nat.le_trans HHW.out HBr.out.size) most hm (GC.out _ (List.mem_of_getElem? hx)))
              obtain ⟨x1, x2, x3, e1', _⟩ := hu
              subst e1'
              obtain ⟨m0, m1, m2, m3, m4, m5⟩ := at6 (cells_later q3 HBr.out (by have := HHW.out; omega))
              have HX := Lib.hid hx
              clear q3 j3 a3 hx hu2
              go_wp2_with ((with_reducible refine QI.out.mono ?_); rintro e w5 ⟨d, rfl, hd, hb5⟩; have HB5 := Lib.hid (HBr.out.trans (hb5.mono HBr.out.size)); have HD := Lib.hid hd; have hd2 : d ≤ 281476135337984 := (by rcases hd with ⟨h1, h2⟩ | ⟨h1, h2, h3⟩ <;> (try unfold B1 at *) <;> omega); clear hd hb5)
              go_roundw
              case rel => exact ⟨k + 1, c + d, by omega, by go_num, by go_num, Lib.hid (cnt_of (cnt_plus HCN.out hcm HD.out hm (by decide) (by decide)) (by rw [sum_next _ HX.out]; omega)), HB5⟩
              case measure => simp [intOf]; omega
            · clear hx
              have H9 := Lib.hid (cnt_end (S' := S0 + sumOf cText dest + sumOf cPhi phis + sumOf cInstr code) HCN.out hcm (by have := sum_le cInstr code k; omega))
              go_wp2
              go_ret
              exact ⟨c, rfl, cnt_of H9.out (by rw [← HS0.out]; unfold cBlock; simp only; try omega), HB.out.trans (HBr.out.mono HB.out.size)⟩
          · have H9 := Lib.hid (cnt_of (T := S0 + sumOf cText dest + sumOf cPhi phis + sumOf cInstr code) HCN.out (by rw [sum_all cInstr (by omega)]))
            go_wp2
            go_ret
            exact ⟨c, rfl, cnt_of H9.out (by rw [← HS0.out]; unfold cBlock; simp only; try omega), HB.out.trans (HBr.out.mono HB.out.size)⟩
      · have HST3 := Lib.hid (cnt_of (T := S0 + sumOf cText dest + sumOf cPhi phis) HCN.out (by rw [sum_all cPhi (by omega)]))
        have f2 := holdF HO.out 2 rfl
        go_wp2
        clear f1 f2
        go_loopw [5, 9] (fun m i wr => ∃ (k c : Nat), k ≤ code.length ∧ m = .int .i64 c ∧ i = .int .i64 k ∧ Hid (Cnt B2 most (S0 + sumOf cText dest + sumOf cPhi phis + sumOf cInstr (code.take k)) c) ∧ Hid (Below W.heap.size W wr)) (fun _ i _ => code.length - (intOf i).toNat)
        case atStart => exact ⟨0, _, Nat.zero_le _, rfl, rfl, Lib.hid (by rw [sum_zero]; exact HST3.out), Lib.hid (Below.refl _ _)⟩
        case round =>
        obtain ⟨k, c, hk, rfl, rfl, HCN, HBr⟩ := hrel
        have f2 := (HO.out.below HBr.out HO.out.lt).cell 2
        simp only [List.getElem?_cons_succ, List.getElem?_cons_zero] at f2
        by_cases hlt : k < code.length
        · obtain ⟨x, hx⟩ : ∃ y, code[k]? = some y := ⟨_, List.getElem?_eq_getElem hlt⟩
          by_cases hcm : c ≤ most
          · obtain ⟨b3, of3, hn3, hm3, a3, j3⟩ := KC.out.get
            obtain ⟨rfl, _, hb3⟩ := a3 (by omega)
            obtain ⟨cs3, _, q3, hu⟩ := j3 k _ hx
            have hu2 := InstrC.move (Still.of_below (HBr.out.mono HHW.out)) hu
            have QI := Lib.hid (cntInstr_any lo hi wr cs3 x hu2 (Nat.le_trans HHW.out HBr.out.size) most hm (GC.out _ (List.mem_of_getElem? hx)))
            obtain ⟨x1, x2, x3, e1', _⟩ := hu
            subst e1'
            obtain ⟨m0, m1, m2, m3, m4, m5⟩ := at6 (cells_later q3 HBr.out (by have := HHW.out; omega))
            have HX := Lib.hid hx
            clear q3 j3 a3 hx hu2
            go_wp2_with ((with_reducible refine QI.out.mono ?_); rintro e w5 ⟨d, rfl, hd, hb5⟩; have HB5 := Lib.hid (HBr.out.trans (hb5.mono HBr.out.size)); have HD := Lib.hid hd; have hd2 : d ≤ 281476135337984 := (by rcases hd with ⟨h1, h2⟩ | ⟨h1, h2, h3⟩ <;> (try unfold B1 at *) <;> omega); clear hd hb5)
            go_roundw
            case rel => exact ⟨k + 1, c + d, by omega, by go_num, by go_num, Lib.hid (cnt_of (cnt_plus HCN.out hcm HD.out hm (by decide) (by decide)) (by rw [sum_next _ HX.out]; omega)), HB5⟩
            case measure => simp [intOf]; omega
          · clear hx
            have H9 := Lib.hid (cnt_end (S' := S0 + sumOf cText dest + sumOf cPhi phis + sumOf cInstr code) HCN.out hcm (by have := sum_le cInstr code k; omega))
            go_wp2
            go_ret
            exact ⟨c, rfl, cnt_of H9.out (by rw [← HS0.out]; unfold cBlock; simp only; try omega), HB.out.trans (HBr.out.mono HB.out.size)⟩
        · have H9 := Lib.hid (cnt_of (T := S0 + sumOf cText dest + sumOf cPhi phis + sumOf cInstr code) HCN.out (by rw [sum_all cInstr (by omega)]))
          go_wp2
          go_ret
          exact ⟨c, rfl, cnt_of H9.out (by rw [← HS0.out]; unfold cBlock; simp only; try omega), HB.out.trans (HBr.out.mono HB.out.size)⟩
  · obtain ⟨c0, hC0⟩ : ∃ c0 : Nat, 1 + nm.length = c0 := ⟨_, rfl⟩
    rw [hC0] at hs1 hc1
    have HST := Lib.hid hs1
    have hc0 := hc1
    have HC0 := Lib.hid (show ((1 : Int) + (nm.length : Int)) = (c0 : Int) by omega)
    have hz : ¬ ((1 : Int) + (nm.length : Int)) ≤ (most : Int) := by omega
    clear hs1 hc1 hC0
    go_enter Tryd.func71, Tryd.ntmps71
    go_wp2_with fail
    rw [HW.out]
    go_loop [5, 6] (fun m i => m = .int .i64 c0 ∧ i = .int .i64 0) (fun _ _ => 0)
    case atStart => exact ⟨by rw [HC0.out], rfl⟩
    case round =>
    obtain ⟨rfl, rfl⟩ := hrel
    have f1 := holdF HO.out 1 rfl
    have f7 := holdF HO.out 7 rfl
    have f2 := holdF HO.out 2 rfl
    by_cases h0 : 0 < dest.length
    all_goals
      go_wp2
      go_loop [5, 7, 8] (fun m i _ => m = .int .i64 c0 ∧ i = .int .i64 0) (fun _ _ _ => 0)
      case atStart => exact ⟨rfl, rfl⟩
      case round =>
      obtain ⟨rfl, rfl⟩ := hrel
      by_cases h1 : 0 < phis.length
      all_goals
        go_wp2
        go_loop [5, 9] (fun m i => m = .int .i64 c0 ∧ i = .int .i64 0) (fun _ _ => 0)
        case atStart => exact ⟨rfl, rfl⟩
        case round =>
        obtain ⟨rfl, rfl⟩ := hrel
        by_cases h2 : 0 < code.length
        all_goals
          go_wp2
          go_ret
          exact ⟨c0, rfl, cnt_end HST.out hc0 (by have := HC0.out; unfold cBlock; simp only; omega), HB.out⟩
end Go.Proofs.YtikfncgdjnljiaaDoor.Few6
