/-
  Layer 8: the document's Come.
-/
import Derived.Test.YtdgmdpphimenjaaDoorShRef
import Derived.Test.YtdgmdpphimenjaaDoorShFix
import Derived.Test.YtdgmdpphimenjaaDoorShCome
namespace Go.Proofs.YtdgmdpphimenjaaDoor.Sh8
open Go.RowKit Api Mem Go.Maps

def cntV : List Value → Nat
  | [] => 0
  | .bool true :: r => cntV r + 1
  | _ :: r => cntV r
theorem cntV_map : ∀ C : List Bool, cntV (C.map Value.bool) = cntT C
  | [] => rfl
  | true :: r => by simp [cntV, cntT, cntV_map r]; omega
  | false :: r => by simp [cntV, cntT, cntV_map r]
def cntW (w : World) (g : Nat) : Nat := match w.heap[g]? with
  | some (.cells a _ _) => cntV a.toList
  | _ => 0
theorem cntW_own {w : World} {g : Nat} {t : TypeId} {C : List Bool} (h : Own w g t (C.map Value.bool)) : cntW w g = cntT C := by
  unfold Own at h
  unfold cntW
  rw [h]
  simp [cntV_map]
def moreM (n : Nat) (m : Value) (w : World) (g : Nat) : Nat := match m with
  | .bool true => n - cntW w g + 1
  | _ => 0
set_option maxRecDepth 100000 in
set_option maxHeartbeats 8000000 in
theorem rcome_any (lo hi : Nat) (w : World) (cs : List Value) (f : Api.Func) (hf : FuncC lo hi w cs f) (hh : hi ≤ w.heap.size) (hn : f.blocks.length ≤ 1099511627776) :
    Calls Tryd.prog 61 #[.agg cs.toArray] w fun e w' => ∃ (g : Nat) (C : List Bool), e = .returned (.slice (some ⟨g, 0, none⟩) f.blocks.length f.blocks.length) ∧ Own w' g 4 (C.map Value.bool) ∧ Btw f.blocks C false ∧ w.heap.size ≤ g ∧ Below w.heap.size w w' := by
  have hG : True := trivial
  have hfc := hf
  obtain ⟨u1, u2, u3, rfl, kp, kv, kb⟩ := hf
  obtain ⟨nm, rs, ps, vs, bl⟩ := f
  simp only at kp kv kb hG hn hfc ⊢
  obtain ⟨A1, k1, rfl⟩ := kp.form
  obtain ⟨A2, k2, rfl⟩ := kv.form
  obtain ⟨A3, k3, rfl⟩ := kb.form
  obtain ⟨W, hW⟩ : ∃ W, w.alloc (.cells #[str nm, str rs, .slice A1 ps.length k1, .slice A2 vs.length k2, .slice A3 bl.length k3] 37) = W := ⟨_, rfl⟩
  obtain ⟨o1, b1, z1⟩ := box8 (c := [str nm, str rs, .slice A1 ps.length k1, .slice A2 vs.length k2, .slice A3 bl.length k3]) hW
  have hlb : bl.length ≤ 4611686018427387903 := by obtain ⟨_, _, _, h, _⟩ := kb.get; exact h
  have KB := Lib.hid (Blocks.move (Still.of_below (b1.mono hh)) kb)
  have HO := Lib.hid o1
  have HB := Lib.hid b1
  have HW := Lib.hid hW
  have HHW : Hid (hi ≤ W.heap.size) := Lib.hid (by omega)
  have GB := Lib.hid hG
  have zlt := o1.lt
  clear o1 b1 hW kp kv kb hG
  clear GB
  have HF := Lib.hid hfc
  have hmm := fun (w : World) => run_row (P := Tryd.prog) (t := 138) Tryd.underlying138 info_bool rfl (by decide) bl.length hn w
  have HN := Lib.hid hn
  have HR0 := Lib.hid (Own.made W 4 ((List.replicate bl.length false).map Value.bool))
  have HBR0 : Hid (Below W.heap.size W (W.alloc (.cells ((List.replicate bl.length false).map Value.bool).toArray 4))) := Lib.hid ((Below.refl _ _).alloc (Nat.le_refl _) _)
  clear hfc hn
  go_enter Tryd.func61, Tryd.ntmps61
  go_wp2_with fail
  rw [HW.out]
  have f4' := HO.out.cell 4
  simp only [List.getElem?_cons_succ, List.getElem?_cons_zero] at f4'
  go_wp2_with fail
  rw [show (Array.replicate bl.length (Value.bool false)) = ((List.replicate bl.length false).map Value.bool).toArray by simp]
  obtain ⟨d0, hd0⟩ : ∃ d0, decide (0 < bl.length) = d0 := ⟨_, rfl⟩
  rw [hd0]
  have HD0 := Lib.hid hd0
  clear hd0
  go_loopw [4] (fun m wr => ∃ (C : List Bool) (b : Bool), m = .bool b ∧ Hid (Own wr (w.heap.size + 1) 4 (C.map Value.bool)) ∧ Hid (Btw bl C b) ∧ Hid (Below W.heap.size W wr)) (fun m wr => moreM bl.length m wr (w.heap.size + 1))
  case atStart => exact ⟨List.replicate bl.length false, d0, rfl, Lib.hid (by rw [← z1]; exact HR0.out), Lib.hid (by rw [← HD0.out]; exact btw_start bl), HBR0⟩
  case round =>
  obtain ⟨C, b, rfl, HC, HBT, HBr⟩ := hrel
  clear f4'
  cases b with
  | false =>
    go_wp2_with fail
    go_ret
    exact ⟨w.heap.size + 1, C, rfl, HC.out, HBT.out, Nat.le_succ _, HB.out.trans (HBr.out.mono HB.out.size)⟩
  | true =>
    have h0 := HBT.out.2.1 rfl
    obtain ⟨hd1, hd2, hd3⟩ := HBT.out.1.head h0
    have HRD := Lib.hid (rd_start hd1 hd2 hd3)
    have hC0 : 0 < C.length := by rw [HBT.out.1.len]; exact h0
    obtain ⟨b0, hb0⟩ : ∃ b0, C[0]? = some b0 := ⟨_, List.getElem?_eq_getElem hC0⟩
    have c0 := (HC.out.cell 0).trans (show (C.map Value.bool)[0]? = some (Value.bool b0) by rw [List.getElem?_map, hb0]; rfl)
    have t0 := HC.out.thaw 0
    have ylt := HC.out.lt
    have HC1 := Lib.hid (show Own (wr.setCell ⟨w.heap.size + 1, 0, none⟩ (.bool true)) (w.heap.size + 1) 4 ((C.set 0 true).map Value.bool) by rw [List.map_set]; exact HC.out.store 0 _)
    have HB1 := Lib.hid (HBr.out.setCell (p := ⟨w.heap.size + 1, 0, none⟩) (Nat.le_of_eq z1) (.bool true))
    have H0 := Lib.hid h0
    clear hd1 hd2 hd3 h0 hC0 hb0
    go_wp2_with fail
    go_loopw [4, 5] (fun m i wr2 => ∃ (i' : Nat) (C2 : List Bool) (m2 : Bool), i' ≤ bl.length ∧ m = .bool m2 ∧ i = .int .i64 i' ∧ Hid (Own wr2 (w.heap.size + 1) 4 (C2.map Value.bool)) ∧ Hid (Rd bl (cntT C) C2 m2 i' 0) ∧ Hid (Below W.heap.size W wr2)) (fun _ i _ => bl.length - (intOf i).toNat)
    case atStart => exact ⟨0, _, false, Nat.zero_le _, rfl, rfl, HC1, HRD, HB1⟩
    case round =>
    obtain ⟨i, C2, m2, hi2, rfl, rfl, HC2, HR2, HBr2⟩ := hrel
    clear c0 t0 ylt
    by_cases hlt : i < bl.length
    · go_wp2_with fail
      go_loopw [4, 6] (fun m k wr3 => ∃ (k' : Nat) (C3 : List Bool) (m3 : Bool), k' ≤ bl.length ∧ m = .bool m3 ∧ k = .int .i64 k' ∧ Hid (Own wr3 (w.heap.size + 1) 4 (C3.map Value.bool)) ∧ Hid (Rd bl (cntT C) C3 m3 i k') ∧ Hid (Below W.heap.size W wr3)) (fun _ k _ => bl.length - (intOf k).toNat)
      case atStart => exact ⟨0, C2, m2, Nat.zero_le _, rfl, rfl, HC2, HR2, HBr2⟩
      case round =>
      obtain ⟨k, C3, m3, hk3, rfl, rfl, HC3, HR3, HBr3⟩ := hrel
      have h3l : C3.length = bl.length := HR3.out.fx.len
      have ylt := HC3.out.lt
      obtain ⟨ci, hci⟩ : ∃ ci, C3[i]? = some ci := ⟨_, List.getElem?_eq_getElem (by omega)⟩
      have HCI := Lib.hid hci
      have c9 := (HC3.out.cell i).trans (show (C3.map Value.bool)[i]? = some (Value.bool ci) by rw [List.getElem?_map, hci]; rfl)
      clear hci
      by_cases hlt3 : k < bl.length
      · cases ci with
        | false =>
          have HNX := Lib.hid (HR3.out.next (.inr HCI.out))
          go_wp2_with fail
          go_roundw
          case rel => exact ⟨i + 1, C3, m3, by omega, rfl, by go_num, HC3, HNX, HBr3⟩
          case measure => simp [intOf]; omega
        | true =>
          obtain ⟨ck, hck⟩ : ∃ ck, C3[k]? = some ck := ⟨_, List.getElem?_eq_getElem (by omega)⟩
          have HCK := Lib.hid hck
          have c8 := (HC3.out.cell k).trans (show (C3.map Value.bool)[k]? = some (Value.bool ck) by rw [List.getElem?_map, hck]; rfl)
          clear hck
          cases ck with
          | true =>
            have HNX := Lib.hid (HR3.out.skip (.inl HCK.out))
            go_wp2_with fail
            go_roundw
            case rel => exact ⟨k + 1, C3, m3, by omega, rfl, by go_num, HC3, HNX, HBr3⟩
            case measure => simp [intOf]; omega
          | false =>
            have HO3 := Lib.hid (HO.out.below HBr3.out HO.out.lt)
            have f0 := HO3.out.cell 0
            have f1 := HO3.out.cell 1
            have f2 := HO3.out.cell 2
            have f3 := HO3.out.cell 3
            have f4 := HO3.out.cell 4
            simp only [List.getElem?_cons_succ, List.getElem?_cons_zero] at f0 f1 f2 f3 f4
            obtain ⟨c, hc⟩ : ∃ c, bl[i]? = some c := ⟨_, List.getElem?_eq_getElem hlt⟩
            have QL := Lib.hid (leads_any lo hi wr _ _ (FuncC.move (Still.of_below ((HB.out.trans (HBr3.out.mono HB.out.size)).mono hh)) HF.out) (Nat.le_trans HHW.out HBr3.out.size) i k c hc (by have := HN.out; omega))
            have HCC := Lib.hid hc
            clear hc
            go_wp2_with fail
            refine QL.out.mono ?_
            rintro e w6 ⟨b6, rfl, hb6, hw6⟩
            have HB6 := Lib.hid (HBr3.out.trans (hw6.mono HBr3.out.size))
            have HC6 := Lib.hid (HC3.out.below hw6 ylt)
            have HE6 := Lib.hid hb6
            have c7 := HC6.out.cell k
            have t7 := HC6.out.thaw k
            rw [List.getElem?_map, HCK.out] at c7
            simp only [Option.map_some] at c7
            have ylt6 := HC6.out.lt
            clear hb6 hw6
            cases b6 with
            | false =>
              have HNX := Lib.hid (HR3.out.skip (.inr (fun ⟨b, hb, x, hx, hp⟩ => by
                rw [HCC.out] at hb
                cases hb
                have := HE6.out.2 ⟨x, hx, hp⟩
                cases this)))
              go_wp2_with fail
              go_roundw
              case rel => exact ⟨k + 1, C3, m3, by omega, rfl, by go_num, HC6, HNX, HB6⟩
              case measure => simp [intOf]; omega
            | true =>
              have HNX := Lib.hid (HR3.out.mark HCK.out HCI.out ⟨c, HCC.out, HE6.out.1 rfl⟩)
              have HC7 := Lib.hid (show Own (w6.setCell ⟨w.heap.size + 1, k, none⟩ (.bool true)) (w.heap.size + 1) 4 ((C3.set k true).map Value.bool) by rw [List.map_set]; exact HC6.out.store k _)
              have HB7 := Lib.hid (HB6.out.setCell (p := ⟨w.heap.size + 1, k, none⟩) (Nat.le_of_eq z1) (.bool true))
              go_wp2_with fail
              go_roundw
              case rel => exact ⟨k + 1, C3.set k true, true, by omega, rfl, by go_num, HC7, HNX, HB7⟩
              case measure => simp [intOf]; omega
      · have HNX := Lib.hid (HR3.out.next (.inl (by omega)))
        go_wp2_with fail
        go_roundw
        case rel => exact ⟨i + 1, C3, m3, by omega, rfl, by go_num, HC3, HNX, HBr3⟩
        case measure => simp [intOf]; omega
    · have HFN := Lib.hid (HR2.out.fin (by omega) H0.out)
      go_wp2_with fail
      go_roundw
      case rel => exact ⟨C2, m2, rfl, HC2, HFN, HBr2⟩
      case measure =>
        cases m2 with
        | false => simp [moreM]
        | true =>
          have h1 := HR2.out.more rfl
          have h2 := cnt_le C2
          have h3 := HR2.out.fx.len
          simp only [moreM]
          rw [cntW_own HC2.out, cntW_own HC.out]
          omega
end Go.Proofs.YtdgmdpphimenjaaDoor.Sh8
