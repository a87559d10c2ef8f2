/-
  LvPlaces LvOne LvAt LvRef LvRefU LvSol LvSpread LvPhis LvFollow LvLast LvAtG LvIns LvOk LvPl
-/
import Derived.Test.YtdgmdpphimenjaaDoorShPlaces
import Derived.Test.YtdgmdpphimenjaaDoorLvA
import Derived.StillTailTactics
import Derived.Sort.Walk0
import Derived.Test.YtdgmdpphimenjaaDoorFlRef
import Derived.Test.YtdgmdpphimenjaaDoorShCome
import Derived.Shelf.Slices.SearchI
import Derived.Shelf.Slices.Empties
import Derived.Shelf.Lay
import Derived.Maps.RangeWalk
import Derived.Sort.MapsRangeIn
import Derived.Test.YtdgmdpphimenjaaDoorLvFew
import Derived.Test.YtdgmdpphimenjaaDoorOpenP
/-
  Layer 12: the program's map of places.
-/
namespace Go.Proofs.YtdgmdpphimenjaaDoor.Lv12
open Go.RowKit Api Mem Sh8 Go.Maps

set_option maxRecDepth 100000 in
set_option maxHeartbeats 8000000 in
theorem lplaces_any (lo hi : Nat) (w : World) (cs : List Value) (f : Api.Func) (hf : FuncC lo hi w cs f) (hh : hi ≤ w.heap.size) (hG : nmG f.blocks) :
    Calls Tryd.prog 62 #[.agg cs.toArray] w fun e w' => ∃ g, e = .returned (.map (some g)) ∧ w.heap.size ≤ g ∧ w'.ownsMap Tryd.prog 9 (plainElem Tryd.prog 3) g f.blocks.length (tab 0 (names f.blocks)) ∧ Below w.heap.size w w' := by
  obtain ⟨u1, u2, u3, rfl, kp, kv, kb⟩ := hf
  obtain ⟨nm, rs, ps, vs, bl⟩ := f
  simp only at kp kv kb hG ⊢
  obtain ⟨A1, k1, rfl⟩ := kp.form
  obtain ⟨A2, k2, rfl⟩ := kv.form
  obtain ⟨A3, k3, rfl⟩ := kb.form
  obtain ⟨W, hW⟩ : ∃ W, w.alloc (.cells #[str nm, str rs, .slice A1 ps.length k1, .slice A2 vs.length k2, .slice A3 bl.length k3] 37) = W := ⟨_, rfl⟩
  obtain ⟨o1, b1, z1⟩ := box8 (c := [str nm, str rs, .slice A1 ps.length k1, .slice A2 vs.length k2, .slice A3 bl.length k3]) hW
  have hlb : bl.length ≤ 4611686018427387903 := by obtain ⟨_, _, _, h, _⟩ := kb.get; exact h
  have KB := Lib.hid (Blocks.move (Still.of_below (b1.mono hh)) kb)
  have HO := Lib.hid o1
  have HB := Lib.hid b1
  have HW := Lib.hid hW
  have HHW : Hid (hi ≤ W.heap.size) := Lib.hid (by omega)
  have GB := Lib.hid hG
  have zlt := o1.lt
  clear o1 b1 hW kp kv kb hG
  have hmm := fun (n : Int) (w : World) => run_makeHint (P := Tryd.prog) (t := 140) Tryd.underlying140 .i64 n w
  have hm0 := World.ownsMap_made (H := Unit) W Tryd.prog 9 (plainElem Tryd.prog 3)
  have hb0 : Below W.heap.size W (W.alloc (.map #[] 0)) := (Below.refl _ _).alloc (Nat.le_refl _) _
  have HM0 := Lib.hid hm0
  have HB0 := Lib.hid hb0
  clear hm0 hb0
  go_enter Tryd.func62, Tryd.ntmps62
  go_wp2_with fail
  rw [HW.out]
  have f4' := HO.out.cell 4
  simp only [List.getElem?_cons_succ, List.getElem?_cons_zero] at f4'
  go_wp2_with fail
  go_loopw [4] (fun i wr => ∃ k : Nat, k ≤ bl.length ∧ i = .int .i64 ((k : Int) - 1) ∧ Hid (wr.ownsMap Tryd.prog 9 (plainElem Tryd.prog 3) (w.heap.size + 1) (bl.length - k) (tab k ((names bl).drop k))) ∧ Hid (Below W.heap.size W wr)) (fun i _ => (intOf i + 1).toNat)
  case atStart => exact ⟨bl.length, Nat.le_refl _, rfl, Lib.hid (by rw [Nat.sub_self, List.drop_of_length_le (by rw [names_len]; exact Nat.le_refl _), ← z1]; exact HM0.out), HB0⟩
  case round =>
  obtain ⟨k, hk, rfl, HM, HBr⟩ := hrel
  clear f4'
  have f4 := (HO.out.below HBr.out HO.out.lt).cell 4
  simp only [List.getElem?_cons_succ, List.getElem?_cons_zero] at f4
  by_cases hlt : 0 < k
  · obtain ⟨k, rfl⟩ : ∃ j, k = j + 1 := ⟨k - 1, by omega⟩
    obtain ⟨⟨bn, phs, cod, ⟨tk, ⟨ak, as_, an⟩, td, tn⟩⟩, hx⟩ : ∃ y, bl[k]? = some y := ⟨_, List.getElem?_eq_getElem (by omega)⟩
    obtain ⟨b3, of3, hn3, hm3, a3, j3⟩ := KB.out.get
    obtain ⟨rfl, _, hb3⟩ := a3 (by omega)
    obtain ⟨cs3, _, q3, hu⟩ := j3 k _ hx
    have hu2 := BlockC.move (Still.of_below (HBr.out.mono HHW.out)) hu
    obtain ⟨x1, x2, x3, e1', kph, kco, x4, e2', kto⟩ := hu2
    subst e2'
    subst e1'
    obtain ⟨m0, m1, m2, m3, m4, m5, m6, m7, m8⟩ := at9 (cells_later q3 HBr.out (by have := HHW.out; omega))
    have HX := Lib.hid (names_at hx)
    have HKEY := Lib.hid (key_at (GB.out _ (List.mem_of_getElem? hx)))
    clear q3 j3 a3 hx kph kco kto
    have e0 : ((k + 1 : Nat) : Int) - 1 = (k : Int) := by omega
    rw [e0]
    go_wp2_with (first | (at_mapUpdate; refine wpList_mapUpdate_own _ rfl _ _ _ 140 rfl 9 3 lawS Tryd.underlying140 _ (w.heap.size + 1) (bl.length - (k + 1)) _ rfl HM.out (by unfold maxLen; omega) _ _ _ rfl rfl HKEY.out _ [] (plainElem_int Tryd.underlying3 (WalkArith.wf_i64 (by omega))) ?_; intro w1 hown1 hgrow1; have HW1 := Lib.hid hown1; have HG1 := Lib.hid hgrow1; clear hown1 hgrow1) | go_in)
    go_roundw
    case rel => exact ⟨k, by omega, by go_num, Lib.hid (by rw [Sh8.drop_at HX.out]; exact (HW1.out).mono (by omega)), Lib.hid (HBr.out.grown HG1.out HBr.out.size (fun j hj => by cases hj; omega))⟩
    case measure => simp [intOf]
  · obtain rfl : k = 0 := by omega
    go_wp2
    go_ret
    exact ⟨w.heap.size + 1, rfl, by omega, HM.out, HB.out.trans (HBr.out.mono HB.out.size)⟩
end Go.Proofs.YtdgmdpphimenjaaDoor.Lv12

/-
  Layer 12: a function of one block, without phis, that leads nowhere.
-/
namespace Go.Proofs.YtdgmdpphimenjaaDoor.Lv12
open Go.RowKit Api Mem Sh8 Go.Maps

/-- one block, without phis, that leads nowhere. -/
structure OneB (U : List Wd) (f : Api.Func) (b : Api.Block) : Prop where
  bl : f.blocks = [b]
  phis : b.phis = []
  dest : b.fin.dest = []
  nm : b.name.length ≤ 140737488351232
  uT : ∀ x ∈ usesT b.fin, x ∈ U
  uI : ∀ i ∈ b.code, i.dst ∈ U ∧ ∀ x ∈ usesI i, x ∈ U
  cl : b.code.length ≤ 1000000000000
set_option maxRecDepth 100000 in
set_option maxHeartbeats 8000000 in
theorem layPhis1_any (lo hi : Nat) (w : World) (cs : List Value) (f : Api.Func) (b : Api.Block) (hf : FuncC lo hi w cs f) (hh : hi ≤ w.heap.size) (hb : f.blocks = [b]) (hp : b.phis = []) (vm va : Value) :
    Calls Tryd.prog 64 #[.agg cs.toArray, vm, va] w fun e w' => e = .returned (.tuple #[]) ∧ Below w.heap.size w w' := by
  obtain ⟨u1, u2, u3, rfl, kp, kv, kb⟩ := hf
  obtain ⟨nm, rs, ps, vs, bl⟩ := f
  simp only at kp kv kb hb ⊢
  subst hb
  obtain ⟨A1, k1, rfl⟩ := kp.form
  obtain ⟨A2, k2, rfl⟩ := kv.form
  obtain ⟨A3, k3, rfl⟩ := kb.form
  obtain ⟨b3, o3, rfl, hb3, cs3, hcl3, hcs3, x1, x2, cs4, e4, kph, kco, x4, e5, kto⟩ := row_at kb (show [b][0]? = some b from rfl)
  subst e5
  subst e4
  obtain ⟨A5, k5, rfl⟩ := Row.form kph
  rw [hp]  at hcs3
  have hbx : Below w.heap.size w (w.alloc (.cells #[str nm, str rs, .slice A1 ps.length k1, .slice A2 vs.length k2, .slice (some ⟨b3, o3, none⟩) 1 k3] 37)) := (Below.refl _ _).alloc (Nat.le_refl _) _
  have HBX := Lib.hid hbx
  obtain ⟨m0, m1, m2, m3, m4, m5, m6, m7, m8⟩ := at9 (cells_later hcs3 (hbx.mono hh) hb3)
  simp only [List.length_nil, List.length_singleton, Nat.zero_mul, Nat.add_zero] at m0 m1 m2 m3 m4 m5 m6 m7 m8
  clear hcs3 kp kv kb kph kco kto hbx
  go_enter Tryd.func64, Tryd.ntmps64
  go_wp2_with fail
  generalize hW0 : w.alloc (.cells #[str nm, str rs, .slice A1 ps.length k1, .slice A2 vs.length k2, .slice (some ⟨b3, o3, none⟩) 1 k3] 37) = W0
  rw [hW0] at HBX m0 m1 m2 m3 m4 m5 m6 m7 m8
  have f4 : W0.cell? ⟨w.heap.size, 4, none⟩ = some (.slice (some ⟨b3, o3, none⟩) 1 k3) := by rw [← hW0]; exact (Mem.Own.made w 37 [str nm, str rs, .slice A1 ps.length k1, .slice A2 vs.length k2, .slice (some ⟨b3, o3, none⟩) 1 k3]).cell 4
  clear hW0
  go_loopw [18] (fun iv wr => ∃ k : Nat, k ≤ 1 ∧ iv = .int .i64 k ∧ wr = W0) (fun iv _ => 1 - (intOf iv).toNat)
  case atStart => exact ⟨0, by omega, rfl, rfl⟩
  case round =>
  obtain ⟨k, hk, rfl, rfl⟩ := hrel
  rcases (by omega : k = 0 ∨ k = 1) with rfl | rfl
  · go_wp2_with fail
    go_loopw [28] (fun iv wr2 => iv = .int .i64 0 ∧ wr2 = wr) (fun iv _ => 0)
    case atStart => exact ⟨rfl, rfl⟩
    case round =>
    obtain ⟨rfl, rfl⟩ := hrel
    go_wp2_with fail
    go_roundw
    case rel => exact ⟨1, by omega, rfl, trivial⟩
    case measure => simp [intOf]
  · go_wp2_with fail
    go_end0
    exact ⟨rfl, HBX.out⟩
set_option maxRecDepth 100000 in
set_option maxHeartbeats 8000000 in
theorem spread1_any {U : List Wd} (hU : UOk U) {w : World} {base B : Nat} {c : Nat → Nat} {S : Nat → Wd → Bool} {vi : Nat → Value} {li : Nat → List Int} {vg : Nat → Value} {gr : Nat → List Wd} (h : St U w base B 1 1 c S vi li vg gr) (hb : base ≤ w.heap.size) (hgU : ∀ x ∈ gr 0, x ∈ U) (hgl : (gr 0).length ≤ 1000000000000) (hl : li 1 = []) :
    Calls Tryd.prog 66 #[.slice (some ⟨B, 0, none⟩) 1 1] w fun e w' => e = .returned (.tuple #[]) ∧ (∃ vg' gr', St U w' base B 1 1 c S vi li vg' gr') ∧ Below base w w' := by
  have n6 := (h.cell (i := 0) (by omega) (show 6 < 7 by omega)).trans (congrArg some (show FF 1 c vi vg 0 6 = vg 0 from rfl))
  obtain ⟨A, k0, hv⟩ := row_form (h.rg.own 0 (by omega))
  obtain ⟨q, hq⟩ : ∃ q, (gr 0).length = q := ⟨_, rfl⟩
  rw [hq] at hv
  rw [hv] at n6
  simp only [Nat.zero_mul, Nat.zero_add] at n6
  have HST := Lib.hid h
  have HGU := Lib.hid hgU
  have HGL := Lib.hid hgl
  have HL := Lib.hid hl
  clear h hgU hgl hl hv hq
  by_cases h0 : q = 0
  · subst h0
    go_enter Tryd.func66, Tryd.ntmps66
    go_wp2_with fail
    go_loopw [2, 11] (fun rv iv wr => ∃ k : Nat, k ≤ 1 ∧ iv = .int .i64 k ∧ rv = .slice none 0 0 ∧ wr = w) (fun _ iv _ => 1 - (intOf iv).toNat)
    case atStart => exact ⟨0, by omega, rfl, rfl, rfl⟩
    case round =>
    obtain ⟨k, hk, rfl, rfl, rfl⟩ := hrel
    rcases (by omega : k = 0 ∨ k = 1) with rfl | rfl
    · go_wp2_with fail
      go_roundw
      case rel => exact ⟨1, by omega, rfl, by simp⟩
      case measure => simp [intOf]
    · go_wp2_with fail
      go_loopw [2] (fun rv wr2 => rv = .slice none 0 0 ∧ wr2 = wr) (fun _ _ => 0)
      case atStart => exact ⟨rfl, rfl⟩
      case round =>
      obtain ⟨rfl, rfl⟩ := hrel
      go_wp2_with fail
      go_end0
      exact ⟨rfl, ⟨_, _, HST.out⟩, Below.refl _ _⟩
  · obtain ⟨ii, hii, hi0, hi1, hi2⟩ := info_parts info_int12
    have HII := Lib.hid (show _ ∧ _ ∧ _ ∧ _ from ⟨hii, hi0, hi1, hi2⟩)
    clear hii hi0 hi1 hi2
    have hq0 : (0 : Int) < (q : Int) := by omega
    have e0 : decide ((0 : Int) < (q : Int)) = true := decide_eq_true hq0
    have e1 : decide (0 < q) = true := decide_eq_true (by omega)
    have HN0 := Lib.hid (show w.ownsRow base 3 1 (.slice none 0 0) 0 [] from ⟨by simp, .inl ⟨rfl, rfl⟩⟩)
    go_enter Tryd.func66, Tryd.ntmps66
    go_wp2_with fail
    go_loopw [2, 11] (fun rv iv wr => (iv = .int .i64 0 ∧ rv = .slice none 0 0 ∧ wr = w) ∨ (iv = .int .i64 1 ∧ ∃ A1 k1, rv = .slice A1 1 k1 ∧ Hid (wr.ownsRow w.heap.size 3 1 (.slice A1 1 k1) 1 [i64 0]) ∧ Hid (Below w.heap.size w wr))) (fun _ iv _ => 1 - (intOf iv).toNat)
    case atStart => exact .inl ⟨rfl, rfl, rfl⟩
    case round =>
    rcases hrel with ⟨rfl, rfl, rfl⟩ | ⟨rfl, A1, k1, rfl, HR, HB⟩
    · have HN1 := Lib.hid (show wr.ownsRow wr.heap.size 3 1 (.slice none 0 0) 0 [] from ⟨by simp, .inl ⟨rfl, rfl⟩⟩)
      go_wp2_with (at_builtin; refine wpList_growP rfl _ _ 92 rfl wr.heap.size 3 1 ii _ 8 Tryd.underlying92 HII.out.1 HII.out.2.1 HII.out.2.2.1 HII.out.2.2.2 rfl Nat.one_pos _ _ _ rfl HN1.out [i64 0] _ rfl rfl rfl (by intro u hu; rw [List.mem_singleton] at hu; subst hu; rfl) (by omega) (by omega) (Nat.le_refl _) ?_; intro v9 w9 h9 g9 f9; obtain ⟨A9, k9, rfl⟩ := row_form h9; have H9 := Lib.hid h9; have G9 := Lib.hid g9; clear h9 g9 f9)
      go_roundw
      case rel => exact .inr ⟨rfl, A9, k9, rfl, H9, Lib.hid ((Below.refl _ _).grown G9.out (Nat.le_refl _) (fun j hj => by cases hj))⟩
      case measure => simp [intOf]
    · clear n6
      go_wp2_with fail
      go_loopw [2] (fun rv wr2 => (∃ A1 k1, rv = .slice A1 1 k1 ∧ Hid (wr2.ownsRow w.heap.size 3 1 (.slice A1 1 k1) 1 [i64 0]) ∧ Hid (Below w.heap.size w wr2)) ∨ (∃ A1 k1, rv = .slice A1 0 k1 ∧ Hid (∃ vg' gr', St U wr2 base B 1 1 c S vi li vg' gr') ∧ Hid (Below base w wr2))) (fun rv _ => match rv with | .slice _ n _ => n | _ => 0)
      case atStart => exact .inl ⟨A1, k1, rfl, HR, HB⟩
      case round =>
      rcases hrel with ⟨A1, k1, rfl, HR, HB⟩ | ⟨A1, k1, rfl, HS, HB⟩
      · obtain ⟨b2, rfl, hb2, hb3⟩ := own_addr (k := 0) HR.out (by omega)
        have n0 := own_at HR.out (show [i64 0][0]? = some (i64 0) from rfl)
        have hst := HST.out.below HB.out
        have hcap : 1 ≤ k1 := by
          rcases HR.out.2 with ⟨e, _⟩ | ⟨g, cap, cur, e, _, _, h1, _⟩
          · cases e
          · cases e
            exact h1
        have HQ := Lib.hid (show Calls Tryd.prog 96 #[.pointer (some ⟨B, 0, none⟩)] wr _ from tell_any hU hst (Nat.le_trans hb HB.out.size) (i := 0) (by omega) HGU.out HGL.out)
        clear hst
        go_wp2_with fail
        refine HQ.out.mono ?_
        rintro e w5 ⟨v5, r5, rfl, hr5, ho5, hst5, hb5⟩
        obtain ⟨A5, k5, rfl⟩ := row_form ho5
        have n1 := (hst5.cell (i := 0) (by omega) (show 1 < 7 by omega)).trans (congrArg some (show FF 1 c vi (upd vg 0 (.slice none 0 0)) 0 1 = vi 1 from rfl))
        have hr1 := hst5.ri.own 1 (by omega)
        rw [HL.out] at hr1
        obtain ⟨A6, k6, hv6⟩ := row_form hr1
        rw [hv6] at n1
        simp only [Nat.zero_mul, Nat.zero_add, List.length_nil] at n1
        have HS5 := Lib.hid (show ∃ vg' gr', St U w5 base B 1 1 c S vi li vg' gr' from ⟨_, _, hst5⟩)
        have HB5 := Lib.hid (show Below base w w5 from (HB.out.mono hb).trans hb5)
        clear hr5 ho5 hst5 hb5 hr1 hv6
        go_wp2_with fail
        go_loopw [2, 49] (fun rv iv wr3 => rv = .slice (some ⟨b2, 0, none⟩) 0 k1 ∧ iv = .int .i64 0 ∧ wr3 = w5) (fun _ iv _ => 0)
        case atStart => exact ⟨rfl, rfl, rfl⟩
        case round =>
        obtain ⟨rfl, rfl, rfl⟩ := hrel
        go_wp2_with fail
        go_roundw
        case rel => exact .inr ⟨_, _, rfl, HS5, HB5⟩
        case measure => simp
      · go_wp2_with fail
        go_end0
        exact ⟨rfl, HS.out, HB.out⟩
set_option maxRecDepth 100000 in
set_option maxHeartbeats 8000000 in
theorem follow1_any {U : List Wd} (hU : UOk U) (lo hi : Nat) (w : World) (cs : List Value) (f : Api.Func) (b : Api.Block) (hf : FuncC lo hi w cs f) (hh : hi ≤ w.heap.size) (ho : OneB U f b) :
    Calls Tryd.prog 37 #[.agg cs.toArray] w fun e w' => ∃ B c S vi vg gr, e = .returned (.slice (some ⟨B, 0, none⟩) 1 1) ∧ St U w' w.heap.size B 1 1 c S vi (LI []) vg gr ∧ S 2 = (fun y => decide (y ∈ usesT b.fin)) ∧ Below w.heap.size w w' := by
  have hf0 := hf
  obtain ⟨u1, u2, u3, rfl, kp, kv, kb⟩ := hf
  obtain ⟨nm, rs, ps, vs, bl⟩ := f
  have hbl := ho.bl
  simp only at kp kv kb hbl
  subst hbl
  obtain ⟨A1, k1, rfl⟩ := kp.form
  obtain ⟨A2, k2, rfl⟩ := kv.form
  obtain ⟨A3, k3, rfl⟩ := kb.form
  obtain ⟨b3, o3, rfl, hb3, cs3, hcl3, hcs3, hbc⟩ := row_at kb (show [b][0]? = some b from rfl)
  have hE : edgesTo [b] 1 = [] := by
    simp [edgesTo, edgesOf, ho.dest]
  have hbx : Below w.heap.size w (w.alloc (.cells #[str nm, str rs, .slice A1 ps.length k1, .slice A2 vs.length k2, .slice (some ⟨b3, o3, none⟩) 1 k3] 37)) := (Below.refl _ _).alloc (Nat.le_refl _) _
  generalize hW0 : w.alloc (.cells #[str nm, str rs, .slice A1 ps.length k1, .slice A2 vs.length k2, .slice (some ⟨b3, o3, none⟩) 1 k3] 37) = W0 at hbx
  have hO0 : Mem.Own W0 w.heap.size 37 [str nm, str rs, .slice A1 ps.length k1, .slice A2 vs.length k2, .slice (some ⟨b3, o3, none⟩) 1 k3] := by rw [← hW0]; exact Mem.Own.made w _ _
  have HO0 := Lib.hid hO0
  have HBX := Lib.hid hbx
  have HW0 := Lib.hid hW0
  have HF := Lib.hid hf0
  have HBC := Lib.hid hbc
  have HC3 := Lib.hid hcs3
  have hlt0 := hO0.lt
  have HQ1 := Lib.hid (lplaces_any lo hi W0 _ _ (FuncC.move (Still.of_below (hbx.mono hh)) hf0) (Nat.le_trans hh hbx.size) (fun b' hb' => by rw [List.mem_singleton] at hb'; subst hb'; exact ho.nm))
  clear hf0 kp kv kb hcs3 hbc hO0 hbx hW0
  go_enter Tryd.func37, Tryd.ntmps37
  go_wp2_with fail
  rw [HW0.out]
  refine HQ1.out.mono ?_
  rintro e w1 ⟨gm, rfl, hgm1, hgm2, hb1⟩
  have HB1 := Lib.hid (HBX.out.trans (hb1.mono HBX.out.size))
  have HO1 := Lib.hid (HO0.out.below hb1 hlt0)
  have hh1 : hi ≤ w1.heap.size := Nat.le_trans hh HB1.out.size
  have HF1 := Lib.hid (FuncC.move (Still.of_below (HB1.out.mono hh)) HF.out)
  have HQ2 := Lib.hid (linked_any U lo hi w1 _ _ HF1.out hh1 (fun b' hb' x hx => by simp only [List.mem_singleton] at hb'; subst hb'; rw [ho.dest] at hx; cases hx) gm _ hgm2 (by simp) (by simp) (by show (edgesTo [b] 1).length ≤ _; rw [hE]; simp) (fun b' hb' x hx => by simp only [List.mem_singleton] at hb'; subst hb'; rw [ho.dest] at hx; cases hx))
  have f4 := HO1.out.cell 4
  have f0 := HO1.out.cell 0
  have f1 := HO1.out.cell 1
  have f2 := HO1.out.cell 2
  have f3 := HO1.out.cell 3
  simp only [List.getElem?_cons_zero, List.getElem?_cons_succ] at f0 f1 f2 f3 f4
  clear hb1 hgm2
  go_wp2_with fail
  refine HQ2.out.mono ?_
  rintro e w2 ⟨B, c, vi, rfl, hst2, hb2⟩
  simp only [List.length_singleton] at hst2
  rw [hE] at hst2
  have HST2 := Lib.hid hst2
  have HB2 := Lib.hid (HB1.out.trans (hb2.mono HB1.out.size))
  have HO2 := Lib.hid (HO1.out.below hb2 HO1.out.lt)
  have HF2 := Lib.hid (FuncC.move (Still.of_below (HB2.out.mono hh)) HF.out)
  have HQ3 := Lib.hid (layPhis1_any lo hi w2 _ _ b HF2.out (Nat.le_trans hh HB2.out.size) rfl ho.phis (.map (some gm)) (.slice (some ⟨B, 0, none⟩) 1 1))
  clear hst2 hb2 f0 f1 f2 f3 f4
  have f4 := HO2.out.cell 4
  have f0 := HO2.out.cell 0
  have f1 := HO2.out.cell 1
  have f2 := HO2.out.cell 2
  have f3 := HO2.out.cell 3
  simp only [List.getElem?_cons_zero, List.getElem?_cons_succ] at f0 f1 f2 f3 f4
  go_wp2_with fail
  refine HQ3.out.mono ?_
  rintro e w3 ⟨rfl, hb3'⟩
  have HST3 := Lib.hid (HST2.out.below hb3')
  have HB3 := Lib.hid (HB2.out.trans (hb3'.mono HB2.out.size))
  have HO3 := Lib.hid (HO2.out.below hb3' HO2.out.lt)
  have hb13 : w1.heap.size ≤ w3.heap.size := Nat.le_trans (by have := HST2.out.out.lt; have := HST2.out.ob; omega) hb3'.size
  clear hb3' f0 f1 f2 f3 f4
  have f4 := HO3.out.cell 4
  simp only [List.getElem?_cons_zero, List.getElem?_cons_succ] at f4
  have hbc3 := BlockC.move (Still.of_below (HB3.out.mono hh)) HBC.out
  have hc3 := cells_later HC3.out (HB3.out.mono hh) hb3
  have HQ4 := Lib.hid (show Calls Tryd.prog 65 #[.pointer (some ⟨B, 0, none⟩), .agg cs3.toArray] w3.drew _ from begin_any hU HST3.out.drew (by show w1.heap.size ≤ w3.heap.size; omega) (m := 0) (by omega) rfl rfl lo hi cs3 b (BlockC.move (Still.of_below (Below.refl hi w3).drew) hbc3) hh1 ho.uT ho.uI ho.cl)
  obtain ⟨y1, y2, cs4, rfl, _, _, y3, rfl, _⟩ := hbc3
  obtain ⟨m0, m1, m2, m3, m4, m5, m6, m7, m8⟩ := at9 hc3
  simp only [Nat.zero_mul, Nat.add_zero] at m0 m1 m2 m3 m4 m5 m6 m7 m8
  clear hc3
  go_wp2_with fail
  go_loopw [18] (fun iv wr => (iv = .int .i64 0 ∧ wr = w3) ∨ (iv = .int .i64 1 ∧ Hid (∃ c S vg gr, St U wr w1.heap.size B 1 1 c S vi (LI []) vg gr ∧ S 2 = (fun y => decide (y ∈ usesT b.fin)) ∧ (∀ x ∈ gr 0, x ∈ U) ∧ (gr 0).length ≤ 1000000000000 ∧ Below w.heap.size w wr))) (fun iv _ => 1 - (intOf iv).toNat)
  case atStart => exact .inl ⟨rfl, rfl⟩
  case round =>
  rcases hrel with ⟨rfl, rfl⟩ | ⟨rfl, HS⟩
  · go_wp2_with fail
    go_still_tail 8, (by kernel_rfl)
    change wpList _ _ _ _ _ wr.drew
    go_wp2_with fail
    refine HQ4.out.mono ?_
    rintro e w5 ⟨rfl, g, v, q, X, hst5, hX, hqn, hqm, hql, hb5⟩
    have HN := Lib.hid (show ∃ c S vg gr, St U w5 w1.heap.size B 1 1 c S vi (LI []) vg gr ∧ S 2 = (fun y => decide (y ∈ usesT b.fin)) ∧ (∀ x ∈ gr 0, x ∈ U) ∧ (gr 0).length ≤ 1000000000000 ∧ Below w.heap.size w w5 from by
      refine ⟨_, _, _, _, hst5, ?_, fun x hx => ?_, ?_, HB3.out.trans ((below_of_drew hb5).mono HB1.out.size)⟩
      · rw [upd_ne _ _ (by omega), upd_ne _ _ (by omega), upd_at]
        exact funext fun y => by simp [orS]
      · rw [upd_at] at hx
        have hs := hst5.ms.set 3 ⟨by omega, fun _ => by omega⟩
        rw [upd_ne _ _ (by omega : 3 ≠ 4 * 0 + 1), upd_at] at hs
        exact hs.2 x ((hqm x).1 hx)
      · rw [upd_at]
        have := hU.len
        omega)
    clear hst5 hX hqn hqm hql hb5
    go_wp2_with fail
    go_roundw
    case rel => exact .inr ⟨rfl, HN⟩
    case measure => simp [intOf]
  · obtain ⟨c5, S5, vg5, gr5, hst5, hS5, hg5, hl5, hb5⟩ := HS.out
    have HQ5 := Lib.hid (spread1_any hU hst5 (by have := hst5.out.lt; have := hst5.ob; omega) hg5 hl5 rfl)
    have HS5 := Lib.hid hS5
    have HB5 := Lib.hid hb5
    have h15 : w.heap.size ≤ w1.heap.size := HB1.out.size
    clear hst5 hS5 hg5 hl5 hb5 HS f4 m0 m1 m2 m3 m4 m5 m6 m7 m8
    go_wp2_with fail
    refine HQ5.out.mono ?_
    rintro e w6 ⟨rfl, ⟨vg6, gr6, hst6⟩, hb6⟩
    have HST6 := Lib.hid hst6
    have HB6 := Lib.hid (HB5.out.trans (hb6.mono h15))
    clear hst6 hb6
    go_wp2_with fail
    go_ret
    exact ⟨B, c5, S5, vi, vg6, gr6, rfl, HST6.out.lower h15, HS5.out, HB6.out⟩
end Go.Proofs.YtdgmdpphimenjaaDoor.Lv12

/-
  Layer 12: what is live at a place of a function of one block.
-/
namespace Go.Proofs.YtdgmdpphimenjaaDoor.Lv12
open Go.RowKit Go.Shelf Api Mem Sh8 Go.Maps
attribute [local go_sem] Oper.semAt_some
set_option maxRecDepth 100000 in
set_option maxHeartbeats 8000000 in
theorem last1_any {U : List Wd} {w : World} {base B : Nat} {c : Nat → Nat} {S : Nat → Wd → Bool} {vi : Nat → Value} {vg : Nat → Value} {gr : Nat → List Wd} (h : St U w base B 1 1 c S vi (LI []) vg gr) (hb : base ≤ w.heap.size) :
    Calls Tryd.prog 57 #[.slice (some ⟨B, 0, none⟩) 1 1, .int .i64 0] w fun e w' => ∃ g, e = .returned (.map (some g)) ∧ w.heap.size ≤ g ∧ SetO U w' g (S 2) ∧ Below w.heap.size w w' := by
  have n4 := (h.cell (i := 0) (by omega) (show 4 < 7 by omega)).trans (congrArg some (show FF 1 c vi vg 0 4 = .map (some (c 2)) from rfl))
  simp only [Nat.zero_mul, Nat.zero_add] at n4
  have HQ := Lib.hid (mclone_any (h.ms.set 2 ⟨by omega, fun h => by omega⟩))
  have HQ2 := Lib.hid (mclone_any (show SetO U w.drew (c 2) (S 2) from (h.ms.set 2 ⟨by omega, fun h => by omega⟩).drew))
  have HST := Lib.hid h
  clear h
  go_enter Tryd.func57, Tryd.ntmps57
  go_wp2_with fail
  refine HQ.out.mono ?_
  rintro e w2 ⟨rfl, h2, b2⟩
  have hst2 := HST.out.below b2
  have hr := hst2.ri.own 0 (by omega)
  obtain ⟨A6, k6, hv6⟩ := row_form hr
  have n0 := (hst2.cell (i := 0) (by omega) (show 0 < 7 by omega)).trans (congrArg some (show FF 1 c vi vg 0 0 = vi 0 from rfl))
  rw [hv6] at n0
  simp only [Nat.zero_mul, Nat.zero_add, show LI [] 0 = [] from rfl, List.length_nil] at n0
  have H2 := Lib.hid h2
  have B2 := Lib.hid b2
  clear hst2 hr hv6 h2 b2 n4 HQ2
  go_wp2_with fail
  go_loopw [21] (fun iv wr => iv = .int .i64 0 ∧ wr = w2) (fun _ _ => 0)
  case atStart => exact ⟨rfl, rfl⟩
  case round =>
  obtain ⟨rfl, rfl⟩ := hrel
  go_wp2_with fail
  go_ret
  exact ⟨_, rfl, Nat.le_refl _, H2.out, B2.out⟩
set_option maxRecDepth 100000 in
set_option maxHeartbeats 8000000 in
theorem at1_out {U : List Wd} (lo hi : Nat) (w : World) (cs : List Value) (f : Api.Func) (b : Api.Block) (hf : FuncC lo hi w cs f) (hh : hi ≤ w.heap.size) (ho : OneB U f b) (k : Nat) (hk : b.code.length < k) (hk9 : k ≤ 1000000000000) :
    Calls Tryd.prog 34 #[.agg cs.toArray, .int .i64 0, .int .i64 (k : Int)] w fun e w' => e = .returned (.slice none 0 0) ∧ Below w.heap.size w w' := by
  obtain ⟨u1, u2, u3, rfl, kp, kv, kb⟩ := hf
  obtain ⟨nm, rs, ps, vs, bl⟩ := f
  have hbl := ho.bl
  simp only at kp kv kb hbl
  subst hbl
  obtain ⟨A1, k1, rfl⟩ := kp.form
  obtain ⟨A2, k2, rfl⟩ := kv.form
  obtain ⟨A3, k3, rfl⟩ := kb.form
  obtain ⟨b3, o3, rfl, hb3, cs3, hcl3, hcs3, x1, x2, cs4, e4, kph, kco, x4, e5, kto⟩ := row_at kb (show [b][0]? = some b from rfl)
  subst e5
  subst e4
  obtain ⟨A5, k5, rfl⟩ := Row.form kco
  have hbx : Below w.heap.size w (w.alloc (.cells #[str nm, str rs, .slice A1 ps.length k1, .slice A2 vs.length k2, .slice (some ⟨b3, o3, none⟩) 1 k3] 37)) := (Below.refl _ _).alloc (Nat.le_refl _) _
  have HBX := Lib.hid hbx
  obtain ⟨m0, m1, m2, m3, m4, m5, m6, m7, m8⟩ := at9 (cells_later hcs3 (hbx.mono hh) hb3)
  simp only [List.length_singleton, Nat.zero_mul, Nat.add_zero] at m0 m1 m2 m3 m4 m5 m6 m7 m8
  have e1 : ¬ ((k : Int) < 0) := by omega
  have e2 : decide ((k : Int) < 0) = false := decide_eq_false e1
  have e3 : (b.code.length : Int) < (k : Int) := by omega
  have e4 : decide ((b.code.length : Int) < (k : Int)) = true := decide_eq_true e3
  clear hcs3 kp kv kb kph kco kto hbx
  go_enter Tryd.func34, Tryd.ntmps34
  go_wp2_with fail
  go_ret
  exact ⟨rfl, HBX.out⟩
theorem step_backT {code : List Instr} {T E : Wd → Bool} {pre : List Nat} {x j : Nat} {y : Instr} (hy : code[j]? = some y) (hj : code.length - 1 - x = j)
    (h : pre = List.range pre.length → pre.length ≤ code.length → T = backL (code.drop (code.length - pre.length)) E) :
    pre ++ [x] = List.range (pre ++ [x]).length → (pre ++ [x]).length ≤ code.length → backI y T = backL (code.drop (code.length - (pre ++ [x]).length)) E := fun a c =>
  (step_back (X := orS (fun _ => false) (setsL (code.drop (code.length - pre.length)))) (S := fun _ => false) hy hj (fun a c => ⟨h a c, fun _ => rfl⟩) a c).1
theorem sub_row {lo hi : Nat} {w : World} {n cap k : Nat} {A : Option Addr} {l : List Instr} (h : Instrs lo hi w (.slice A n cap) l) (hk : k ≤ l.length) (hkc : k < cap) : Instrs lo hi w (.slice (A.map fun x => x.add (k * 6)) (n - k) (cap - k)) (l.drop k) := by
  obtain ⟨b', o', hn, hm, ha, hc⟩ := h.get
  have hcp := Row.cap h
  refine ⟨_, _, _, b', o' + k * 6, rfl, by rw [List.length_drop, hn], ⟨by omega, by omega⟩, fun h0 => ?_, fun i x hx => ?_⟩
  · obtain ⟨e, h1, h2⟩ := ha (by omega)
    subst e
    refine ⟨?_, h1, h2⟩
    simp only [Option.map_some, Addr.add]
    split <;> simp_all
  · rw [List.getElem?_drop] at hx
    have hl := (List.getElem?_eq_some_iff.1 hx).1
    obtain ⟨cs, q1, q2, q3⟩ := hc (k + i) x hx
    exact ⟨cs, q1, fun j u hj => by rw [show o' + k * 6 + i * 6 + j = o' + (k + i) * 6 + j by omega]; exact q2 j u hj, q3⟩
theorem nil_row {lo hi : Nat} {w : World} (A : Option Addr) (l : List Instr) (hl : l = []) : Instrs lo hi w (.slice A 0 0) l := by
  subst hl
  exact ⟨A, 0, 0, 0, 0, rfl, rfl, by omega, fun h => absurd h (by omega), fun i x h => by simp at h⟩
set_option maxRecDepth 100000 in
set_option maxHeartbeats 8000000 in
theorem at1_any {U : List Wd} (hU : UOk U) (lo hi : Nat) (w : World) (cs : List Value) (f : Api.Func) (b : Api.Block) (hf : FuncC lo hi w cs f) (hh : hi ≤ w.heap.size) (ho : OneB U f b) (k : Nat) (hk : k ≤ b.code.length) :
    Calls Tryd.prog 34 #[.agg cs.toArray, .int .i64 0, .int .i64 (k : Int)] w (RiseP (backL (b.code.drop k) (fun y => decide (y ∈ usesT b.fin))) w) := by
  have hf0 := hf
  obtain ⟨u1, u2, u3, rfl, kp, kv, kb⟩ := hf
  obtain ⟨nm, rs, ps, vs, bl⟩ := f
  have hbl := ho.bl
  simp only at kp kv kb hbl
  subst hbl
  obtain ⟨A1, k1, rfl⟩ := kp.form
  obtain ⟨A2, k2, rfl⟩ := kv.form
  obtain ⟨A3, k3, rfl⟩ := kb.form
  obtain ⟨b3, o3, rfl, hb3, cs3, hcl3, hcs3, hbc⟩ := row_at kb (show [b][0]? = some b from rfl)
  have hbx : Below w.heap.size w (w.alloc (.cells #[str nm, str rs, .slice A1 ps.length k1, .slice A2 vs.length k2, .slice (some ⟨b3, o3, none⟩) 1 k3] 37)) := (Below.refl _ _).alloc (Nat.le_refl _) _
  obtain ⟨W0, hW0⟩ : ∃ W0, w.alloc (.cells #[str nm, str rs, .slice A1 ps.length k1, .slice A2 vs.length k2, .slice (some ⟨b3, o3, none⟩) 1 k3] 37) = W0 := ⟨_, rfl⟩
  rw [hW0] at hbx
  have hO0 : Mem.Own W0 w.heap.size 37 [str nm, str rs, .slice A1 ps.length k1, .slice A2 vs.length k2, .slice (some ⟨b3, o3, none⟩) 1 k3] := by rw [← hW0]; exact Mem.Own.made w _ _
  have HO0 := Lib.hid hO0
  have HBX := Lib.hid hbx
  have HW0 := Lib.hid hW0
  have HF := Lib.hid hf0
  have HCL := Lib.hid hcs3
  obtain ⟨x1, x2, cs4, rfl, kph, kco, x4, rfl, kto⟩ := hbc
  obtain ⟨A5, k5, rfl⟩ := Row.form kco
  have hcap := Row.cap kco
  have hlt0 := hO0.lt
  have HKO := Lib.hid kco
  have hk9 := ho.cl
  have m0 := (at9 (cells_later hcs3 (hbx.mono hh) hb3)).2.2.1
  simp only [Nat.zero_mul, Nat.add_zero] at m0
  have e1 : ¬ ((k : Int) < 0) := by omega
  have e2 : decide ((k : Int) < 0) = false := decide_eq_false e1
  have e3 : ¬ ((b.code.length : Int) < (k : Int)) := by omega
  have e4 : decide ((b.code.length : Int) < (k : Int)) = false := decide_eq_false e3
  have HQ1 := Lib.hid (follow1_any hU lo hi W0 _ _ b (FuncC.move (Still.of_below (hbx.mono hh)) hf0) (Nat.le_trans hh hbx.size) ho)
  have f4 := hO0.cell 4
  have f0 := hO0.cell 0
  have f1 := hO0.cell 1
  have f2 := hO0.cell 2
  have f3 := hO0.cell 3
  simp only [List.getElem?_cons_zero, List.getElem?_cons_succ] at f0 f1 f2 f3 f4
  clear hf0 kp kv kb kph kco kto hbx hO0 hcs3
  refine (callsIn_wide (n := 4)).1 ?_
  refine callsIn_of_wp_marks Tryd.func34 rfl trivial ?_ rfl
  simp only [Tryd.ntmps34, List.size_toArray, List.length_cons, List.length_nil, Nat.reduceAdd, Nat.reduceSub, Array.replicate_succ, Array.replicate_zero, List.push_toArray, List.append_toArray, List.nil_append, List.cons_append]
  refine wpIn_wide.2 ?_
  go_wp2_with fail
  refine HQ1.out.mono ?_
  rintro e w1 ⟨B, c, S, vi, vg, gr, rfl, hst1, hS2, hb1⟩
  have hbs : W0.heap.size ≤ w1.heap.size := hb1.size
  have HQ2 := Lib.hid (last1_any hst1 hbs)
  have HB1 := Lib.hid (HBX.out.trans (hb1.mono HBX.out.size))
  have HO1 := Lib.hid (HO0.out.below hb1 hlt0)
  have HS2 := Lib.hid hS2
  clear hst1 hb1 f0 f1 f2 f3 f4 m0 hS2
  go_wp2_with fail
  refine HQ2.out.mono ?_
  rintro e w2 ⟨g, rfl, hg, hs2, hb2⟩
  have hb12 : w1.heap.size ≤ w2.heap.size := hb2.size
  have HG2 := Lib.hid (show SetO U w2 g (fun y => decide (y ∈ usesT b.fin)) from by rw [← HS2.out]; exact hs2)
  have HB2 := Lib.hid (HB1.out.trans (hb2.mono HB1.out.size))
  have HO2 := Lib.hid (HO1.out.below hb2 HO1.out.lt)
  have hgl : g < w2.heap.size := hs2.lt
  have f4 := HO2.out.cell 4
  have m0 := (at9 (cells_later HCL.out (HB2.out.mono hh) hb3)).2.2.1
  simp only [Nat.zero_mul, Nat.add_zero, List.getElem?_cons_zero, List.getElem?_cons_succ] at f4 m0
  have hwlt : w.heap.size < w2.heap.size := HO2.out.lt
  have hb3lt : b3 < w2.heap.size := by omega
  have hne1 : ¬ (w.heap.size = w2.heap.size) := by omega
  have hne2 : ¬ (b3 = w2.heap.size) := by omega
  clear hs2 hb2
  have hkl : (k : Int) ≤ (b.code.length : Int) := by omega
  have hkc : (b.code.length : Int) ≤ (k5 : Int) := by omega
  obtain ⟨L, hL⟩ : ∃ L, b.code.drop k = L := ⟨_, rfl⟩
  have HLL := Lib.hid hL
  clear hL
  by_cases hc : k < k5
  · have hc2 : (k : Int) < (k5 : Int) := by omega
    have HRW := Lib.hid (show Instrs lo hi w (.slice (A5.map fun x => x.add (k * 6)) (b.code.length - k) (k5 - k)) L from by rw [← HLL.out]; exact sub_row HKO.out hk hc)
    go_wp2_with fail
    generalize (Option.map (fun x => Addr.add x (k * 6)) A5) = A9 at HRW ⊢
    have hrow : Instrs lo hi w (.slice A9 (b.code.length - k) (k5 - k)) L := HRW.out
    have HNL := Lib.hid (show (b.code.length - k) = L.length by obtain ⟨_, _, h, _⟩ := Row.get hrow; exact h)
    have hLx : ∀ i ∈ L, i ∈ b.code := fun i hi => by rw [← HLL.out] at hi; exact List.mem_of_mem_drop hi
    have hLl : L.length ≤ 1000000000000 := by rw [← HLL.out, List.length_drop]; omega
    obtain ⟨fI, hf6, hfc⟩ := instr_fun hrow
    have HF6 := Lib.hid hf6
    have HFC := Lib.hid hfc
    have HLX := Lib.hid hLx
    obtain ⟨W3, hW3⟩ : ∃ W3, w2.alloc (.cells #[.map (some g)] 94) = W3 := ⟨_, rfl⟩
    have HS3 := Lib.hid (show W3.heap.size = w2.heap.size + 1 by rw [← hW3]; simp)
    have HB3 := Lib.hid (show Below w2.heap.size w2 W3 by rw [← hW3]; exact (Below.refl _ _).alloc (Nat.le_refl _) _)
    have HX3 := Lib.hid (show Mem.Own W3 w2.heap.size 94 [.map (some g)] by rw [← hW3]; exact Mem.Own.made w2 _ _)
    have HG3 := Lib.hid (HG2.out.below HB3.out hgl)
    rw [hW3]
    clear hW3 hrow hf6 hfc hLx f4 m0
    refine ((callsIn_wide (n := 2)).1 (backward_in Fence.wide 2 trivial rfl A9 (b.code.length - k) (k5 - k) W3)).mono ?_
    rintro e w7 ⟨rfl, rfl⟩
    obtain ⟨W7, hW7⟩ : ∃ W7, W3.alloc (.cells #[.slice A9 (b.code.length - k) (k5 - k)] 58) = W7 := ⟨_, rfl⟩
    have HS7 := Lib.hid (show W7.heap.size = W3.heap.size + 1 by rw [← hW7]; simp)
    have HB7 := Lib.hid (show Below W3.heap.size W3 W7 by rw [← hW7]; exact (Below.refl _ _).alloc (Nat.le_refl _) _)
    have HX7 := Lib.hid (show Mem.Own W7 W3.heap.size 58 [.slice A9 (b.code.length - k) (k5 - k)] by rw [← hW7]; exact Mem.Own.made W3 _ _)
    have HXS := Lib.hid (HX3.out.below HB7.out (by have := HS3.out; omega))
    have HG7 := Lib.hid (HG3.out.below HB7.out (by have := HS3.out; omega))
    have HBW7 := Lib.hid (HB2.out.trans (((HB3.out.mono (by omega)).trans (HB7.out.mono (by have := HS3.out; omega)))))
    rw [hW7]
    clear hW7
    go_wp2_with fail
    have hsz : hi ≤ w.heap.size ∧ w.heap.size ≤ W7.heap.size ∧ g < W7.heap.size ∧ hi ≤ g := ⟨hh, by have := HS7.out; have := HS3.out; omega, by have := HS7.out; have := HS3.out; omega, by omega⟩
    have HFW := Lib.hid (show ∀ (W : World), Below hi W7 W → ∀ k x, L[k]? = some x → ∃ b' o, A9 = some ⟨b', o, none⟩ ∧ b' < hi ∧ (∀ j u, (fI k)[j]? = some u → W.cell? ⟨b', o + k * 6 + j, none⟩ = some u) ∧ InstrC lo hi W (fI k) x from fun W hbw k x hx => by
      have hall : Below hi w W := (HBW7.out.mono hh).trans hbw
      obtain ⟨b', o, e1, e2, e3, e4⟩ := HFC.out k x hx
      exact ⟨b', o, e1, e2, cells_later e3 hall e2, InstrC.move (Still.of_below hall) e4⟩)
    generalize hfr : Go.Act.mk _ _ = fr
    have hg23 : fr.eval (.tmp 46) = .func (.func 89) #[] #[.pointer (some ⟨W3.heap.size, 0, none⟩)] := by rw [← hfr, show W3.heap.size = w2.heap.size + 1 from HS3.out]; rfl
    refine (wpIn_wide (n := 3)).1 ?_
    refine' wpIn_rangeFunc_ownH rfl (by omega) (gf := 89) (lb := #[.pointer (some ⟨W3.heap.size, 0, none⟩)]) hg23 trivial (enters_of Tryd.func89 (by kernel_rfl) rfl)
      (backward_stops Fence.wide 2 trivial rfl (by omega) W3.heap.size lo hi hi A9 (k5 - k) L fI hLl (Nat.le_refl _) W7 (by have := HS7.out; omega) (by omega) (by rw [← HNL.out]; exact HX7.out.cell 0) (HFW.out W7 (Below.refl _ _)))
      Kpb.trans ?hkb (Below.refl _ _) (fun _ => rfl)
      (fun pre W => ∃ T, SetO U W g T ∧ (pre = List.range pre.length → pre.length ≤ L.length → T = backL (L.drop (L.length - pre.length)) (fun y => decide (y ∈ usesT b.fin))) ∧ Mem.Own W w2.heap.size 94 [.map (some g)] ∧ Below w.heap.size w W ∧ Below hi W7 W)
      (fun _ _ _ => False) ?hI (fun _ _ _ _ _ h _ _ => h.elim) ?h0
      (fun x a' W => ∃ Bx, W7.heap.size ≤ Bx ∧ Mem.Own W Bx 72 (fI (L.length - 1 - x)) ∧ a' = { tmps := ((fr.tmps.setIfInBounds 47 (.int .i64 ((L.length - 1 - x : Nat) : Int))).setIfInBounds 48 (.agg (fI (L.length - 1 - x)).toArray)).setIfInBounds 9 (.pointer (some ⟨Bx, 0, none⟩)), defers := [] })
      ?hAx ?assign ?body ?done ?stop
    case hkb =>
      intro W l o o' hl h h1 h2
      exact ⟨belowK_b (w := W7) (by omega) W l o o' hl h h1 h2, World.putObj_heap_other (by have := HS7.out; omega)⟩
    case hI =>
      rintro s A' Bw row ⟨T, q1, q2, q3, q4, q5⟩ hg9 hr
      refine ⟨T, q1.grown hg9 (fun e => ?_), q2, own_walk q3 hg9 (fun r e => (hr r e).2), q4.grown hg9 q4.size (fun r e => by have := (hr r e).1; omega), q5.grown hg9 (by have := q5.size; omega) (fun r e => by have := (hr r e).1; omega)⟩
      have := (hr g e.symm).1
      omega
    case stop =>
      rintro D c9 pre W hD _ h
      exact h.elim
    case hAx =>
      rintro x a' s A' Bw row ⟨Bx, hB, hO, e⟩ hg9 hr
      exact ⟨Bx, hB, own_walk hO hg9 (fun r e => (hr r e).2), e⟩
    case h0 =>
      refine ⟨fun y => decide (y ∈ usesT b.fin), HG7.out, fun _ _ => ?_, HXS.out, HBW7.out, Below.refl _ _⟩
      simp [backL]
    case assign =>
      rintro l pre x W K hi9 hK
      obtain ⟨a9, s9, t9, A91, A92, A93, n91, c91, n92, c92, n93, c93, e9⟩ := HF6.out (L.length - 1 - x)
      obtain ⟨T, q1, q2, q3, q4, q5⟩ := hi9
      subst hfr
      unfold bkA
      rw [e9]
      have HK9 := Lib.hid hK
      clear hK
      gi_wp2
      refine HK9.out _ _ ((KeepsOthers.alloc _ _).from _) ⟨(Below.refl hi W).alloc (by have := q5.size; omega) _, Below.heap_alloc W _ _ (by have := q5.size; have := HS7.out; omega)⟩ ⟨T, q1.alloc _, q2, q3.alloc _, q4.alloc q4.size _, q5.alloc (by have := q5.size; omega) _⟩ ⟨W.heap.size, q5.size, ?_, ?_⟩
      · rw [e9]
        exact Mem.Own.made W _ _
      · rw [e9]
        rfl
    case body =>
      rintro l pre x a' W hl9 ⟨r9, hr9⟩ ⟨T, q1, q2, q3, q4, q5⟩ ⟨Bx, hBx, hOx, rfl⟩ hlt
      subst hfr
      obtain ⟨j, hj⟩ : ∃ j, L.length - 1 - x = j := ⟨_, rfl⟩
      have hjl : j < L.length := by omega
      obtain ⟨y, hy⟩ : ∃ y, L[j]? = some y := ⟨_, List.getElem?_eq_getElem hjl⟩
      obtain ⟨b', o', eA, hb', hcs', u1', u2', u3', hfI, i1, i2, i3⟩ := HFW.out W q5 j y hy
      have hIC : InstrC lo hi W [i64 y.op, str y.dst, str y.name, u1', u2', u3'] y := ⟨u1', u2', u3', rfl, i1, i2, i3⟩
      rw [hj] at hOx
      rw [hj]
      rw [hfI] at hOx
      rw [hfI]
      have c0 := q3.cell 0
      have x0 := hOx.cell 0
      have x1 := hOx.cell 1
      have x2 := hOx.cell 2
      have x3 := hOx.cell 3
      have x4 := hOx.cell 4
      have x5 := hOx.cell 5
      simp only [List.getElem?_cons_zero, List.getElem?_cons_succ] at c0 x0 x1 x2 x3 x4 x5
      obtain ⟨hdU, hxU⟩ := ho.uI y (HLX.out y (List.mem_of_getElem? hy))
      have HQ := Lib.hid (goBack_any hU lo hi q1 _ y hIC (by have := q5.size; omega) (by omega) hxU (hU.nm _ hdU))
      have HQ2' := Lib.hid q2
      have HQ3 := Lib.hid q3
      have HQ4 := Lib.hid q4
      have HQ5 := Lib.hid q5
      have HY := Lib.hid hy
      have HJ := Lib.hid hj
      clear q1 q2 q3 q4 q5 hy hj hIC i1 i2 i3 hcs' hfI hOx
      gi_wp2
      refine ⟨trivial, ((CallsIn.inRound l (callsIn_wide.2 HQ.out)).mono ?_)⟩
      rintro e w5 ⟨rfl, h5, g5⟩
      have HK5 := Lib.hid (show KeepsFrom W7.heap.size W w5 from KeepsFrom.of_grownBy g5 (fun j e => by cases e; omega))
      have HP5 := Lib.hid (show Kpb hi W3.heap.size W w5 from ⟨(Below.refl hi W).grown g5 (by have := HQ5.out.size; omega) (fun j e => by cases e; omega), g5.block _ (by have := HQ5.out.size; have := HS7.out; omega) (by have := HS3.out; simp; omega)⟩)
      have HO5 := Lib.hid (own_kept HQ3.out g5 (by omega))
      have HB5 := Lib.hid (show Below w.heap.size w w5 from HQ4.out.grown g5 HQ4.out.size (fun j e => by cases e; omega))
      have HC5 := Lib.hid (show Below hi W7 w5 from HQ5.out.grown g5 (by have := HQ5.out.size; omega) (fun j e => by cases e; omega))
      have HST5 := Lib.hid h5
      have HSTEP := Lib.hid (step_backT HY.out HJ.out HQ2'.out)
      clear h5 g5
      gi_wp2
      exact ⟨HK5.out, HP5.out, _, HST5.out, HSTEP.out, HO5.out, HB5.out, HC5.out⟩
    case done =>
      rintro D xs W hD rfl ⟨T, q1, q2, q3, q4, q5⟩ hK
      subst hfr
      have hfin := q2 (by rw [List.length_range]) (by rw [List.length_range]; exact Nat.le_refl _)
      rw [List.length_range, Nat.sub_self, List.drop_zero] at hfin
      have c0 := q3.cell 0
      simp only [List.getElem?_cons_zero] at c0
      have HR := Lib.hid (rising_any hU q1)
      have HQ4 := Lib.hid q4
      have HFIN := Lib.hid hfin
      have HKD := Lib.hid hK
      have hDl : D < W.heap.size := by
        by_cases hh9 : D < W.heap.size
        · exact hh9
        · rw [Array.getElem?_eq_none (by omega)] at hK
          cases hK
      clear q1 q2 q3 q4 q5 hfin hK
      go_wp2_with fail
      refine HR.out.mono ?_
      rintro e w9 ⟨v9, r9, rfl, h1, h2, h3, h4, h5⟩
      obtain ⟨A9', c9', rfl⟩ := row_form h3
      have hK' : w9.heap[D]? = some (.deferred (some [])) := (h5.block D hDl).trans HKD.out
      have gd := grownBy_putObj' w9 D (.deferred none)
      have H1 := Lib.hid h1
      have H2 := Lib.hid h2
      have H3 := Lib.hid (row_other h3 gd (notT_walk ⟨_, hK', rfl⟩ _))
      have H4 := Lib.hid h4
      have H5 := Lib.hid (show Below w.heap.size w (w9.putObj D (.deferred none)) from (HQ4.out.trans (h5.mono HQ4.out.size)).grown gd (Nat.le_trans HQ4.out.size h5.size) (fun j e => by cases e; omega))
      have HKK := Lib.hid hK'
      clear h1 h2 h3 h4 h5 hK' gd
      go_wp2_with fail
      refine ⟨by simp, .inl ⟨_, _, rfl, run_takeDeferred HKK.out, ?_⟩⟩
      refine ⟨.slice A9' r9.length c9', ?_, _, r9, rfl, H1.out, ?_, ownsRow_base_a H3.out HQ4.out.size, H4.out, H5.out⟩
      · simp [results, Tryd.f34, go_sem]
      · rw [HLL.out, ← HFIN.out]
        exact H2.out
  · have hk5 : k5 = k := by omega
    have hbk : b.code.length = k := by omega
    have HRW := Lib.hid (show Instrs lo hi w (.slice A5 0 0) L from nil_row A5 L (by rw [← HLL.out]; exact List.drop_of_length_le (by omega)))
    subst hk5
    rw [hbk] at *
    go_wp2_with fail
    have hrow : Instrs lo hi w (.slice A5 0 0) L := HRW.out
    have HNL := Lib.hid (show 0 = L.length by obtain ⟨_, _, h, _⟩ := Row.get hrow; exact h)
    have hLx : ∀ i ∈ L, i ∈ b.code := fun i hi => by rw [← HLL.out] at hi; exact List.mem_of_mem_drop hi
    have hLl : L.length ≤ 1000000000000 := by rw [← HLL.out, List.length_drop]; omega
    obtain ⟨fI, hf6, hfc⟩ := instr_fun hrow
    have HF6 := Lib.hid hf6
    have HFC := Lib.hid hfc
    have HLX := Lib.hid hLx
    obtain ⟨W3, hW3⟩ : ∃ W3, w2.alloc (.cells #[.map (some g)] 94) = W3 := ⟨_, rfl⟩
    have HS3 := Lib.hid (show W3.heap.size = w2.heap.size + 1 by rw [← hW3]; simp)
    have HB3 := Lib.hid (show Below w2.heap.size w2 W3 by rw [← hW3]; exact (Below.refl _ _).alloc (Nat.le_refl _) _)
    have HX3 := Lib.hid (show Mem.Own W3 w2.heap.size 94 [.map (some g)] by rw [← hW3]; exact Mem.Own.made w2 _ _)
    have HG3 := Lib.hid (HG2.out.below HB3.out hgl)
    rw [hW3]
    clear hW3 hrow hf6 hfc hLx f4 m0
    refine ((callsIn_wide (n := 2)).1 (backward_in Fence.wide 2 trivial rfl A5 0 0 W3)).mono ?_
    rintro e w7 ⟨rfl, rfl⟩
    obtain ⟨W7, hW7⟩ : ∃ W7, W3.alloc (.cells #[.slice A5 0 0] 58) = W7 := ⟨_, rfl⟩
    have HS7 := Lib.hid (show W7.heap.size = W3.heap.size + 1 by rw [← hW7]; simp)
    have HB7 := Lib.hid (show Below W3.heap.size W3 W7 by rw [← hW7]; exact (Below.refl _ _).alloc (Nat.le_refl _) _)
    have HX7 := Lib.hid (show Mem.Own W7 W3.heap.size 58 [.slice A5 0 0] by rw [← hW7]; exact Mem.Own.made W3 _ _)
    have HXS := Lib.hid (HX3.out.below HB7.out (by have := HS3.out; omega))
    have HG7 := Lib.hid (HG3.out.below HB7.out (by have := HS3.out; omega))
    have HBW7 := Lib.hid (HB2.out.trans (((HB3.out.mono (by omega)).trans (HB7.out.mono (by have := HS3.out; omega)))))
    rw [hW7]
    clear hW7
    go_wp2_with fail
    have hsz : hi ≤ w.heap.size ∧ w.heap.size ≤ W7.heap.size ∧ g < W7.heap.size ∧ hi ≤ g := ⟨hh, by have := HS7.out; have := HS3.out; omega, by have := HS7.out; have := HS3.out; omega, by omega⟩
    have HFW := Lib.hid (show ∀ (W : World), Below hi W7 W → ∀ k x, L[k]? = some x → ∃ b' o, A5 = some ⟨b', o, none⟩ ∧ b' < hi ∧ (∀ j u, (fI k)[j]? = some u → W.cell? ⟨b', o + k * 6 + j, none⟩ = some u) ∧ InstrC lo hi W (fI k) x from fun W hbw k x hx => by
      have hall : Below hi w W := (HBW7.out.mono hh).trans hbw
      obtain ⟨b', o, e1, e2, e3, e4⟩ := HFC.out k x hx
      exact ⟨b', o, e1, e2, cells_later e3 hall e2, InstrC.move (Still.of_below hall) e4⟩)
    generalize hfr : Go.Act.mk _ _ = fr
    have hg23 : fr.eval (.tmp 46) = .func (.func 89) #[] #[.pointer (some ⟨W3.heap.size, 0, none⟩)] := by rw [← hfr, show W3.heap.size = w2.heap.size + 1 from HS3.out]; rfl
    refine (wpIn_wide (n := 3)).1 ?_
    refine' wpIn_rangeFunc_ownH rfl (by omega) (gf := 89) (lb := #[.pointer (some ⟨W3.heap.size, 0, none⟩)]) hg23 trivial (enters_of Tryd.func89 (by kernel_rfl) rfl)
      (backward_stops Fence.wide 2 trivial rfl (by omega) W3.heap.size lo hi hi A5 0 L fI hLl (Nat.le_refl _) W7 (by have := HS7.out; omega) (by omega) (by rw [← HNL.out]; exact HX7.out.cell 0) (HFW.out W7 (Below.refl _ _)))
      Kpb.trans ?hkb (Below.refl _ _) (fun _ => rfl)
      (fun pre W => ∃ T, SetO U W g T ∧ (pre = List.range pre.length → pre.length ≤ L.length → T = backL (L.drop (L.length - pre.length)) (fun y => decide (y ∈ usesT b.fin))) ∧ Mem.Own W w2.heap.size 94 [.map (some g)] ∧ Below w.heap.size w W ∧ Below hi W7 W)
      (fun _ _ _ => False) ?hI (fun _ _ _ _ _ h _ _ => h.elim) ?h0
      (fun x a' W => ∃ Bx, W7.heap.size ≤ Bx ∧ Mem.Own W Bx 72 (fI (L.length - 1 - x)) ∧ a' = { tmps := ((fr.tmps.setIfInBounds 47 (.int .i64 ((L.length - 1 - x : Nat) : Int))).setIfInBounds 48 (.agg (fI (L.length - 1 - x)).toArray)).setIfInBounds 9 (.pointer (some ⟨Bx, 0, none⟩)), defers := [] })
      ?hAx ?assign ?body ?done ?stop
    case hkb =>
      intro W l o o' hl h h1 h2
      exact ⟨belowK_b (w := W7) (by omega) W l o o' hl h h1 h2, World.putObj_heap_other (by have := HS7.out; omega)⟩
    case hI =>
      rintro s A' Bw row ⟨T, q1, q2, q3, q4, q5⟩ hg9 hr
      refine ⟨T, q1.grown hg9 (fun e => ?_), q2, own_walk q3 hg9 (fun r e => (hr r e).2), q4.grown hg9 q4.size (fun r e => by have := (hr r e).1; omega), q5.grown hg9 (by have := q5.size; omega) (fun r e => by have := (hr r e).1; omega)⟩
      have := (hr g e.symm).1
      omega
    case stop =>
      rintro D c9 pre W hD _ h
      exact h.elim
    case hAx =>
      rintro x a' s A' Bw row ⟨Bx, hB, hO, e⟩ hg9 hr
      exact ⟨Bx, hB, own_walk hO hg9 (fun r e => (hr r e).2), e⟩
    case h0 =>
      refine ⟨fun y => decide (y ∈ usesT b.fin), HG7.out, fun _ _ => ?_, HXS.out, HBW7.out, Below.refl _ _⟩
      simp [backL]
    case assign =>
      rintro l pre x W K hi9 hK
      obtain ⟨a9, s9, t9, A91, A92, A93, n91, c91, n92, c92, n93, c93, e9⟩ := HF6.out (L.length - 1 - x)
      obtain ⟨T, q1, q2, q3, q4, q5⟩ := hi9
      subst hfr
      unfold bkA
      rw [e9]
      have HK9 := Lib.hid hK
      clear hK
      gi_wp2
      refine HK9.out _ _ ((KeepsOthers.alloc _ _).from _) ⟨(Below.refl hi W).alloc (by have := q5.size; omega) _, Below.heap_alloc W _ _ (by have := q5.size; have := HS7.out; omega)⟩ ⟨T, q1.alloc _, q2, q3.alloc _, q4.alloc q4.size _, q5.alloc (by have := q5.size; omega) _⟩ ⟨W.heap.size, q5.size, ?_, ?_⟩
      · rw [e9]
        exact Mem.Own.made W _ _
      · rw [e9]
        rfl
    case body =>
      rintro l pre x a' W hl9 ⟨r9, hr9⟩ ⟨T, q1, q2, q3, q4, q5⟩ ⟨Bx, hBx, hOx, rfl⟩ hlt
      subst hfr
      obtain ⟨j, hj⟩ : ∃ j, L.length - 1 - x = j := ⟨_, rfl⟩
      have hjl : j < L.length := by omega
      obtain ⟨y, hy⟩ : ∃ y, L[j]? = some y := ⟨_, List.getElem?_eq_getElem hjl⟩
      obtain ⟨b', o', eA, hb', hcs', u1', u2', u3', hfI, i1, i2, i3⟩ := HFW.out W q5 j y hy
      have hIC : InstrC lo hi W [i64 y.op, str y.dst, str y.name, u1', u2', u3'] y := ⟨u1', u2', u3', rfl, i1, i2, i3⟩
      rw [hj] at hOx
      rw [hj]
      rw [hfI] at hOx
      rw [hfI]
      have c0 := q3.cell 0
      have x0 := hOx.cell 0
      have x1 := hOx.cell 1
      have x2 := hOx.cell 2
      have x3 := hOx.cell 3
      have x4 := hOx.cell 4
      have x5 := hOx.cell 5
      simp only [List.getElem?_cons_zero, List.getElem?_cons_succ] at c0 x0 x1 x2 x3 x4 x5
      obtain ⟨hdU, hxU⟩ := ho.uI y (HLX.out y (List.mem_of_getElem? hy))
      have HQ := Lib.hid (goBack_any hU lo hi q1 _ y hIC (by have := q5.size; omega) (by omega) hxU (hU.nm _ hdU))
      have HQ2' := Lib.hid q2
      have HQ3 := Lib.hid q3
      have HQ4 := Lib.hid q4
      have HQ5 := Lib.hid q5
      have HY := Lib.hid hy
      have HJ := Lib.hid hj
      clear q1 q2 q3 q4 q5 hy hj hIC i1 i2 i3 hcs' hfI hOx
      gi_wp2
      refine ⟨trivial, ((CallsIn.inRound l (callsIn_wide.2 HQ.out)).mono ?_)⟩
      rintro e w5 ⟨rfl, h5, g5⟩
      have HK5 := Lib.hid (show KeepsFrom W7.heap.size W w5 from KeepsFrom.of_grownBy g5 (fun j e => by cases e; omega))
      have HP5 := Lib.hid (show Kpb hi W3.heap.size W w5 from ⟨(Below.refl hi W).grown g5 (by have := HQ5.out.size; omega) (fun j e => by cases e; omega), g5.block _ (by have := HQ5.out.size; have := HS7.out; omega) (by have := HS3.out; simp; omega)⟩)
      have HO5 := Lib.hid (own_kept HQ3.out g5 (by omega))
      have HB5 := Lib.hid (show Below w.heap.size w w5 from HQ4.out.grown g5 HQ4.out.size (fun j e => by cases e; omega))
      have HC5 := Lib.hid (show Below hi W7 w5 from HQ5.out.grown g5 (by have := HQ5.out.size; omega) (fun j e => by cases e; omega))
      have HST5 := Lib.hid h5
      have HSTEP := Lib.hid (step_backT HY.out HJ.out HQ2'.out)
      clear h5 g5
      gi_wp2
      exact ⟨HK5.out, HP5.out, _, HST5.out, HSTEP.out, HO5.out, HB5.out, HC5.out⟩
    case done =>
      rintro D xs W hD rfl ⟨T, q1, q2, q3, q4, q5⟩ hK
      subst hfr
      have hfin := q2 (by rw [List.length_range]) (by rw [List.length_range]; exact Nat.le_refl _)
      rw [List.length_range, Nat.sub_self, List.drop_zero] at hfin
      have c0 := q3.cell 0
      simp only [List.getElem?_cons_zero] at c0
      have HR := Lib.hid (rising_any hU q1)
      have HQ4 := Lib.hid q4
      have HFIN := Lib.hid hfin
      have HKD := Lib.hid hK
      have hDl : D < W.heap.size := by
        by_cases hh9 : D < W.heap.size
        · exact hh9
        · rw [Array.getElem?_eq_none (by omega)] at hK
          cases hK
      clear q1 q2 q3 q4 q5 hfin hK
      go_wp2_with fail
      refine HR.out.mono ?_
      rintro e w9 ⟨v9, r9, rfl, h1, h2, h3, h4, h5⟩
      obtain ⟨A9', c9', rfl⟩ := row_form h3
      have hK' : w9.heap[D]? = some (.deferred (some [])) := (h5.block D hDl).trans HKD.out
      have gd := grownBy_putObj' w9 D (.deferred none)
      have H1 := Lib.hid h1
      have H2 := Lib.hid h2
      have H3 := Lib.hid (row_other h3 gd (notT_walk ⟨_, hK', rfl⟩ _))
      have H4 := Lib.hid h4
      have H5 := Lib.hid (show Below w.heap.size w (w9.putObj D (.deferred none)) from (HQ4.out.trans (h5.mono HQ4.out.size)).grown gd (Nat.le_trans HQ4.out.size h5.size) (fun j e => by cases e; omega))
      have HKK := Lib.hid hK'
      clear h1 h2 h3 h4 h5 hK' gd
      go_wp2_with fail
      refine ⟨by simp, .inl ⟨_, _, rfl, run_takeDeferred HKK.out, ?_⟩⟩
      refine ⟨.slice A9' r9.length c9', ?_, _, r9, rfl, H1.out, ?_, ownsRow_base_a H3.out HQ4.out.size, H4.out, H5.out⟩
      · simp [results, Tryd.f34, go_sem]
      · rw [HLL.out, ← HFIN.out]
        exact H2.out
end Go.Proofs.YtdgmdpphimenjaaDoor.Lv12

/-
  Layer 12: the document's rising lists.
-/
namespace Go.Proofs.YtdgmdpphimenjaaDoor.Lv12
open Go.RowKit Api Mem Sh8 Go.Maps

theorem texts_own {w : World} {base n : Nat} {v : Value} {r : List Wd} (h : w.ownsRow base 9 1 v n (r.map str)) (hn : n = r.length) (hl : r.length ≤ 4611686018427387903) : Texts base w.heap.size w v r := by
  subst hn
  rcases h.2 with ⟨e, h0⟩ | ⟨g, cap, cur, e, hb, hg, h1, _⟩
  · have : r = [] := List.eq_nil_of_length_eq_zero h0
    subst this
    exact ⟨none, 0, 0, 0, 0, e, rfl, by omega, fun h => absurd h (by omega), fun i x h => by simp at h⟩
  · refine ⟨_, r.length, cap, g, 0, e, rfl, ⟨hl, h1⟩, fun _ => ⟨rfl, hb, (Array.getElem?_eq_some_iff.1 hg).1⟩, fun i x hx => ⟨[str x], rfl, fun j u hj => ?_, rfl⟩⟩
    cases j with
    | zero =>
      simp at hj
      subst hj
      subst e
      have := own_at h (show (r.map str)[i]? = some (str x) by rw [List.getElem?_map, hx]; rfl)
      simpa using this
    | succ j => simp at hj
set_option maxRecDepth 100000 in
set_option maxHeartbeats 8000000 in
theorem same12_any (lo hi lo2 hi2 : Nat) (w : World) (va vb : Value) (a b : List Wd) (ha : Texts lo hi w va a) (hb : Texts lo2 hi2 w vb b) (hh : hi ≤ w.heap.size) (hh2 : hi2 ≤ w.heap.size) :
    Calls Tryd.prog 33 #[va, vb] w (Fl9.BP9 (a = b) w) := by
  obtain ⟨A1, k1, rfl⟩ := Row.form ha
  obtain ⟨A2, k2, rfl⟩ := Row.form hb
  have hla : a.length ≤ 4611686018427387903 := by obtain ⟨_, _, _, h, _⟩ := Row.get ha; exact h
  have HA := Lib.hid ha
  have HB := Lib.hid hb
  clear ha hb
  by_cases hl : a.length = b.length
  · have e0 : ((a.length : Int) == (b.length : Int)) = true := by rw [hl]; simp
    have HL := Lib.hid hl
    clear hl
    go_enter Tryd.func33, Tryd.ntmps33
    go_wp2_with fail
    go_loopw [5] (fun i wr => ∃ k : Nat, k ≤ a.length ∧ i = .int .i64 k ∧ Hid (a.take k = b.take k) ∧ Hid (Below w.heap.size w wr)) (fun i _ => a.length - (intOf i).toNat)
    case atStart => exact ⟨0, Nat.zero_le _, rfl, Lib.hid (by simp), Lib.hid (Below.refl _ _)⟩
    case round =>
    obtain ⟨k, hk, rfl, HK, HBr⟩ := hrel
    by_cases hlt : k < a.length
    · have hlb : k < b.length := by have := HL.out; omega
      obtain ⟨x, hx⟩ : ∃ x, a[k]? = some x := ⟨_, List.getElem?_eq_getElem hlt⟩
      obtain ⟨y, hy⟩ : ∃ y, b[k]? = some y := ⟨_, List.getElem?_eq_getElem hlb⟩
      obtain ⟨b1, o1, rfl, hb1, cs1, hcl1, hcs1, rfl⟩ := row_at HA.out hx
      obtain ⟨b2, o2, rfl, hb2, cs2, hcl2, hcs2, rfl⟩ := row_at HB.out hy
      have m1 := cells_later hcs1 (HBr.out.mono hh) hb1 0 _ rfl
      have m2 := cells_later hcs2 (HBr.out.mono hh2) hb2 0 _ rfl
      simp only [Nat.mul_one, Nat.add_zero] at m1 m2
      have HX := Lib.hid hx
      have HY := Lib.hid hy
      clear hx hy hcs1 hcs2
      by_cases he : x = y
      · have en : (x == y) = true := by simpa using he
        have HE := Lib.hid he
        clear he
        go_wp2_with fail
        go_region
        go_wp2_with fail
        go_roundw
        case rel => exact ⟨k + 1, by omega, by go_num, Lib.hid (Fl9.take_eq HK.out HX.out HY.out HE.out), Lib.hid HBr.out.drew⟩
        case measure => simp [intOf]; omega
      · have en : (x == y) = false := by simpa using he
        have en2 : ¬ x = y := he
        have HE := Lib.hid he
        clear he
        go_wp2_with fail
        go_region
        go_wp2_with fail
        go_ret
        exact ⟨false, rfl, ⟨fun h => (by cases h), fun h => absurd h (Fl9.ne_at HX.out HY.out HE.out)⟩, HBr.out.drew⟩
    · have HF := Lib.hid (show a = b by
        have := HK.out
        have h2 := HL.out
        rwa [List.take_of_length_le (by omega), List.take_of_length_le (by omega)] at this)
      go_wp2_with fail
      go_ret
      exact ⟨true, rfl, ⟨fun _ => HF.out, fun _ => rfl⟩, HBr.out⟩
  · have e0 : ((a.length : Int) == (b.length : Int)) = false := by simp; omega
    have e1 : ¬ ((a.length : Int) = (b.length : Int)) := by omega
    have HL := Lib.hid hl
    clear hl
    go_enter Tryd.func33, Tryd.ntmps33
    go_wp2_with fail
    go_ret
    exact ⟨false, rfl, ⟨fun h => (by cases h), fun h => absurd (by rw [h]) HL.out⟩, Below.refl _ _⟩
/-- a name in a list that rises, once. -/
def putV (l : List Wd) (s : Wd) : List Wd := (l.filter fun x => decide (x < s)) ++ [s] ++ (l.filter fun x => decide (s < x))
theorem putV_mem {l : List Wd} {s y : Wd} : y ∈ putV l s ↔ y ∈ l ∨ y = s := by
  unfold putV
  simp only [List.mem_append, List.mem_filter, List.mem_singleton, decide_eq_true_eq]
  constructor
  · rintro ((⟨h, _⟩ | h) | ⟨h, _⟩)
    · exact .inl h
    · exact .inr h
    · exact .inl h
  · rintro (h | h)
    · by_cases e : y = s
      · exact .inl (.inr e)
      · by_cases e2 : y < s
        · exact .inl (.inl ⟨h, e2⟩)
        · have h3 : s ≤ y := List.not_lt.1 e2
          exact .inr ⟨h, by
            apply Classical.byContradiction
            intro h4
            exact e (List.le_antisymm (List.not_lt.1 h4) h3)⟩
    · exact .inl (.inr h)
theorem putV_rise {l : List Wd} (h : Rise l) (s : Wd) : Rise (putV l s) := by
  unfold putV
  refine ⟨?_, ?_⟩
  · rw [List.nodup_append, List.nodup_append]
    refine ⟨⟨h.nd.filter _, by simp, fun a ha b hb e => ?_⟩, h.nd.filter _, fun a ha b hb e => ?_⟩
    · rw [List.mem_singleton] at hb
      have h1 := (List.mem_filter.1 ha).2
      rw [decide_eq_true_eq, e, hb] at h1
      exact List.lt_irrefl _ h1
    · have h2 := (List.mem_filter.1 hb).2
      rw [decide_eq_true_eq] at h2
      rcases List.mem_append.1 ha with ha | ha
      · have h1 := (List.mem_filter.1 ha).2
        rw [decide_eq_true_eq, e] at h1
        exact List.lt_irrefl _ (List.lt_trans h1 h2)
      · rw [List.mem_singleton] at ha
        rw [← e, ha] at h2
        exact List.lt_irrefl _ h2
  · rw [List.pairwise_append, List.pairwise_append]
    refine ⟨⟨h.up.filter _, by simp, fun a ha b hb => ?_⟩, h.up.filter _, fun a ha b hb => ?_⟩
    · rw [List.mem_singleton] at hb
      have h1 := (List.mem_filter.1 ha).2
      rw [decide_eq_true_eq] at h1
      rw [hb]
      exact List.le_of_lt h1
    · have h2 := (List.mem_filter.1 hb).2
      rw [decide_eq_true_eq] at h2
      rcases List.mem_append.1 ha with ha | ha
      · have h1 := (List.mem_filter.1 ha).2
        rw [decide_eq_true_eq] at h1
        exact List.le_of_lt (List.lt_trans h1 h2)
      · rw [List.mem_singleton] at ha
        rw [ha]
        exact List.le_of_lt h2
theorem putV_len (l : List Wd) (s : Wd) : (putV l s).length ≤ 2 * l.length + 1 := by
  unfold putV
  simp only [List.length_append, List.length_singleton]
  have := List.length_filter_le (fun x => decide (x < s)) l
  have := List.length_filter_le (fun x => decide (s < x)) l
  omega
theorem less_iff (x y : Wd) : Op.bytesLess x y = decide (x < y) := bytesLess_eq x y
theorem info_str2 : (Tryd.prog.info? 9).map (fun i => (i.zero, i.size, i.bytes)) = some (some (.string ⟨#[]⟩), 1, 16) := by kernel_rfl
/-- new memory that holds these names. -/
def NewT (r : List Wd) (w : World) (e : Ending) (w' : World) : Prop := ∃ v, e = .returned v ∧ w'.ownsRow w.heap.size 9 1 v r.length (r.map str) ∧ Below w.heap.size w w'
end Go.Proofs.YtdgmdpphimenjaaDoor.Lv12

/-
  Layer 12: the document's list of what an instruction uses.
-/
namespace Go.Proofs.YtdgmdpphimenjaaDoor.Lv12
open Go.RowKit Api Mem Sh8 Go.Maps

def addV (r : List Wd) (a : Arg) : List Wd := if a.kind = 1 then putV r a.s else r
/-- r is the names of N, rising. -/
structure RS (r N : List Wd) : Prop where
  up : Rise r
  mem : ∀ x, x ∈ r ↔ x ∈ N
theorem RS.nil : RS [] [] := ⟨⟨List.nodup_nil, List.Pairwise.nil⟩, fun x => Iff.rfl⟩
theorem RS.add {r N : List Wd} (h : RS r N) (a : Arg) : RS (addV r a) (N ++ namesA [a]) := by
  unfold addV
  by_cases e : a.kind = 1
  · rw [if_pos e]
    refine ⟨putV_rise h.up _, fun x => ?_⟩
    rw [putV_mem, h.mem x, List.mem_append]
    simp [namesA, e]
  · rw [if_neg e]
    refine ⟨h.up, fun x => ?_⟩
    rw [h.mem x, List.mem_append]
    simp [namesA, e]
theorem RS.len {r N : List Wd} (h : RS r N) : r.length ≤ N.length := sub_len h.up.nd fun x hx => (h.mem x).1 hx
theorem take_mem {α : Type} {l : List α} {k : Nat} {x : α} (h : x ∈ l.take k) : x ∈ l := List.mem_of_mem_take h
theorem namesA_le (l : List Arg) (k : Nat) : (namesA (l.take k)).length ≤ (namesA l).length := by
  have : namesA l = namesA (l.take k) ++ namesA (l.drop k) := by rw [← namesA_app, List.take_append_drop]
  rw [this, List.length_append]
  omega
theorem namesB_le (l : List Bind) (k : Nat) : (namesB (l.take k)).length ≤ (namesB l).length := by
  unfold namesB
  rw [List.map_take]
  exact namesA_le _ _
theorem namesF_le (l : List Api.Frame) (k : Nat) : (namesF (l.take k)).length ≤ (namesF l).length := by
  have : namesF l = namesF (l.take k) ++ namesF (l.drop k) := by unfold namesF; rw [← List.flatMap_append, List.take_append_drop]
  rw [this, List.length_append]
  omega
theorem namesO_le (l : List Virt) (k : Nat) : (namesO (l.take k)).length ≤ (namesO l).length := by
  have : namesO l = namesO (l.take k) ++ namesO (l.drop k) := by unfold namesO; rw [← List.flatMap_append, List.take_append_drop]
  rw [this, List.length_append]
  omega
theorem names_le1 (x : Instr) (k : Nat) : (namesA (x.args.take k)).length ≤ (usesI x).length := by
  have := namesA_le x.args k
  unfold usesI
  simp only [List.length_append]
  omega
theorem names_le2 (x : Instr) {k : Nat} {y : Api.Frame} (hy : x.frames[k]? = some y) (j : Nat) : (namesA x.args ++ namesF (x.frames.take k) ++ namesB (y.vars.take j)).length ≤ (usesI x).length := by
  have h1 := namesB_le y.vars j
  have h2 := namesF_le x.frames (k + 1)
  rw [namesF_next hy] at h2
  unfold usesI
  simp only [List.length_append] at *
  omega
theorem names_le3 (x : Instr) {k : Nat} {y : Virt} (hy : x.objs[k]? = some y) (j : Nat) : (namesA x.args ++ namesF x.frames ++ namesO (x.objs.take k) ++ namesA (y.vals.take j)).length ≤ (usesI x).length := by
  have h1 := namesA_le y.vals j
  have h2 := namesO_le x.objs (k + 1)
  rw [namesO_next hy] at h2
  unfold usesI
  simp only [List.length_append] at *
  omega
end Go.Proofs.YtdgmdpphimenjaaDoor.Lv12

/-
  Layer 12: what is live at first places: the least that the rules ask for, and a going through that comes to it. Plain.
-/
namespace Go.Proofs.YtdgmdpphimenjaaDoor.Lv12
open Go.RowKit Api Mem Sh8 Go.Maps

/-- what is live at the first place of block i: what is needed in it, or behind it and not set on the way. -/
inductive Lv (E : List Edge) (P X G : Nat → Wd → Bool) : Nat → Wd → Prop
  | gen {i : Nat} {x : Wd} (h : G i x = true) : Lv E P X G i x
  | step {i j : Nat} {x : Wd} (he : (i, j) ∈ E) (hl : Lv E P X G j x) (hp : P j x = false) (hx : X i x = false) : Lv E P X G i x
/-- all sets, with these at first places. -/
def mix (S L : Nat → Wd → Bool) (x : Nat) : Wd → Bool := if x % 4 = 3 then L (x / 4) else S x
theorem mix_at (S L : Nat → Wd → Bool) (i : Nat) : mix S L (4 * i + 3) = L i := by
  unfold mix
  rw [if_pos (by omega), show (4 * i + 3) / 4 = i by omega]
theorem mix_ne (S L : Nat → Wd → Bool) {x : Nat} (h : x % 4 ≠ 3) : mix S L x = S x := if_neg h
theorem mix_upd (S L : Nat → Wd → Bool) (i : Nat) (T : Wd → Bool) : upd (mix S L) (4 * i + 3) T = mix S (upd L i T) := funext fun x => by
  by_cases e : x = 4 * i + 3
  · subst e
    rw [upd_at, mix_at, upd_at]
  · rw [upd_ne _ _ e]
    unfold mix
    by_cases e2 : x % 4 = 3
    · rw [if_pos e2, if_pos e2, upd_ne _ _ (by omega)]
    · rw [if_neg e2, if_neg e2]
theorem mix_self (S : Nat → Wd → Bool) : mix S (fun i => S (4 * i + 3)) = S := funext fun x => by
  unfold mix
  split
  · show S (4 * (x / 4) + 3) = S x
    rw [show 4 * (x / 4) + 3 = x by omega]
  · rfl
/-- the sources of the steps to a. -/
def srcs (E : List Edge) (a : Nat) : List Nat := (E.filter fun e => decide (e.2 = a)).map (·.1)
def dsts (E : List Edge) (a : Nat) : List Nat := (E.filter fun e => decide (e.1 = a)).map (·.2)
theorem LI_odd (E : List Edge) (a : Nat) : LI E (2 * a + 1) = (srcs E a).map (fun x : Nat => (x : Int)) := by
  unfold LI srcs
  rw [if_neg (by omega), show (2 * a + 1) / 2 = a by omega, List.map_map]
  rfl
theorem LI_even (E : List Edge) (a : Nat) : LI E (2 * a) = (dsts E a).map (fun x : Nat => (x : Int)) := by
  unfold LI dsts
  rw [if_pos (by omega), show (2 * a) / 2 = a by omega, List.map_map]
  rfl
theorem mem_srcs {E : List Edge} {a i : Nat} : i ∈ srcs E a ↔ (i, a) ∈ E := by
  unfold srcs
  rw [List.mem_map]
  constructor
  · rintro ⟨⟨p, q⟩, h, rfl⟩
    obtain ⟨h1, h2⟩ := List.mem_filter.1 h
    obtain rfl : q = a := of_decide_eq_true h2
    exact h1
  · exact fun h => ⟨(i, a), List.mem_filter.2 ⟨h, decide_eq_true rfl⟩, rfl⟩
theorem mem_dsts {E : List Edge} {a i : Nat} : i ∈ dsts E a ↔ (a, i) ∈ E := by
  unfold dsts
  rw [List.mem_map]
  constructor
  · rintro ⟨⟨p, q⟩, h, rfl⟩
    obtain ⟨h1, h2⟩ := List.mem_filter.1 h
    obtain rfl : p = a := of_decide_eq_true h2
    exact h1
  · exact fun h => ⟨(a, i), List.mem_filter.2 ⟨h, decide_eq_true rfl⟩, rfl⟩
/-- what holds between two blocks that are told: L is live, gr is new there, R are those that have something to tell; a has told bh to all that lead to it but for todo. -/
structure Spr (E : List Edge) (P X G : Nat → Wd → Bool) (n : Nat) (L : Nat → Wd → Bool) (gr : Nat → List Wd) (R : List Nat) (a : Nat) (bh : List Wd) (todo : List Nat) : Prop where
  low : ∀ i x, i < n → L i x = true → Lv E P X G i x
  gen : ∀ i x, i < n → G i x = true → L i x = true
  grL : ∀ i, i < n → ∀ x ∈ gr i, L i x = true
  nd : ∀ i, i < n → (gr i).Nodup
  told : ∀ i j x, (i, j) ∈ E → L j x = true → x ∉ gr j → P j x = false → X i x = false → L i x = true ∨ (j = a ∧ x ∈ bh ∧ i ∈ todo)
  rest : ∀ i, i < n → gr i ≠ [] → i ∈ R
  lt : ∀ i ∈ R, i < n
  bhL : ∀ x ∈ bh, Lv E P X G a x ∧ P a x = false
section
variable {E : List Edge} {P X G : Nat → Wd → Bool} {n : Nat} {L : Nat → Wd → Bool} {gr : Nat → List Wd} {R : List Nat} {a : Nat} {bh : List Wd} {todo : List Nat}
theorem Spr.start (hL : ∀ i, i < n → L i = G i) (hg : ∀ i, i < n → (gr i).Nodup ∧ ∀ x, x ∈ gr i ↔ G i x = true) (hE : ∀ e ∈ E, e.1 < n ∧ e.2 < n) (hR : ∀ i, i < n → gr i ≠ [] → i ∈ R) (hl : ∀ i ∈ R, i < n) : Spr E P X G n L gr R 0 [] [] :=
  ⟨fun i x hi h => .gen (by rw [← hL i hi]; exact h), fun i x hi h => by rw [hL i hi]; exact h, fun i hi x h => by rw [hL i hi]; exact ((hg i hi).2 x).1 h, fun i hi => (hg i hi).1, fun i j x he h1 h2 _ _ => absurd (((hg j (hE _ he).2).2 x).2 (by rw [← hL j (hE _ he).2]; exact h1)) h2, hR, hl, fun x h => (by cases h)⟩
theorem Spr.pop (h : Spr E P X G n L gr (R ++ [a]) 0 [] []) : Spr E P X G n L (upd gr a []) R a ((gr a).filter fun x => !P a x) (srcs E a) := by
  have ha : a < n := h.lt a (by simp)
  refine ⟨h.low, h.gen, fun i hi x hx => ?_, fun i hi => ?_, fun i j x he h1 h2 h3 h4 => ?_, fun i hi hne => ?_, fun i hi => h.lt i (by simp [hi]), fun x hx => ?_⟩
  · by_cases e : i = a
    · subst e; rw [upd_at] at hx; cases hx
    · rw [upd_ne _ _ e] at hx; exact h.grL i hi x hx
  · by_cases e : i = a
    · subst e; rw [upd_at]; exact List.nodup_nil
    · rw [upd_ne _ _ e]; exact h.nd i hi
  · by_cases e : j = a
    · subst e
      by_cases hx : x ∈ gr j
      · exact .inr ⟨rfl, List.mem_filter.2 ⟨hx, by simp [h3]⟩, mem_srcs.2 he⟩
      · rcases h.told i j x he h1 hx h3 h4 with q | ⟨_, q, _⟩
        · exact .inl q
        · cases q
    · rw [upd_ne _ _ e] at h2
      rcases h.told i j x he h1 h2 h3 h4 with q | ⟨_, q, _⟩
      · exact .inl q
      · cases q
  · by_cases e : i = a
    · subst e; rw [upd_at] at hne; exact absurd rfl hne
    · rw [upd_ne _ _ e] at hne
      rcases List.mem_append.1 (h.rest i hi hne) with q | q
      · exact q
      · exact absurd (List.mem_singleton.1 q) e
  · obtain ⟨q1, q2⟩ := List.mem_filter.1 hx
    exact ⟨h.low a x ha (h.grL a ha x q1), by simpa using q2⟩
theorem Spr.need {i : Nat} (h : Spr E P X G n L gr R a bh (i :: todo)) (hi : i < n) (he : (i, a) ∈ E) {L' : Wd → Bool} {add : List Wd} (hN : Ned (X i) (L i) L' bh add) {R' : List Nat} (hR : ∀ j ∈ R, j ∈ R') (hR2 : ∀ j ∈ R', j < n) (hR3 : gr i = [] → add ≠ [] → i ∈ R') : Spr E P X G n (upd L i L') (upd gr i (gr i ++ add)) R' a bh todo := by
  have mono : ∀ j x, L j x = true → upd L i L' j x = true := fun j x hx => by
    by_cases e : j = i
    · subst e; rw [upd_at]; exact (hN.iff x).2 (.inl hx)
    · rw [upd_ne _ _ e]; exact hx
  refine ⟨fun j x hj hx => ?_, fun j x hj hx => mono j x (h.gen j x hj hx), fun j hj x hx => ?_, fun j hj => ?_, fun k j x hkj h1 h2 h3 h4 => ?_, fun j hj hne => ?_, hR2, h.bhL⟩
  · by_cases e : j = i
    · subst e
      rw [upd_at] at hx
      rcases (hN.iff x).1 hx with q | q
      · exact h.low j x hj q
      · obtain ⟨q1, q2, _⟩ := hN.new x q
        exact .step he (h.bhL x q1).1 (h.bhL x q1).2 q2
    · rw [upd_ne _ _ e] at hx; exact h.low j x hj hx
  · by_cases e : j = i
    · subst e
      rw [upd_at] at hx
      rcases List.mem_append.1 hx with q | q
      · exact mono j x (h.grL j hj x q)
      · rw [upd_at]; exact (hN.iff x).2 (.inr q)
    · rw [upd_ne _ _ e] at hx; exact mono j x (h.grL j hj x hx)
  · by_cases e : j = i
    · subst e
      rw [upd_at, List.nodup_append]
      exact ⟨h.nd j hj, hN.nd, fun y hy z hz e => by
        subst e
        have := (hN.new y hz).2.2
        rw [h.grL j hj y hy] at this
        cases this⟩
    · rw [upd_ne _ _ e]; exact h.nd j hj
  · have hL : L j x = true ∧ x ∉ gr j := by
      by_cases e : j = i
      · subst e
        rw [upd_at] at h1 h2
        simp only [List.mem_append, not_or] at h2
        rcases (hN.iff x).1 h1 with q | q
        · exact ⟨q, h2.1⟩
        · exact absurd q h2.2
      · rw [upd_ne _ _ e] at h1 h2
        exact ⟨h1, h2⟩
    rcases h.told k j x hkj hL.1 hL.2 h3 h4 with q | ⟨rfl, q1, q2⟩
    · exact .inl (mono k x q)
    · rcases List.mem_cons.1 q2 with rfl | q2
      · rcases hN.all x q1 with q | q
        · rw [h4] at q; cases q
        · left; rw [upd_at]; exact q
      · exact .inr ⟨rfl, q1, q2⟩
  · by_cases e : j = i
    · subst e
      rw [upd_at] at hne
      by_cases e2 : gr j = []
      · rw [e2, List.nil_append] at hne
        exact hR3 e2 hne
      · exact hR j (h.rest j hj e2)
    · rw [upd_ne _ _ e] at hne
      exact hR j (h.rest j hj hne)
theorem Spr.done (h : Spr E P X G n L gr R a bh []) : Spr E P X G n L gr R 0 [] [] :=
  ⟨h.low, h.gen, h.grL, h.nd, fun i j x h0 h1 h2 h3 h4 => by
    rcases h.told i j x h0 h1 h2 h3 h4 with q | ⟨_, _, q⟩
    · exact .inl q
    · exact absurd q List.not_mem_nil, h.rest, h.lt, fun x h => absurd h List.not_mem_nil⟩
theorem Spr.fin (h : Spr E P X G n L gr [] 0 [] []) (hE : ∀ e ∈ E, e.1 < n ∧ e.2 < n) (hG : ∀ i x, G i x = true → i < n) : ∀ i x, i < n → (L i x = true ↔ Lv E P X G i x) := by
  have hgr : ∀ i, i < n → gr i = [] := fun i hi => by
    apply Classical.byContradiction
    intro hne
    have := h.rest i hi hne
    cases this
  refine fun i x hi => ⟨h.low i x hi, fun hl => ?_⟩
  clear hi
  induction hl with
  | gen hg => exact h.gen _ _ (hG _ _ hg) hg
  | step he hl hp hx ih =>
    rcases h.told _ _ _ he ih (by rw [hgr _ (hE _ he).2]; simp) hp hx with q | ⟨_, q, _⟩
    · exact q
    · cases q
end
/-- how much may still be told. -/
def mu (U : List Wd) (n : Nat) (L : Nat → Wd → Bool) : Nat := ((List.range n).map fun i => (U.filter fun x => !L i x).length).sum
theorem sum_le {α : Type} {f g : α → Nat} : ∀ {l : List α}, (∀ x ∈ l, f x ≤ g x) → (l.map f).sum ≤ (l.map g).sum
  | [], _ => Nat.le_refl _
  | a :: l, h => by
    have := sum_le (l := l) fun x hx => h x (by simp [hx])
    have := h a (by simp)
    simp only [List.map_cons, List.sum_cons]
    omega
theorem sum_lt {α : Type} {f g : α → Nat} : ∀ {l : List α} {y : α}, (∀ x ∈ l, f x ≤ g x) → y ∈ l → f y < g y → (l.map f).sum < (l.map g).sum
  | a :: l, y, h, hy, hlt => by
    have h1 := sum_le (l := l) fun x hx => h x (by simp [hx])
    have h2 := h a (by simp)
    simp only [List.map_cons, List.sum_cons]
    rcases List.mem_cons.1 hy with rfl | hy
    · omega
    · have := sum_lt (l := l) (fun x hx => h x (by simp [hx])) hy hlt
      omega
theorem filter_len_lt {p q : Wd → Bool} : ∀ {l : List Wd} {y : Wd}, (∀ x, p x = true → q x = true) → y ∈ l → p y = false → q y = true → (l.filter p).length < (l.filter q).length
  | a :: l, y, h, hy, h1, h2 => by
    have hle : (l.filter p).length ≤ (l.filter q).length := by
      rw [← List.countP_eq_length_filter, ← List.countP_eq_length_filter]
      exact List.countP_mono_left fun x _ hx => h x hx
    rcases List.mem_cons.1 hy with rfl | hy
    · rw [List.filter_cons_of_neg (by simp [h1]), List.filter_cons_of_pos h2, List.length_cons]
      omega
    · have := filter_len_lt h hy h1 h2
      by_cases e : p a = true
      · rw [List.filter_cons_of_pos e, List.filter_cons_of_pos (h a e)]
        simp only [List.length_cons]
        omega
      · rw [List.filter_cons_of_neg e]
        by_cases e2 : q a = true
        · rw [List.filter_cons_of_pos e2, List.length_cons]
          omega
        · rw [List.filter_cons_of_neg e2]
          exact this
theorem mu_need {U : List Wd} {n i : Nat} {X : Wd → Bool} {L : Nat → Wd → Bool} {L' : Wd → Bool} {bh add : List Wd} (hi : i < n) (hN : Ned X (L i) L' bh add) (hbU : ∀ x ∈ bh, x ∈ U) : mu U n (upd L i L') + (if add = [] then 0 else 1) ≤ mu U n L := by
  have hle : ∀ j ∈ List.range n, (U.filter fun x => !upd L i L' j x).length ≤ (U.filter fun x => !L j x).length := fun j _ => by
    rw [← List.countP_eq_length_filter, ← List.countP_eq_length_filter]
    refine List.countP_mono_left fun x _ hx => ?_
    by_cases e : j = i
    · subst e
      rw [upd_at] at hx
      cases e2 : L j x with
      | false => rfl
      | true => rw [(hN.iff x).2 (.inl e2)] at hx; cases hx
    · rwa [upd_ne _ _ e] at hx
  cases add with
  | nil =>
    rw [if_pos rfl, Nat.add_zero]
    exact sum_le hle
  | cons y r =>
    rw [if_neg (by simp)]
    obtain ⟨q1, _, q3⟩ := hN.new y (by simp)
    refine sum_lt hle (List.mem_range.2 hi) ?_
    refine filter_len_lt (fun x hx => ?_) (hbU y q1) (y := y) ?_ (by simp [q3])
    · rw [upd_at] at hx
      cases e2 : L i x with
      | false => rfl
      | true => rw [(hN.iff x).2 (.inl e2)] at hx; cases hx
    · rw [upd_at, (hN.iff y).2 (.inr (by simp))]
      rfl
theorem mu_top (U : List Wd) (n : Nat) (L : Nat → Wd → Bool) : mu U n L ≤ n * U.length := by
  have : mu U n L ≤ ((List.range n).map fun _ => U.length).sum := sum_le fun i _ => List.length_filter_le _ _
  rwa [List.map_const', List.sum_replicate_nat, List.length_range] at this
end Go.Proofs.YtdgmdpphimenjaaDoor.Lv12

/-
  Layer 12: going through blocks backward, as long as what is live grows.
-/
namespace Go.Proofs.YtdgmdpphimenjaaDoor.Lv12
open Go.RowKit Api Mem Sh8 Go.Maps

theorem info_int13 : (Tryd.prog.info? 3).map (fun i => (i.zero, i.size, i.bytes)) = some (some (.int .i64 0), 1, 8) := by kernel_rfl
abbrev iN (R : List Nat) : List Value := R.map fun r : Nat => i64 (r : Int)
/-- a row of numbers of the call's own has turned, which none of the blocks' rows is. -/
theorem St.rowI {U : List Wd} {w w' : World} {base B n m : Nat} {c : Nat → Nat} {S : Nat → Wd → Bool} {vi : Nat → Value} {li : Nat → List Int} {vg : Nat → Value} {gr : Nat → List Wd} (h : St U w base B n m c S vi li vg gr) {b0 k : Nat} {v : Value} {xs : List Value} (ho : w.ownsRow b0 3 1 v k xs) (hg : w.grownBy w' v.ownBlock) (hne : ∀ i b, i < 2 * n → (vi i).ownBlock = some b → v.ownBlock ≠ some b) : St U w' base B n m c S vi li vg gr := by
  have hr : ∀ b, v.ownBlock = some b → IsRow w b := fun b hb => isRow_row ho hb
  have hB : v.ownBlock ≠ some B := fun e => by
    have h1 := notT_row ho e (e := 96) (by decide)
    obtain ⟨cs, h2, _⟩ := h.out
    exact h1 _ _ h2
  refine ⟨h.ob, h.out.other hg hB, h.ms.row hg hr, h.mb, ⟨fun i hi => World.ownsRow.kept (h.ri.own i hi) hg ?_, h.ri.ap⟩, h.rg.others hg fun b hb => notT_row ho hb (by decide)⟩
  cases hv : (vi i).ownBlock with
  | none => exact .inl rfl
  | some b => exact .inr fun e => hne i b hi hv e.symm
def GG (n : Nat) (S : Nat → Wd → Bool) (i : Nat) (x : Wd) : Bool := decide (i < n) && S (4 * i + 3) x
/-- what is live at the first place of block i, of what blocks tell by themselves. -/
abbrev LvS (E : List Edge) (n : Nat) (S : Nat → Wd → Bool) : Nat → Wd → Prop := Lv E (fun i => S (4 * i)) (fun i => S (4 * i + 1)) (GG n S)
/-- between two blocks: memory. -/
structure SpW (U : List Wd) (E : List Edge) (base B n : Nat) (c : Nat → Nat) (S : Nat → Wd → Bool) (vi : Nat → Value) (w w' : World) (L : Nat → Wd → Bool) (vg : Nat → Value) (gr : Nat → List Wd) (R : List Nat) (rv : Value) : Prop where
  st : St U w' base B n n c (mix S L) vi (LI E) vg gr
  row : w'.ownsRow w.heap.size 3 1 rv R.length (iN R)
  bel : Below base w w'
theorem SpW.grU {U : List Wd} {E : List Edge} {base B n : Nat} {c : Nat → Nat} {S : Nat → Wd → Bool} {vi : Nat → Value} {w w' : World} {L : Nat → Wd → Bool} {vg : Nat → Value} {gr : Nat → List Wd} {R : List Nat} {rv : Value} (h : SpW U E base B n c S vi w w' L vg gr R rv) {i : Nat} (hi : i < n) {x : Wd} (hx : L i x = true) : x ∈ U := by
  have h1 := (h.st.ms.set (4 * i + 3) ⟨by omega, fun _ => by omega⟩).2 x
  rw [mix_at] at h1
  exact h1 hx
theorem filter_range_next (p : Nat → Bool) (k : Nat) : (List.range (k + 1)).filter p = (List.range k).filter p ++ (if p k = true then [k] else []) := by
  rw [List.range_succ, List.filter_append]
  congr 1
  by_cases e : p k = true <;> simp [e]
set_option maxRecDepth 100000 in
set_option maxHeartbeats 8000000 in
theorem spread_any {U : List Wd} (hU : UOk U) {w : World} {base B n : Nat} {c : Nat → Nat} {S : Nat → Wd → Bool} {vi : Nat → Value} {E : List Edge} {vg : Nat → Value} {gr : Nat → List Wd} (h : St U w base B n n c S vi (LI E) vg gr) (hb : base ≤ w.heap.size) (hE : ∀ e ∈ E, e.1 < n ∧ e.2 < n) (hEl : E.length ≤ 1000000000000) (hn : n ≤ 1000000000) (hnU : n * U.length ≤ 1000000000000) (hg : ∀ i, i < n → (gr i).Nodup ∧ ∀ x, x ∈ gr i ↔ S (4 * i + 3) x = true) :
    Calls Tryd.prog 66 #[.slice (some ⟨B, 0, none⟩) n n] w fun e w' => e = .returned (.tuple #[]) ∧ (∃ L vg' gr', St U w' base B n n c (mix S L) vi (LI E) vg' gr' ∧ ∀ i x, i < n → (L i x = true ↔ LvS E n S i x)) ∧ Below base w w' := by
  obtain ⟨ii, hii, hi0, hi1, hi2⟩ := info_parts info_int13
  have HII := Lib.hid (show _ ∧ _ ∧ _ ∧ _ from ⟨hii, hi0, hi1, hi2⟩)
  clear hii hi0 hi1 hi2
  have HVI := Lib.hid (fun (i b : Nat) (hi : i < 2 * n) (e : (vi i).ownBlock = some b) => ((h.ri.own i hi).lt b e).2)
  have HST := Lib.hid h
  have HG := Lib.hid hg
  have HE := Lib.hid hE
  have HEL := Lib.hid hEl
  have HNU := Lib.hid hnU
  have HGL : Hid (∀ i, i < n → (gr i).length ≤ 1000000000000) := Lib.hid (fun i hi => Nat.le_trans (sub_len (hg i hi).1 fun x hx => (h.ms.set (4 * i + 3) ⟨by omega, fun _ => by omega⟩).2 x (((hg i hi).2 x).1 hx)) hU.len)
  have HN0 := Lib.hid (show w.ownsRow w.heap.size 3 1 (.slice none 0 0) 0 (iN []) from ⟨by simp, .inl ⟨rfl, rfl⟩⟩)
  clear h hg hE hEl hnU
  go_enter Tryd.func66, Tryd.ntmps66
  go_wp2_with fail
  go_loopw [2, 11] (fun rv iv wr => ∃ (k : Nat) (R : List Nat) (A1 : Option Addr) (k1 : Nat), k ≤ n ∧ iv = .int .i64 k ∧ rv = .slice A1 R.length k1 ∧ R.length ≤ n ∧ Hid (R = (List.range k).filter fun i => !(gr i).isEmpty) ∧ Hid (wr.ownsRow w.heap.size 3 1 (.slice A1 R.length k1) R.length (iN R)) ∧ Hid (Below w.heap.size w wr)) (fun _ iv _ => n - (intOf iv).toNat)
  case atStart => exact ⟨0, [], none, 0, Nat.zero_le _, rfl, rfl, Nat.zero_le _, Lib.hid rfl, HN0, Lib.hid (Below.refl _ _)⟩
  case round =>
  obtain ⟨k, R, A1, k1, hk, rfl, rfl, hRl, HR, HRW, HBr⟩ := hrel
  by_cases hlt : k < n
  · have hst := HST.out.below HBr.out
    have n6 := (hst.cell hlt (show 6 < 7 by omega)).trans (congrArg some (show FF n c vi vg k 6 = vg k from rfl))
    obtain ⟨A6, k6, hv6⟩ := row_form (hst.rg.own k hlt)
    have hq9 := HGL.out k hlt
    obtain ⟨q, hq⟩ : ∃ q, (gr k).length = q := ⟨_, rfl⟩
    rw [hq] at hv6 hq9
    rw [hv6] at n6
    have HQ := Lib.hid hq
    have hRk : R.length ≤ k := by
      rw [HR.out]
      exact Nat.le_trans (List.length_filter_le _ _) (by rw [List.length_range]; exact Nat.le_refl _)
    clear hst hv6 hq
    by_cases h0 : q = 0
    · subst h0
      go_wp2_with fail
      go_roundw
      case rel => exact ⟨k + 1, R, A1, k1, by omega, by go_num, rfl, hRl, Lib.hid (by
        rw [filter_range_next, if_neg (by rw [List.eq_nil_of_length_eq_zero HQ.out]; simp), List.append_nil]
        exact HR.out), HRW, HBr⟩
      case measure => simp [intOf]; omega
    · have hq0 : (0 : Int) < (q : Int) := by omega
      have e0 : decide ((0 : Int) < (q : Int)) = true := decide_eq_true hq0
      have e1 : decide (0 < q) = true := decide_eq_true (by omega)
      have hkw : w.heap.size ≤ wr.heap.size := HBr.out.size
      go_wp2_with (at_builtin; refine wpList_growP rfl _ _ 92 rfl w.heap.size 3 1 ii _ 8 Tryd.underlying92 HII.out.1 HII.out.2.1 HII.out.2.2.1 HII.out.2.2.2 rfl Nat.one_pos _ _ _ rfl HRW.out [i64 (k : Int)] _ rfl rfl rfl (by intro u hu; rw [List.mem_singleton] at hu; subst hu; rfl) (by omega) (by omega) hkw ?_; intro v9 w9 h9 g9 f9; obtain ⟨A9, k9, rfl⟩ := row_form h9; have H9 := Lib.hid h9; have HB9 := Lib.hid (HBr.out.grown g9 hkw (fun j hj => (HRW.out.lt j hj).1)); clear h9 g9 f9)
      go_roundw
      case rel => exact ⟨k + 1, R ++ [k], A9, k9, by omega, by go_num, by simp, by simp; omega, Lib.hid (by
        rw [filter_range_next, if_pos (by cases e : gr k with | nil => rw [e] at HQ; exact absurd HQ.out (by simp; omega) | cons a l => rfl), HR.out]), Lib.hid (by have := H9.out; simpa [iN] using this), HB9⟩
      case measure => simp [intOf]; omega
  · obtain rfl : k = n := by omega
    have HW0 := Lib.hid (show SpW U E base B k c S vi w wr (fun i => S (4 * i + 3)) vg gr R (.slice A1 R.length k1) from ⟨by rw [mix_self]; exact HST.out.below HBr.out, HRW.out, HBr.out.mono hb⟩)
    have HP0 := Lib.hid (show Spr E (fun i => S (4 * i)) (fun i => S (4 * i + 1)) (GG k S) k (fun i => S (4 * i + 3)) gr R 0 [] [] from Spr.start (fun i hi => funext fun x => by unfold GG; rw [decide_eq_true hi]; rfl) (fun i hi => ⟨(HG.out i hi).1, fun x => by unfold GG; rw [decide_eq_true hi]; exact (HG.out i hi).2 x⟩) HE.out (fun i hi hne => by
      rw [HR.out, List.mem_filter]
      exact ⟨List.mem_range.2 hi, by cases e : gr i with | nil => exact absurd e hne | cons a l => rfl⟩) (fun i hi => by rw [HR.out] at hi; exact List.mem_range.1 (List.mem_filter.1 hi).1))
    have hM : 2 * mu U k (fun i => S (4 * i + 3)) + R.length ≤ 2 * (k * U.length) + k := by
      have := mu_top U k (fun i => S (4 * i + 3))
      omega
    clear HR HRW HBr HG HGL HN0
    go_wp2_with fail
    go_loopg [2] (2 * (k * U.length) + k) (fun g rv wr2 => ∃ (L : Nat → Wd → Bool) (vg : Nat → Value) (gr : Nat → List Wd) (R : List Nat) (A1 : Option Addr) (k1 : Nat), rv = .slice A1 R.length k1 ∧ g ≤ 2 * (k * U.length) + k ∧ 2 * mu U k L + R.length ≤ g ∧ Hid (SpW U E base B k c S vi w wr2 L vg gr R (.slice A1 R.length k1)) ∧ Hid (Spr E (fun i => S (4 * i)) (fun i => S (4 * i + 1)) (GG k S) k L gr R 0 [] []))
    case atStart => exact ⟨_, vg, gr, R, A1, k1, rfl, Nat.le_refl _, hM, HW0, HP0⟩
    case round =>
    clear hM HW0 HP0 hRl
    obtain ⟨L, vg, gr, R, A1, k1, rfl, hgk, hgm, HW, HP⟩ := hrel
    rcases List.eq_nil_or_concat R with rfl | ⟨R', a, rfl⟩
    · have HF := Lib.hid (HP.out.fin HE.out (fun i x hx => by unfold GG at hx; rw [Bool.and_eq_true] at hx; exact of_decide_eq_true hx.1))
      go_wp2_with fail
      go_end0
      exact ⟨rfl, ⟨L, vg, gr, HW.out.st, HF.out⟩, HW.out.bel⟩
    · rw [List.concat_eq_append] at HW HP hgm
      have hrow := HW.out.row
      rw [List.length_append, show iN (R' ++ [a]) = iN R' ++ [i64 (a : Int)] by simp [iN]] at hrow
      simp only [List.length_singleton] at hrow
      obtain ⟨gs, c9, e9, hgs, hgl9, hcap9, n9, hrow2⟩ := pop_own hrow
      have hla : (R'.concat a).length = R'.length + 1 := by simp
      have hla2 : (R' ++ [a]).length = R'.length + 1 := by simp
      rw [hla2] at hgm
      rw [hla]
      cases e9
      have ha : a < k := HP.out.lt a (by simp)
      have hst := HW.out.st
      have hwz : base ≤ wr.heap.size := Nat.le_trans hb HW.out.bel.size
      have hgrl : (gr a).length ≤ 1000000000000 := Nat.le_trans (sub_len (HP.out.nd a ha) fun x hx => HW.out.grU ha (HP.out.grL a ha x hx)) hU.len
      have hR9 : R'.length ≤ 2000000000000 + 1000000000 := by have := HNU.out; omega
      have HQ1 := Lib.hid (tell_k hU hst hwz ha (fun x hx => HW.out.grU ha (HP.out.grL a ha x hx)) hgrl)
      have n1 := (hst.cell ha (show 1 < 7 by omega)).trans (congrArg some (show FF k c vi vg a 1 = vi (2 * a + 1) from rfl))
      have HRW2 := Lib.hid hrow2
      have HPP := Lib.hid HP.out.pop
      clear hrow hst hla hla2 hgrl hrow2
      go_wp2_with fail
      refine HQ1.out.mono ?_
      rintro e w5 ⟨v5, r5, rfl, hr5, ho5, hst5, hb5, hki5⟩
      rw [mix_ne _ _ (by omega)] at hr5
      obtain ⟨A5, k5, rfl⟩ := row_form ho5
      have HW5 := Lib.hid (show SpW U E base B k c S vi w w5 L (upd vg a (.slice none 0 0)) (upd gr a []) R' (.slice (some ⟨gs, 0, none⟩) R'.length k1) from ⟨hst5, hki5 _ _ _ _ HRW2.out, HW.out.bel.trans hb5⟩)
      have HP5 := Lib.hid (show Spr E (fun i => S (4 * i)) (fun i => S (4 * i + 1)) (GG k S) k L (upd gr a []) R' a r5 (srcs E a) from by rw [hr5]; exact HPP.out)
      have HO5 := Lib.hid (ownsRow_base_a ho5 hwz)
      have HAP5 := Lib.hid (show ∀ j kk, j < k → (upd vg a (.slice none 0 0) j).ownBlock = some kk → (Value.slice A5 r5.length k5).ownBlock ≠ some kk from fun j kk hj hv he => by
        by_cases e : j = a
        · subst e; rw [upd_at] at hv; cases hv
        · rw [upd_ne _ _ e] at hv
          have h1 := ((HW.out.st.rg.own j hj).lt kk hv).2
          have h2 := (ho5.lt kk he).1
          omega)
      have HBU := Lib.hid (show ∀ x ∈ r5, x ∈ U from fun x hx => by rw [hr5] at hx; exact HW.out.grU ha (HP.out.grL a ha x (List.mem_filter.1 hx).1))
      have HBL := Lib.hid (show r5.length ≤ 1000000000000 from by
        have h1 := List.length_filter_le (fun x => !S (4 * a) x) (gr a)
        rw [hr5]
        exact Nat.le_trans h1 (Nat.le_trans (sub_len (HP.out.nd a ha) fun x hx => HW.out.grU ha (HP.out.grL a ha x hx)) hU.len))
      have n1 := (hst5.cell ha (show 1 < 7 by omega)).trans (congrArg some (show FF k c vi (upd vg a (.slice none 0 0)) a 1 = vi (2 * a + 1) from rfl))
      obtain ⟨F, hF⟩ : ∃ F, srcs E a = F := ⟨_, rfl⟩
      have hFl : F.length ≤ 1000000000000 := by
        rw [← hF]
        unfold srcs
        rw [List.length_map]
        exact Nat.le_trans (List.length_filter_le _ _) HEL.out
      have hri := hst5.ri.own (2 * a + 1) (by omega)
      rw [LI_odd, hF, List.length_map, List.map_map] at hri
      obtain ⟨A6, k6, hv6⟩ := row_form hri
      rw [hv6] at n1
      have HV6 := Lib.hid hv6
      have HFF := Lib.hid hF
      rw [hF] at HP5
      have hgm5 : 2 * mu U k L + R'.length + 1 ≤ gk := by omega
      have HP5' := Lib.hid (show Spr E (fun i => S (4 * i)) (fun i => S (4 * i + 1)) (GG k S) k L (upd gr a []) R' a r5 (F.drop 0) from HP5.out)
      clear hr5 ho5 hst5 hb5 hki5 hri hv6 hF HPP HQ1 HP5 HW HP HRW2
      go_wp2_with fail
      go_loopw [2, 49] (fun rv iv wr3 => ∃ (j : Nat) (L : Nat → Wd → Bool) (vg : Nat → Value) (gr : Nat → List Wd) (R : List Nat) (A1 : Option Addr) (k1 : Nat), j ≤ F.length ∧ iv = .int .i64 j ∧ rv = .slice A1 R.length k1 ∧ 2 * mu U k L + R.length + 1 ≤ gk ∧ Hid (SpW U E base B k c S vi w wr3 L vg gr R (.slice A1 R.length k1)) ∧ Hid (Spr E (fun i => S (4 * i)) (fun i => S (4 * i + 1)) (GG k S) k L gr R a r5 (F.drop j)) ∧ Hid (wr3.ownsRow base 9 1 (.slice A5 r5.length k5) r5.length (r5.map str)) ∧ Hid (∀ j kk, j < k → (vg j).ownBlock = some kk → (Value.slice A5 r5.length k5).ownBlock ≠ some kk)) (fun _ iv _ => F.length - (intOf iv).toNat)
      case atStart => exact ⟨0, L, _, _, R', _, k1, Nat.zero_le _, rfl, rfl, hgm5, HW5, HP5', HO5, HAP5⟩
      case round =>
      clear n1 hgm5 HW5 HP5' HO5 HAP5 hgm n9
      obtain ⟨j, L, vg, gr, R, A1, k1, hj, rfl, rfl, hgm, HW, HP, HO, HAP⟩ := hrel
      by_cases hlt2 : j < F.length
      · obtain ⟨i, hi⟩ : ∃ i, F[j]? = some i := ⟨_, List.getElem?_eq_getElem hlt2⟩
        have hie : (i, a) ∈ E := mem_srcs.1 (by rw [HFF.out]; exact List.mem_of_getElem? hi)
        have hik : i < k := (HE.out _ hie).1
        have hst := HW.out.st
        have hri := hst.ri.own (2 * a + 1) (by omega)
        rw [LI_odd, HFF.out, List.length_map, List.map_map, HV6.out] at hri
        obtain ⟨b6, rfl, hb6, hb66⟩ := own_addr hri hlt2
        have n0 := own_at hri (show (F.map _)[j]? = some (i64 (i : Int)) by rw [List.getElem?_map, hi]; rfl)
        have n6 := (hst.cell hik (show 6 < 7 by omega)).trans (congrArg some (show FF k c vi vg i 6 = vg i from rfl))
        obtain ⟨A7, k7, hv7⟩ := row_form (hst.rg.own i hik)
        obtain ⟨q, hq⟩ : ∃ q, (gr i).length = q := ⟨_, rfl⟩
        rw [hq] at hv7
        rw [hv7] at n6
        have hgrl : (gr i).length ≤ 1000000000000 := Nat.le_trans (sub_len (HP.out.nd i hik) fun x hx => HW.out.grU hik (HP.out.grL i hik x hx)) hU.len
        have hwz : base ≤ wr.heap.size := Nat.le_trans hb HW.out.bel.size
        have HQ2 := Lib.hid (need_any hU hst hwz hik hik hgrl A5 k5 r5 HO.out HBU.out HBL.out HAP.out)
        have HDR := Lib.hid (show F.drop j = i :: F.drop (j + 1) from by
          obtain ⟨h1, h2⟩ := List.getElem?_eq_some_iff.1 hi
          rw [List.drop_eq_getElem_cons h1, h2])
        have HQQ := Lib.hid hq
        have HIE := Lib.hid hie
        have hR9 : R.length ≤ 2000000000000 + 1000000000 := by have := HNU.out; omega
        have hq9 : q ≤ 1000000000000 := by omega
        clear hst hri hv7 hq hi hie hgrl
        go_wp2_with fail
        refine HQ2.out.mono ?_
        rintro e w7 ⟨rfl, L', add, v7, hN, hst7, ho7, hap7, hb7, hki7⟩
        rw [mix_upd] at hst7
        rw [mix_ne _ _ (by omega), mix_at, List.take_length] at hN
        have n6 := (hst7.cell hik (show 6 < 7 by omega)).trans (congrArg some (show FF k c vi (upd vg i v7) i 6 = v7 from upd_at _ _ _))
        have hrg7 := hst7.rg.own i hik
        rw [upd_at, upd_at] at hrg7
        obtain ⟨A8, k8, rfl⟩ := row_form hrg7
        rw [List.length_append, HQQ.out] at n6
        have hal : add.length ≤ 1000000000000 := Nat.le_trans (add_le hN) HBL.out
        obtain ⟨z, hz⟩ : ∃ z, add.length = z := ⟨_, rfl⟩
        rw [hz] at n6 hal
        have HMU := Lib.hid (mu_need (n := k) hik hN HBU.out)
        have HNN := Lib.hid hN
        have HZZ := Lib.hid hz
        have HW7 := Lib.hid (show SpW U E base B k c S vi w w7 (upd L i L') (upd vg i _) (upd gr i (gr i ++ add)) R (.slice A1 R.length k1) from ⟨hst7, hki7 _ _ _ _ HW.out.row, HW.out.bel.trans hb7⟩)
        have HO7 := Lib.hid ho7
        have HAP7 := Lib.hid hap7
        clear hN hst7 ho7 hap7 hb7 hki7 hrg7 hz HQ2
        have hgo : q = 0 ∧ 0 < z ∨ ¬ (q = 0 ∧ 0 < z) := Classical.em _
        rcases hgo with ⟨rfl, hz0⟩ | hgo
        · have hz1 : (0 : Int) < (z : Int) := by omega
          have hwq : w.heap.size ≤ w7.heap.size := HW7.out.bel.size
          have ez : decide ((0 : Int) < (z : Int)) = true := decide_eq_true hz1
          have ez2 : decide (0 < z) = true := decide_eq_true hz0
          simp only [Nat.zero_add] at n6
          go_wp2_with (at_builtin; refine wpList_growP rfl _ _ 92 rfl w.heap.size 3 1 ii _ 8 Tryd.underlying92 HII.out.1 HII.out.2.1 HII.out.2.2.1 HII.out.2.2.2 rfl Nat.one_pos _ _ _ rfl HW7.out.row [i64 (i : Int)] _ rfl rfl rfl (by intro u hu; rw [List.mem_singleton] at hu; subst hu; rfl) (by omega) (by omega) hwq ?_; intro v9 w9 h9 g9 f9; obtain ⟨A9, k9, rfl⟩ := row_form h9; have H9 := Lib.hid h9; have G9 := Lib.hid g9; clear h9 g9 f9)
          go_roundw
          case rel =>
            refine ⟨j + 1, upd L i L', _, upd gr i (gr i ++ add), R ++ [i], A9, k9, by omega, by go_num, by simp, ?_, Lib.hid ⟨?_, ?_, ?_⟩, Lib.hid ?_, ?_, HAP7⟩
            · have h1 := HMU.out
              rw [if_neg (by intro e; rw [e] at HZZ; have := HZZ.out; simp at this; omega)] at h1
              simp only [List.length_append, List.length_singleton]
              omega
            · exact HW7.out.st.rowI HW7.out.row G9.out fun x b hx hv he => by
                have h1 := HVI.out x b hx hv
                have h2 := (HW7.out.row.lt b he).1
                omega
            · have := H9.out
              simpa [iN] using this
            · exact HW7.out.bel.grown G9.out (by omega) (fun b e => by have := (HW7.out.row.lt b e).1; omega)
            · have hp := HP.out
              rw [HDR.out] at hp
              exact hp.need hik HIE.out HNN.out (fun x hx => by simp [hx]) (fun x hx => by
                rcases List.mem_append.1 hx with q | q
                · exact hp.lt x q
                · rw [List.mem_singleton.1 q]; exact hik) (fun _ _ => by simp)
            · exact Lib.hid (row_others HO7.out G9.out (fun b e => notT_row HW7.out.row e (by decide)))
          case measure => simp [intOf]; omega
        · have hcase : (q = 0 ∧ z = 0) ∨ (0 < q) := by omega
          have HEND := Lib.hid (show ∃ (j' : Nat) (L : Nat → Wd → Bool) (vg : Nat → Value) (gr : Nat → List Wd), j' = j + 1 ∧ 2 * mu U k L + R.length + 1 ≤ gk ∧ Hid (SpW U E base B k c S vi w w7 L vg gr R (.slice A1 R.length k1)) ∧ Hid (Spr E (fun i => S (4 * i)) (fun i => S (4 * i + 1)) (GG k S) k L gr R a r5 (F.drop j')) ∧ Hid (w7.ownsRow base 9 1 (.slice A5 r5.length k5) r5.length (r5.map str)) ∧ Hid (∀ j kk, j < k → (vg j).ownBlock = some kk → (Value.slice A5 r5.length k5).ownBlock ≠ some kk) from by
            refine ⟨j + 1, upd L i L', _, upd gr i (gr i ++ add), rfl, ?_, HW7, Lib.hid ?_, HO7, HAP7⟩
            · have h1 := HMU.out
              split at h1 <;> omega
            · have hp := HP.out
              rw [HDR.out] at hp
              refine hp.need hik HIE.out HNN.out (fun x hx => hx) hp.lt (fun h1 h2 => ?_)
              exfalso
              apply hgo
              refine ⟨by rw [← HQQ.out, h1]; rfl, ?_⟩
              rw [← HZZ.out]
              exact List.length_pos_iff.2 h2)
          obtain ⟨j', L9, vg9, gr9, rfl, hgm9, HW9, HP9, HO9, HAP9⟩ := HEND.out
          clear HEND HW7 HP HO7 HAP7 HW HMU HNN HDR hgm
          rcases hcase with ⟨rfl, rfl⟩ | hq0
          · simp only [Nat.zero_add] at n6
            go_wp2_with fail
            go_roundw
            case rel => exact ⟨j + 1, L9, vg9, gr9, R, A1, k1, by omega, by go_num, rfl, hgm9, HW9, HP9, HO9, HAP9⟩
            case measure => simp [intOf]; omega
          · have hq1 : ¬ q = 0 := by omega
            have eq1 : ((q : Int) == 0) = false := by simp; omega
            have eq2 : (q == 0) = false := by simp; omega
            have eq3 : decide (q = 0) = false := decide_eq_false hq1
            go_wp2_with fail
            go_roundw
            case rel => exact ⟨j + 1, L9, vg9, gr9, R, A1, k1, by omega, by go_num, rfl, hgm9, HW9, HP9, HO9, HAP9⟩
            case measure => simp [intOf]; omega
      · obtain rfl : j = F.length := by omega
        rw [List.drop_length] at HP
        have HPD := Lib.hid HP.out.done
        go_wp2_with fail
        go_roundg (2 * mu U k L + R.length)
        case measure => omega
        case rel => exact ⟨L, vg, gr, R, A1, k1, rfl, by omega, Nat.le_refl _, HW, HPD⟩
end Go.Proofs.YtdgmdpphimenjaaDoor.Lv12

/-
  Layer 12: what phis set, and what they use on the ways from which blocks.
-/
namespace Go.Proofs
open Go.Shelf
shelf_lay Lays2.n25 Nm2 25 at Tryd as Tryd.lays2_25
end Go.Proofs
namespace Go.Proofs.YtdgmdpphimenjaaDoor.Lv12
open Go.RowKit Go.Shelf Api Mem Sh8 Go.Maps

theorem search_any {w : World} {base : Nat} {A : Option Addr} {c : Nat} (zs : List Int) (x : Int) (h : w.ownsRow base 3 1 (.slice A zs.length c) zs.length (zs.map i64)) (hl : zs.length ≤ 1000000000000) (hs : zs.Pairwise (· ≤ ·)) :
    Calls Tryd.prog 92 #[.slice A zs.length c, .int .i64 x] w fun e w' => (∃ p : Nat, e = .returned (.tuple #[.int .i64 (p : Int), .bool (zs.contains x)])) ∧ Below w.heap.size w w' := by
  by_cases h0 : zs.length = 0
  · obtain rfl := List.eq_nil_of_length_eq_zero h0
    refine (Any.slices_BinarySearch_int_empty Tryd.lays2_25 A c x w).mono ?_
    rintro e w' ⟨rfl, rfl⟩
    exact ⟨⟨0, rfl⟩, Below.refl _ _⟩
  · obtain ⟨b, rfl, hb, hbl⟩ := own_addr h (k := 0) (by omega)
    refine (Any.slices_BinarySearch_int Tryd.lays2_25 b 0 zs.length c zs x w (Nat.le_refl _) (by omega) (fun j hj => ?_) (by rw [List.take_length]; exact hs)).mono ?_
    · rw [Nat.zero_add]
      exact own_at h (by rw [List.getElem?_map, List.getElem?_eq_getElem hj, List.getD_eq_getElem?_getD, List.getElem?_eq_getElem hj]; rfl)
    · rintro e w' ⟨rfl, q, rfl⟩
      rw [List.take_length]
      exact ⟨⟨_, rfl⟩, ⟨rfl, rfl, rfl, Nat.le_refl _, fun _ _ => rfl⟩⟩
/-! ### what phis say -/
def pairsIn (bl : List Api.Block) (E : List Edge) (t : Nat) (q : Bind) : List (Nat × Wd) := match plc (names bl) q.name with
  | some a => if (a, t) ∈ E then (namesA [q.a]).map fun y => (a, y) else []
  | none => []
def usesB (bl : List Api.Block) (E : List Edge) (t : Nat) (b : Api.Block) : List (Nat × Wd) := b.phis.flatMap fun p => p.ins.flatMap (pairsIn bl E t)
def usesPh (bl : List Api.Block) (E : List Edge) (k : Nat) : List (Nat × Wd) := (List.range k).flatMap fun t => match bl[t]? with
  | some b => usesB bl E t b
  | none => []
def setsB (t : Nat) (b : Api.Block) : List (Nat × Wd) := b.phis.map fun p => (t, p.dst)
def setsPh (bl : List Api.Block) (k : Nat) : List (Nat × Wd) := (List.range k).flatMap fun t => match bl[t]? with
  | some b => setsB t b
  | none => []
theorem usesPh_next {bl : List Api.Block} {E : List Edge} {k : Nat} {b : Api.Block} (h : bl[k]? = some b) : usesPh bl E (k + 1) = usesPh bl E k ++ usesB bl E k b := by
  unfold usesPh
  rw [List.range_succ, List.flatMap_append]
  simp [h]
theorem setsPh_next {bl : List Api.Block} {k : Nat} {b : Api.Block} (h : bl[k]? = some b) : setsPh bl (k + 1) = setsPh bl k ++ setsB k b := by
  unfold setsPh
  rw [List.range_succ, List.flatMap_append]
  simp [h]
/-- all sets: what phis set, and what is used at blocks' ends. -/
def phS (D Us : List (Nat × Wd)) (x : Nat) (y : Wd) : Bool := if x % 4 = 0 then decide ((x / 4, y) ∈ D) else if x % 4 = 2 then decide ((x / 4, y) ∈ Us) else false
theorem phS_nil : phS [] [] = fun _ _ => false := funext fun x => funext fun y => by
  unfold phS
  split
  · simp
  · split <;> simp
theorem phS_set (D Us : List (Nat × Wd)) (t : Nat) (d : Wd) : upd (phS D Us) (4 * t) (addS (phS D Us (4 * t)) d) = phS (D ++ [(t, d)]) Us := funext fun x => funext fun y => by
  by_cases e : x = 4 * t
  · subst e
    rw [upd_at]
    unfold addS phS
    rw [if_pos (by omega), if_pos (by omega), show 4 * t / 4 = t by omega]
    simp
  · rw [upd_ne _ _ e]
    unfold phS
    by_cases e1 : x % 4 = 0
    · rw [if_pos e1, if_pos e1]
      have : x / 4 ≠ t := by omega
      simp [this]
    · rw [if_neg e1, if_neg e1]
theorem phS_use (D Us : List (Nat × Wd)) (a : Nat) (l : List Wd) : upd (phS D Us) (4 * a + 2) (orS (phS D Us (4 * a + 2)) l) = phS D (Us ++ l.map fun y => (a, y)) := funext fun x => funext fun y => by
  by_cases e : x = 4 * a + 2
  · subst e
    rw [upd_at]
    unfold orS phS
    rw [if_neg (by omega), if_pos (by omega), if_neg (by omega), if_pos (by omega), show (4 * a + 2) / 4 = a by omega]
    simp
  · rw [upd_ne _ _ e]
    unfold phS
    by_cases e1 : x % 4 = 0
    · rw [if_pos e1, if_pos e1]
    · rw [if_neg e1, if_neg e1]
      by_cases e2 : x % 4 = 2
      · rw [if_pos e2, if_pos e2]
        have : ¬ a = x / 4 := by omega
        simp [this]
      · rw [if_neg e2, if_neg e2]
theorem flat_next {α β : Type} {g : α → List β} {l : List α} {k : Nat} {x : α} (h : l[k]? = some x) : (l.take (k + 1)).flatMap g = (l.take k).flatMap g ++ g x := by
  rw [take_at h, List.flatMap_append]
  simp
theorem map_next {α β : Type} {g : α → β} {l : List α} {k : Nat} {x : α} (h : l[k]? = some x) : (l.take (k + 1)).map g = (l.take k).map g ++ [g x] := by
  rw [take_at h, List.map_append]
  rfl
theorem edges_sorted (bl : List Api.Block) : ∀ k : Nat, ((edgesTo bl k).map (·.1)).Pairwise (· ≤ ·) ∧ ∀ e ∈ edgesTo bl k, e.1 < k
  | 0 => ⟨by simp [edgesTo], by simp [edgesTo]⟩
  | k + 1 => by
    obtain ⟨h1, h2⟩ := edges_sorted bl k
    have h3 : ∀ e ∈ edgesOf bl k, e.1 = k := fun e he => by
      unfold edgesOf at he
      split at he
      · obtain ⟨x, _, rfl⟩ := List.mem_map.1 he
        rfl
      · cases he
    rw [edgesTo_next]
    refine ⟨?_, fun e he => ?_⟩
    · rw [List.map_append, List.pairwise_append]
      refine ⟨h1, ?_, fun a ha b hb => ?_⟩
      · refine List.pairwise_iff_forall_sublist.2 fun {a b} hab => ?_
        have ha : a ∈ (edgesOf bl k).map (·.1) := hab.subset (by simp)
        have hb : b ∈ (edgesOf bl k).map (·.1) := hab.subset (by simp)
        obtain ⟨x, hx, rfl⟩ := List.mem_map.1 ha
        obtain ⟨y, hy, rfl⟩ := List.mem_map.1 hb
        rw [h3 x hx, h3 y hy]
        exact Nat.le_refl _
      · obtain ⟨x, hx, rfl⟩ := List.mem_map.1 ha
        obtain ⟨y, hy, rfl⟩ := List.mem_map.1 hb
        rw [h3 y hy]
        exact Nat.le_of_lt (h2 x hx)
    · rcases List.mem_append.1 he with q | q
      · exact Nat.lt_succ_of_lt (h2 e q)
      · rw [h3 e q]
        exact Nat.lt_succ_self _
theorem srcs_sorted (bl : List Api.Block) (k a : Nat) : ((srcs (edgesTo bl k) a).map fun x : Nat => (x : Int)).Pairwise (· ≤ ·) := by
  refine List.pairwise_map.2 ?_
  have h := (edges_sorted bl k).1
  have hs : (srcs (edgesTo bl k) a).Sublist ((edgesTo bl k).map (·.1)) := by
    unfold srcs
    exact List.Sublist.map _ List.filter_sublist
  exact (h.sublist hs).imp fun h => by omega
set_option maxRecDepth 100000 in
set_option maxHeartbeats 8000000 in
theorem layPhis_any {U : List Wd} (hU : UOk U) (lo hi : Nat) {w : World} {base B : Nat} {c : Nat → Nat} {vi : Nat → Value} {E : List Edge} {vg : Nat → Value} {gr : Nat → List Wd} (cs : List Value) (f : Api.Func) (hf : FuncC lo hi w cs f) (hhb : hi ≤ base) (h : St U w base B f.blocks.length 0 c (fun _ _ => false) vi (LI E) vg gr) (hb : base ≤ w.heap.size)
    (gm m : Nat) (hM : w.ownsMap Tryd.prog 9 (plainElem Tryd.prog 3) gm m (tab 0 (names f.blocks))) (hgm : gm < base) (hE : ∀ e ∈ E, e.1 < f.blocks.length ∧ e.2 < f.blocks.length) (hEl : E.length ≤ 1000000000000) (hs : ∀ a, ((srcs E a).map fun x : Nat => (x : Int)).Pairwise (· ≤ ·))
    (hP : ∀ b ∈ f.blocks, ∀ p ∈ b.phis, p.dst ∈ U ∧ ∀ q ∈ p.ins, q.name.length ≤ 140737488351232 ∧ ∀ x ∈ namesA [q.a], x ∈ U) :
    Calls Tryd.prog 64 #[.agg cs.toArray, .map (some gm), .slice (some ⟨B, 0, none⟩) f.blocks.length f.blocks.length] w fun e w' => e = .returned (.tuple #[]) ∧ St U w' base B f.blocks.length 0 c (phS (setsPh f.blocks f.blocks.length) (usesPh f.blocks E f.blocks.length)) vi (LI E) vg gr ∧ Below base w w' := by
  obtain ⟨u1, u2, u3, rfl, kp, kv, kb⟩ := hf
  obtain ⟨nm, rs, ps, vs, bl⟩ := f
  simp only at kp kv kb h hM hE hP ⊢
  obtain ⟨A1, k1, rfl⟩ := kp.form
  obtain ⟨A2, k2, rfl⟩ := kv.form
  obtain ⟨A3, k3, rfl⟩ := kb.form
  have hh : hi ≤ w.heap.size := Nat.le_trans hhb hb
  have hlb : bl.length ≤ 4611686018427387903 := by obtain ⟨_, _, _, h, _⟩ := kb.get; exact h
  obtain ⟨W, hW⟩ : ∃ W, w.alloc (.cells #[str nm, str rs, .slice A1 ps.length k1, .slice A2 vs.length k2, .slice A3 bl.length k3] 37) = W := ⟨_, rfl⟩
  obtain ⟨o1, b1, z1⟩ := box8 (c := [str nm, str rs, .slice A1 ps.length k1, .slice A2 vs.length k2, .slice A3 bl.length k3]) hW
  have KB := Lib.hid kb
  have HO := Lib.hid o1
  have HB := Lib.hid (b1.mono hb)
  have HW := Lib.hid hW
  have zlt := o1.lt
  have HWS : w.heap.size < W.heap.size := zlt
  have HST := Lib.hid (show St U W base B bl.length 0 c (phS [] []) vi (LI E) vg gr by rw [phS_nil]; exact h.below b1)
  have HM := Lib.hid hM
  have HE := Lib.hid hE
  have HEL := Lib.hid hEl
  have HS := Lib.hid hs
  have HP := Lib.hid hP
  clear o1 b1 hW kp kv kb h hM hE hEl hs hP
  go_enter Tryd.func64, Tryd.ntmps64
  go_wp2_with fail
  rw [HW.out]
  have f4' := HO.out.cell 4
  simp only [List.getElem?_cons_succ, List.getElem?_cons_zero] at f4'
  have HOB := Lib.hid (show w.heap.size ≠ B ∧ ∀ x, OkM bl.length 0 x → c x ≠ w.heap.size from ⟨fun e => by
    obtain ⟨cs, q1, _⟩ := HST.out.out
    have := notT_own HO.out (e := 96) (by decide)
    rw [← e] at q1
    exact this _ _ q1, fun x hx e => set_ne_row (HST.out.ms.set x hx) (isRow_own HO.out) e⟩)
  have HB0 := Lib.hid (Below.refl base W)
  have HO0 := HO
  go_loopw [18] (fun i wr => ∃ k : Nat, k ≤ bl.length ∧ i = .int .i64 k ∧ Hid (St U wr base B bl.length 0 c (phS (setsPh bl k) (usesPh bl E k)) vi (LI E) vg gr) ∧ Hid (Mem.Own wr w.heap.size 37 [str nm, str rs, .slice A1 ps.length k1, .slice A2 vs.length k2, .slice A3 bl.length k3]) ∧ Hid (Below base W wr)) (fun i _ => bl.length - (intOf i).toNat)
  case atStart => exact ⟨0, Nat.zero_le _, rfl, HST, HO0, HB0⟩
  case round =>
  clear f4'
  obtain ⟨k, hk, rfl, HSr, HOr, HBr⟩ := hrel
  by_cases hlt : k < bl.length
  · obtain ⟨b, hx⟩ : ∃ y, bl[k]? = some y := ⟨_, List.getElem?_eq_getElem hlt⟩
    obtain ⟨b3, o3, rfl, hb3, cs3, hcl3, hcs3, x1, x2, cs4, e4, kph, kco, x4, e5, kto⟩ := row_at KB.out hx
    subst e5
    subst e4
    obtain ⟨A5, k5, rfl⟩ := Row.form kph
    have f4 := HOr.out.cell 4
    simp only [List.getElem?_cons_succ, List.getElem?_cons_zero] at f4
    have hbW : Below hi w wr := (HB.out.trans HBr.out).mono hhb
    obtain ⟨m0, m1, m2, m3, m4, m5, m6, m7, m8⟩ := at9 (cells_later hcs3 hbW hb3)
    have HX := Lib.hid hx
    have KPH := Lib.hid kph
    have hpl : b.phis.length ≤ 4611686018427387903 := by obtain ⟨_, _, _, h, _⟩ := kph.get; exact h
    have HS0 := Lib.hid (show St U wr base B bl.length 0 c (phS (setsPh bl k ++ (setsB k b).take 0) (usesPh bl E k ++ (b.phis.take 0).flatMap fun p => p.ins.flatMap (pairsIn bl E k))) vi (LI E) vg gr from by simpa using HSr.out)
    clear hcs3 hx kph kco kto hbW
    go_wp2_with fail
    go_loopw [28] (fun i wr => ∃ j : Nat, j ≤ b.phis.length ∧ i = .int .i64 j ∧ Hid (St U wr base B bl.length 0 c (phS (setsPh bl k ++ (setsB k b).take j) (usesPh bl E k ++ (b.phis.take j).flatMap fun p => p.ins.flatMap (pairsIn bl E k))) vi (LI E) vg gr) ∧ Hid (Mem.Own wr w.heap.size 37 [str nm, str rs, .slice A1 ps.length k1, .slice A2 vs.length k2, .slice (some ⟨b3, o3, none⟩) bl.length k3]) ∧ Hid (Below base W wr)) (fun i _ => b.phis.length - (intOf i).toNat)
    case atStart => exact ⟨0, Nat.zero_le _, rfl, HS0, HOr, HBr⟩
    case round =>
    clear HS0 HSr HOr HBr f4 m0 m1 m2 m3 m4 m5 m6 m7 m8
    obtain ⟨j, hj, rfl, HSr, HOr, HBr⟩ := hrel
    by_cases hlj : j < b.phis.length
    · obtain ⟨p, hxp⟩ : ∃ y, b.phis[j]? = some y := ⟨_, List.getElem?_eq_getElem hlj⟩
      obtain ⟨b6, o6, rfl, hb6, cs6, hcl6, hcs6, x6, rfl, kin⟩ := row_at KPH.out hxp
      obtain ⟨A7, k7, rfl⟩ := Row.form kin
      have hbW : Below hi w wr := (HB.out.trans HBr.out).mono hhb
      obtain ⟨n0, n1⟩ := at2 (cells_later hcs6 hbW hb6)
      have hil : p.ins.length ≤ 4611686018427387903 := by obtain ⟨_, _, _, h, _⟩ := kin.get; exact h
      have KIN := Lib.hid kin
      have HXP := Lib.hid hxp
      have c2 := (HSr.out.cell hlt (show 2 < 7 by omega)).trans (congrArg some (show FF 0 c vi vg k 2 = .map (some (c (4 * k))) from rfl))
      have hPb := HP.out b (List.mem_of_getElem? HX.out) p (List.mem_of_getElem? hxp)
      have HOK := Lib.hid (show OkM bl.length 0 (4 * k) from ⟨by omega, fun h => by omega⟩)
      have HPB := Lib.hid hPb
      obtain ⟨bp, hbp⟩ : ∃ bp, wr.heap.size = bp := ⟨_, rfl⟩
      have HBPE := Lib.hid hbp
      obtain ⟨Wp, hWp⟩ : ∃ Wp, wr.alloc (.cells #[str p.dst, .slice A7 p.ins.length k7] 63) = Wp := ⟨_, rfl⟩
      have HOP := Lib.hid (show Mem.Own Wp bp 63 [str p.dst, .slice A7 p.ins.length k7] by rw [← hWp, ← hbp]; exact Mem.Own.made wr _ _)
      have HBp := Lib.hid (show Below wr.heap.size wr Wp by rw [← hWp]; exact (Below.refl _ _).alloc (Nat.le_refl _) _)
      have HSp := Lib.hid (HSr.out.below HBp.out)
      have HOp := Lib.hid (HOr.out.below HBp.out HOr.out.lt)
      have HBWp := Lib.hid (show Below base W Wp from HBr.out.trans (HBp.out.mono (by have := HBr.out.size; omega)))
      have hCp : c (4 * k) ≠ bp := by have := (HSr.out.ms.set (4 * k) HOK.out).lt; omega
      have HCP := Lib.hid (show (∀ x, OkM bl.length 0 x → c x ≠ bp) ∧ bp ≠ B from ⟨fun x hx => by have := (HSr.out.ms.set x hx).lt; omega, by have := HSr.out.out.lt; omega⟩)
      have c2 := (HSp.out.cell hlt (show 2 < 7 by omega)).trans (congrArg some (show FF 0 c vi vg k 2 = .map (some (c (4 * k))) from rfl))
      have p0 := HOP.out.cell 0
      have p1 := HOP.out.cell 1
      simp only [List.getElem?_cons_succ, List.getElem?_cons_zero] at p0 p1
      have HQ := Lib.hid (add_any hU (show SetO U Wp.drew (c (4 * k)) _ from (HSp.out.ms.set (4 * k) HOK.out).drew) p.dst hPb.1)
      have HWP := Lib.hid hWp
      have hszp : base ≤ bp := by have := HBr.out.size; omega
      clear hcs6 kin hxp hbW hPb hWp hbp
      go_wp2_with fail
      rw [HWP.out, HBPE.out]
      go_still_tail 7, (by kernel_rfl)
      change wpList _ _ _ _ _ Wp.drew
      go_wp2_with fail
      refine HQ.out.mono ?_
      rintro e w5 ⟨rfl, h5, g5⟩
      have g5' := grown_of_drew g5
      have hst5 := HSp.out.putm HOK.out g5' h5
      rw [phS_set] at hst5
      have HO5 := Lib.hid (own_kept HOp.out g5' (Ne.symm (HOB.out.2 _ HOK.out)))
      have HP5 := Lib.hid (own_kept HOP.out g5' (Ne.symm hCp))
      have HB5 := Lib.hid (show Below base W w5 from HBWp.out.grown g5' (by have := HBWp.out.size; omega) (fun j e => by cases e; exact HSr.out.mb _ HOK.out))
      have HS5 := Lib.hid (show St U w5 base B bl.length 0 c (phS (setsPh bl k ++ (setsB k b).take (j + 1)) (usesPh bl E k ++ (b.phis.take j).flatMap (fun p => p.ins.flatMap (pairsIn bl E k)) ++ (p.ins.take 0).flatMap (pairsIn bl E k))) vi (LI E) vg gr from by
        have e1 : (setsB k b).take (j + 1) = (setsB k b).take j ++ [(k, p.dst)] := take_at (by unfold setsB; rw [List.getElem?_map, HXP.out]; rfl)
        rw [e1, ← List.append_assoc]
        simpa using hst5)
      have p1 := HP5.out.cell 1
      simp only [List.getElem?_cons_succ, List.getElem?_cons_zero] at p1
      clear n0 n1 c2 HQ h5 g5 g5' hst5 HSr HOr HBr HSp HOp HBWp HBp HWP HOP p0 HBPE
      go_wp2_with fail
      go_loopw [43] (fun i wr => ∃ z : Nat, z ≤ p.ins.length ∧ i = .int .i64 z ∧ Hid (St U wr base B bl.length 0 c (phS (setsPh bl k ++ (setsB k b).take (j + 1)) (usesPh bl E k ++ (b.phis.take j).flatMap (fun p => p.ins.flatMap (pairsIn bl E k)) ++ (p.ins.take z).flatMap (pairsIn bl E k))) vi (LI E) vg gr) ∧ Hid (Mem.Own wr w.heap.size 37 [str nm, str rs, .slice A1 ps.length k1, .slice A2 vs.length k2, .slice (some ⟨b3, o3, none⟩) bl.length k3]) ∧ Hid (Mem.Own wr bp 63 [str p.dst, .slice A7 p.ins.length k7]) ∧ Hid (Below base W wr)) (fun i _ => p.ins.length - (intOf i).toNat)
      case atStart => exact ⟨0, Nat.zero_le _, rfl, HS5, HO5, HP5, HB5⟩
      case round =>
      clear HS5 HO5 HP5 HB5 p1
      obtain ⟨z, hz, rfl, HSr, HOr, HPr, HBr⟩ := hrel
      by_cases hlz : z < p.ins.length
      · obtain ⟨q, hxq⟩ : ∃ y, p.ins[z]? = some y := ⟨_, List.getElem?_eq_getElem hlz⟩
        obtain ⟨b8, o8, rfl, hb8, cs8, hcl8, hcs8, rfl⟩ := row_at KIN.out hxq
        have hbW : Below hi w wr := (HB.out.trans HBr.out).mono hhb
        obtain ⟨n0, n1, n2, n3⟩ := at4 (cells_later hcs8 hbW hb8)
        have hPq := HPB.out.2 q (List.mem_of_getElem? hxq)
        have HKEY := Lib.hid (key_at hPq.1)
        have HQU := Lib.hid hPq.2
        have HXQ := Lib.hid (flat_next (g := pairsIn bl E k) hxq)
        obtain ⟨tc, td, htc⟩ : ∃ (tc : Nat) (td : Bool), ((tab 0 (names bl)).atKey (kS q.name) (dI 0) = dI ((tc : Nat) : Int) ∧ has (tab 0 (names bl)) (kS q.name) = td) ∧ ((td = true ∧ plc (names bl) q.name = some tc) ∨ (td = false ∧ plc (names bl) q.name = none)) := by
          rw [tab_at, tab_has]
          cases e : plc (names bl) q.name with
          | none => exact ⟨0, false, ⟨rfl, rfl⟩, .inr ⟨rfl, rfl⟩⟩
          | some t => exact ⟨t, true, ⟨by simp, rfl⟩, .inl ⟨rfl, rfl⟩⟩
        have HT := Lib.hid htc.1
        have HPL := Lib.hid htc.2
        obtain ⟨bq, hbq⟩ : ∃ bq, wr.heap.size = bq := ⟨_, rfl⟩
        have HBQE := Lib.hid hbq
        obtain ⟨Wq, hWq⟩ : ∃ Wq, wr.alloc (.cells #[str q.name, i64 q.a.kind, str q.a.s, i64 q.a.n] 65) = Wq := ⟨_, rfl⟩
        have HOQ := Lib.hid (show Mem.Own Wq bq 65 [str q.name, i64 q.a.kind, str q.a.s, i64 q.a.n] by rw [← hWq, ← hbq]; exact Mem.Own.made wr _ _)
        have HBq := Lib.hid (show Below wr.heap.size wr Wq by rw [← hWq]; exact (Below.refl _ _).alloc (Nat.le_refl _) _)
        have HSq := Lib.hid (HSr.out.below HBq.out)
        have HOq := Lib.hid (HOr.out.below HBq.out HOr.out.lt)
        have HPq := Lib.hid (HPr.out.below HBq.out HPr.out.lt)
        have HBWq := Lib.hid (show Below base W Wq from HBr.out.trans (HBq.out.mono (by have := HBr.out.size; omega)))
        have HMW := Lib.hid (show (wr.alloc (.cells #[str q.name, i64 q.a.kind, str q.a.s, i64 q.a.n] 65)).ownsMap Tryd.prog 9 (plainElem Tryd.prog 3) gm m (tab 0 (names bl)) from by rw [hWq]; exact own_belowM HM.out (HB.out.trans HBWq.out) hgm)
        have q0 := HOQ.out.cell 0
        simp only [List.getElem?_cons_succ, List.getElem?_cons_zero] at q0
        have HWQ := Lib.hid hWq
        obtain ⟨zs, hzs⟩ : ∃ zs, ((srcs E k).map fun x : Nat => (x : Int)) = zs := ⟨_, rfl⟩
        have hzl : zs.length ≤ 1000000000000 := by
          rw [← hzs, List.length_map]
          unfold srcs
          rw [List.length_map]
          exact Nat.le_trans (List.length_filter_le _ _) HEL.out
        have hri := HSq.out.ri.own (2 * k + 1) (by omega)
        rw [LI_odd, hzs] at hri
        obtain ⟨A9, k9, hv9⟩ := row_form hri
        rw [hv9] at hri
        have c1 := (HSr.out.cell hlt (show 1 < 7 by omega)).trans (congrArg some (show FF 0 c vi vg k 1 = .slice A9 zs.length k9 from hv9))
        have hBlt : B < wr.heap.size := HSr.out.out.lt
        have hBne : ¬ B = wr.heap.size := by omega
        obtain ⟨ld, hld⟩ : ∃ ld, zs.contains (tc : Int) = ld := ⟨_, rfl⟩
        have hqs := search_any zs (tc : Int) hri hzl (by rw [← hzs]; exact HS.out k)
        rw [hld] at hqs
        have HQS := Lib.hid hqs
        have HLD := Lib.hid (show ld = true ↔ (tc, k) ∈ E from by
          rw [← hld, ← hzs, List.contains_iff_mem, List.mem_map, ← mem_srcs]
          exact ⟨fun ⟨a, h1, h2⟩ => by rw [← show a = tc by omega]; exact h1, fun h => ⟨tc, h, rfl⟩⟩)
        have HZS := Lib.hid hzs
        clear hcs8 hxq hbW hPq hWq hbq htc hri hv9 hzs hqs hld
        go_wp2_with (at_lookup; refine look_ok _ rfl _ _ 140 rfl 9 3 lawS Tryd.underlying140 Tryd.underlying3 (zeroI _) gm _ _ rfl HMW.out _ _ rfl HKEY.out _ HT.out.1 _ HT.out.2 ?_)
        rw [HWQ.out, HBQE.out]
        refine HQS.out.mono ?_
        rintro e w6 ⟨⟨pp, rfl⟩, hb6⟩
        have HS6 := Lib.hid (HSq.out.below hb6)
        have HO6 := Lib.hid (HOq.out.below hb6 HOq.out.lt)
        have HP6 := Lib.hid (HPq.out.below hb6 HPq.out.lt)
        have HQ6 := Lib.hid (HOQ.out.below hb6 HOQ.out.lt)
        have HB6 := Lib.hid (show Below base W w6 from HBWq.out.trans (hb6.mono (by have := HBWq.out.size; omega)))
        have hNo : ¬ (td = true ∧ ld = true) → pairsIn bl E k q = [] := fun hn => by
          unfold pairsIn
          rcases HPL.out with ⟨h1, h2⟩ | ⟨h1, h2⟩
          · rw [h2]
            simp only
            rw [if_neg fun h => hn ⟨h1, HLD.out.2 h⟩]
          · rw [h2]
        have hYes : td = true ∧ ld = true → pairsIn bl E k q = (namesA [q.a]).map fun y => (tc, y) := fun hn => by
          unfold pairsIn
          rcases HPL.out with ⟨h1, h2⟩ | ⟨h1, h2⟩
          · rw [h2]
            simp only
            rw [if_pos (HLD.out.1 hn.2)]
          · rw [h1] at hn
            cases hn.1
        have HNO := Lib.hid hNo
        have HYES := Lib.hid hYes
        have HBQ := Lib.hid (show (∀ x, OkM bl.length 0 x → c x ≠ bq) from fun x hx => by have := (HSr.out.ms.set x hx).lt; have := HBQE.out; omega)
        have hszq : base ≤ wr.heap.size := by have := HBr.out.size; omega
        have hszw : wr.heap.size ≤ w6.heap.size := Nat.le_trans HBq.out.size hb6.size
        clear hb6 c1 q0 n0 n1 n2 n3 hNo hYes HSq HOq HPq HBWq HQS
        have hgo : (td = true ∧ ld = true) ∨ ¬ (td = true ∧ ld = true) := Classical.em _
        rcases hgo with ⟨rfl, rfl⟩ | hgo
        · have htl : tc < bl.length := (HE.out _ (HLD.out.1 rfl)).1
          have c4 := (HS6.out.cell htl (show 4 < 7 by omega)).trans (congrArg some (show FF 0 c vi vg tc 4 = .map (some (c (4 * tc + 2))) from rfl))
          have q1 := HQ6.out.cell 1
          have q2 := HQ6.out.cell 2
          have q3 := HQ6.out.cell 3
          simp only [List.getElem?_cons_succ, List.getElem?_cons_zero] at q1 q2 q3
          have HOK2 := Lib.hid (show OkM bl.length 0 (4 * tc + 2) from ⟨by omega, fun h => by omega⟩)
          have HQ2 := Lib.hid (use_any hU (show SetO U w6.drew (c (4 * tc + 2)) _ from (HS6.out.ms.set _ HOK2.out).drew) q.a HQU.out)
          go_wp2_with fail
          go_still_tail 7, (by kernel_rfl)
          change wpList _ _ _ _ _ w6.drew
          go_wp2_with fail
          refine HQ2.out.mono ?_
          rintro e w7 ⟨rfl, h7, g7⟩
          have g7' := grown_of_drew g7
          have hst7 := HS6.out.putm HOK2.out g7' h7
          rw [phS_use] at hst7
          have HE7 := Lib.hid (show St U w7 base B bl.length 0 c (phS (setsPh bl k ++ (setsB k b).take (j + 1)) (usesPh bl E k ++ (b.phis.take j).flatMap (fun p => p.ins.flatMap (pairsIn bl E k)) ++ (p.ins.take (z + 1)).flatMap (pairsIn bl E k))) vi (LI E) vg gr from by
            rw [HXQ.out, HYES.out ⟨trivial, trivial⟩, ← List.append_assoc]
            exact hst7)
          have HO7 := Lib.hid (own_kept HO6.out g7' (Ne.symm (HOB.out.2 _ HOK2.out)))
          have HP7 := Lib.hid (own_kept HP6.out g7' (Ne.symm (HCP.out.1 _ HOK2.out)))
          have HB7 := Lib.hid (show Below base W w7 from HB6.out.grown g7' (by omega) (fun j e => by cases e; exact HSr.out.mb _ HOK2.out))
          clear h7 g7 g7' hst7 q1 q2 q3 c4
          go_wp2_with fail
          go_roundw
          case rel => exact ⟨z + 1, by omega, by go_num, HE7, HO7, HP7, HB7⟩
          case measure => simp [intOf]; omega
        · have HE7 := Lib.hid (show St U w6 base B bl.length 0 c (phS (setsPh bl k ++ (setsB k b).take (j + 1)) (usesPh bl E k ++ (b.phis.take j).flatMap (fun p => p.ins.flatMap (pairsIn bl E k)) ++ (p.ins.take (z + 1)).flatMap (pairsIn bl E k))) vi (LI E) vg gr from by
            rw [HXQ.out, HNO.out hgo, List.append_nil]
            exact HS6.out)
          cases td <;> cases ld
          all_goals try exact absurd ⟨rfl, rfl⟩ hgo
          all_goals go_wp2_with fail
          all_goals go_roundw
          all_goals first | exact ⟨z + 1, by omega, by go_num, HE7, HO6, HP6, HB6⟩ | (simp [intOf]; omega)
      · obtain rfl : z = p.ins.length := by omega
        have HE8 := Lib.hid (show St U wr base B bl.length 0 c (phS (setsPh bl k ++ (setsB k b).take (j + 1)) (usesPh bl E k ++ (b.phis.take (j + 1)).flatMap (fun p => p.ins.flatMap (pairsIn bl E k)))) vi (LI E) vg gr from by
          rw [flat_next HXP.out, ← List.append_assoc]
          have := HSr.out
          rw [List.take_length] at this
          exact this)
        go_wp2_with fail
        go_roundw
        case rel => exact ⟨j + 1, by omega, by go_num, HE8, HOr, HBr⟩
        case measure => simp [intOf]; omega
    · obtain rfl : j = b.phis.length := by omega
      have HE9 := Lib.hid (show St U wr base B bl.length 0 c (phS (setsPh bl (k + 1)) (usesPh bl E (k + 1))) vi (LI E) vg gr from by
        rw [setsPh_next HX.out, usesPh_next HX.out]
        have := HSr.out
        rw [List.take_length, List.take_of_length_le (by unfold setsB; rw [List.length_map]; exact Nat.le_refl _)] at this
        exact this)
      go_wp2_with fail
      go_roundw
      case rel => exact ⟨k + 1, by omega, by go_num, HE9, HOr, HBr⟩
      case measure => simp [intOf]; omega
  · obtain rfl : k = bl.length := by omega
    go_wp2_with fail
    go_end0
    exact ⟨rfl, HSr.out, HB.out.trans HBr.out⟩
end Go.Proofs.YtdgmdpphimenjaaDoor.Lv12

/-
  Layer 12: what is known of blocks when nothing grows any more.
-/
namespace Go.Proofs.YtdgmdpphimenjaaDoor.Lv12
open Go.RowKit Api Mem Sh8 Go.Maps

/-- what a function must be for its liveness to be told, its names being among U. -/
structure FOk (U : List Wd) (bl : List Api.Block) : Prop where
  pos : 0 < bl.length
  few : bl.length ≤ 1000000
  nU : bl.length * U.length ≤ 1000000000000
  nm : ∀ b ∈ bl, b.name.length ≤ 140737488351232
  dl : ∀ b ∈ bl, ∀ x ∈ b.fin.dest, x.length ≤ 140737488351232
  dn : ∀ b ∈ bl, ∀ x ∈ b.fin.dest, x ∈ names bl
  el : (edgesTo bl bl.length).length ≤ 1000000000000
  uT : ∀ b ∈ bl, ∀ x ∈ usesT b.fin, x ∈ U
  uI : ∀ b ∈ bl, ∀ i ∈ b.code, i.dst ∈ U ∧ ∀ x ∈ usesI i, x ∈ U
  cl : ∀ b ∈ bl, b.code.length ≤ 1000000000000
  ph : ∀ b ∈ bl, ∀ p ∈ b.phis, p.dst ∈ U ∧ ∀ q ∈ p.ins, q.name.length ≤ 140737488351232 ∧ ∀ x ∈ namesA [q.a], x ∈ U
abbrev EG (bl : List Api.Block) : List Edge := edgesTo bl bl.length
theorem edges_lt {bl : List Api.Block} (h0 : 0 < bl.length) : ∀ e ∈ EG bl, e.1 < bl.length ∧ e.2 < bl.length := by
  intro e he
  refine ⟨(edges_sorted bl bl.length).2 e he, ?_⟩
  unfold EG edgesTo at he
  obtain ⟨i, _, h2⟩ := List.mem_flatMap.1 he
  unfold edgesOf at h2
  split at h2
  · obtain ⟨x, _, rfl⟩ := List.mem_map.1 h2
    show (plc (names bl) x).getD 0 < _
    cases e : plc (names bl) x with
    | none => exact h0
    | some k => have := plc_lt e; rwa [names_len] at this
  · cases h2
/-- what is used at the end of block i, phis on the ways from it included. -/
def endS (bl : List Api.Block) (i : Nat) (b : Api.Block) : Wd → Bool := orS (fun y => decide ((i, y) ∈ usesPh bl (EG bl) bl.length)) (usesT b.fin)
/-- all sets, when so many blocks have been gone over. -/
def SF (bl : List Api.Block) (k x : Nat) : Wd → Bool := match bl[x / 4]? with
  | some b => if x / 4 < k then (if x % 4 = 0 then phS (setsPh bl bl.length) (usesPh bl (EG bl) bl.length) x else if x % 4 = 1 then orS (fun _ => false) (setsL b.code) else if x % 4 = 2 then endS bl (x / 4) b else backL b.code (endS bl (x / 4) b)) else phS (setsPh bl bl.length) (usesPh bl (EG bl) bl.length) x
  | none => phS (setsPh bl bl.length) (usesPh bl (EG bl) bl.length) x
theorem SF_zero (bl : List Api.Block) : SF bl 0 = phS (setsPh bl bl.length) (usesPh bl (EG bl) bl.length) := funext fun x => by
  unfold SF
  split
  · rw [if_neg (Nat.not_lt_zero _)]
  · rfl
theorem SF_out (bl : List Api.Block) {k x : Nat} (h : k ≤ x / 4) : SF bl k x = phS (setsPh bl bl.length) (usesPh bl (EG bl) bl.length) x := by
  unfold SF
  split
  · rw [if_neg (by omega)]
  · rfl
theorem SF_next {bl : List Api.Block} {k : Nat} {b : Api.Block} (hb : bl[k]? = some b) {X : Wd → Bool} (hX : ∀ y, X y = orS (SF bl k (4 * k + 1)) (setsL b.code) y) :
    upd (upd (upd (SF bl k) (4 * k + 2) (orS (SF bl k (4 * k + 2)) (usesT b.fin))) (4 * k + 3) (backL b.code (orS (SF bl k (4 * k + 2)) (usesT b.fin)))) (4 * k + 1) X = SF bl (k + 1) := by
  have h2 : orS (SF bl k (4 * k + 2)) (usesT b.fin) = endS bl k b := by
    rw [SF_out bl (by omega)]
    unfold endS
    congr 1
    funext y
    unfold phS
    rw [if_neg (by omega), if_pos (by omega), show (4 * k + 2) / 4 = k by omega]
  have h1 : X = orS (fun _ => false) (setsL b.code) := by
    funext y
    rw [hX y, SF_out bl (by omega)]
    unfold orS phS
    rw [if_neg (by omega), if_neg (by omega)]
  rw [h2, h1]
  funext x
  have hat : ∀ j, j < 4 → x = 4 * k + j → SF bl (k + 1) x = (if x % 4 = 0 then phS (setsPh bl bl.length) (usesPh bl (EG bl) bl.length) x else if x % 4 = 1 then orS (fun _ => false) (setsL b.code) else if x % 4 = 2 then endS bl (x / 4) b else backL b.code (endS bl (x / 4) b)) := by
    intro j hj e
    unfold SF
    rw [show x / 4 = k by omega, hb]
    simp only
    rw [if_pos (by omega)]
  by_cases e1 : x = 4 * k + 1
  · rw [hat 1 (by omega) e1, e1, upd_at, if_neg (by omega), if_pos (by omega)]
  · rw [upd_ne _ _ e1]
    by_cases e3 : x = 4 * k + 3
    · rw [hat 3 (by omega) e3, e3, upd_at, if_neg (by omega), if_neg (by omega), if_neg (by omega), show (4 * k + 3) / 4 = k by omega]
    · rw [upd_ne _ _ e3]
      by_cases e2 : x = 4 * k + 2
      · rw [hat 2 (by omega) e2, e2, upd_at, if_neg (by omega), if_neg (by omega), if_pos (by omega), show (4 * k + 2) / 4 = k by omega]
      · rw [upd_ne _ _ e2]
        by_cases e0 : x = 4 * k
        · rw [hat 0 (by omega) e0, if_pos (by omega), SF_out bl (by omega)]
        · unfold SF
          split
          · have : x / 4 ≠ k := by omega
            by_cases e : x / 4 < k
            · rw [if_pos e, if_pos (show x / 4 < k + 1 by omega)]
            · rw [if_neg e, if_neg (show ¬ x / 4 < k + 1 by omega)]
          · rfl
/-- what is live at the first place of block i. -/
abbrev LvB (bl : List Api.Block) : Nat → Wd → Prop := LvS (EG bl) bl.length (SF bl bl.length)
/-- what comes of it. -/
def FolP (U : List Wd) (bl : List Api.Block) (w : World) (e : Ending) (w' : World) : Prop := ∃ B c vi vg gr L, e = .returned (.slice (some ⟨B, 0, none⟩) bl.length bl.length) ∧ St U w' w.heap.size B bl.length bl.length c (mix (SF bl bl.length) L) vi (LI (EG bl)) vg gr ∧ (∀ i x, i < bl.length → (L i x = true ↔ LvB bl i x)) ∧ Below w.heap.size w w'
/-- between two blocks that are gone over. -/
def BgS (U : List Wd) (bl : List Api.Block) (base B : Nat) (vi : Nat → Value) (k : Nat) (wr : World) : Prop := ∃ c vg gr, St U wr base B bl.length k c (SF bl k) vi (LI (EG bl)) vg gr ∧ (∀ i, i < k → (gr i).Nodup ∧ ∀ x, x ∈ gr i ↔ SF bl k (4 * i + 3) x = true) ∧ (∀ i, k ≤ i → vg i = .slice none 0 0 ∧ gr i = [])
theorem SF_keep {bl : List Api.Block} {k i : Nat} (h : i < k) (hi : i < bl.length) : SF bl (k + 1) (4 * i + 3) = SF bl k (4 * i + 3) := by
  unfold SF
  rw [show (4 * i + 3) / 4 = i by omega, List.getElem?_eq_getElem hi]
  simp only
  rw [if_pos (by omega), if_pos h]
set_option maxRecDepth 100000 in
set_option maxHeartbeats 8000000 in
theorem follow_any {U : List Wd} (hU : UOk U) (lo hi : Nat) (w : World) (cs : List Value) (f : Api.Func) (hf : FuncC lo hi w cs f) (hh : hi ≤ w.heap.size) (ho : FOk U f.blocks) :
    Calls Tryd.prog 37 #[.agg cs.toArray] w (FolP U f.blocks w) := by
  have hf0 := hf
  obtain ⟨u1, u2, u3, rfl, kp, kv, kb⟩ := hf
  obtain ⟨nm, rs, ps, vs, bl⟩ := f
  simp only at kp kv kb ho ⊢
  obtain ⟨A1, k1, rfl⟩ := kp.form
  obtain ⟨A2, k2, rfl⟩ := kv.form
  obtain ⟨A3, k3, rfl⟩ := kb.form
  obtain ⟨W0, hW0⟩ : ∃ W0, w.alloc (.cells #[str nm, str rs, .slice A1 ps.length k1, .slice A2 vs.length k2, .slice A3 bl.length k3] 37) = W0 := ⟨_, rfl⟩
  obtain ⟨hO0, hbx, hz0⟩ := box8 (c := [str nm, str rs, .slice A1 ps.length k1, .slice A2 vs.length k2, .slice A3 bl.length k3]) hW0
  have HO0 := Lib.hid hO0
  have HBX := Lib.hid hbx
  have HW0 := Lib.hid hW0
  have HF := Lib.hid hf0
  have KB := Lib.hid kb
  have HOK := Lib.hid ho
  have hlt0 := hO0.lt
  have hn1 : bl.length ≤ 1000000 := ho.few
  have hn0 : 0 < bl.length := ho.pos
  have HQ1 := Lib.hid (lplaces_any lo hi W0 _ _ (FuncC.move (Still.of_below (hbx.mono hh)) hf0) (Nat.le_trans hh hbx.size) (fun b' hb' => ho.nm b' hb'))
  clear hf0 kp kv kb hO0 hbx hW0 ho
  go_enter Tryd.func37, Tryd.ntmps37
  go_wp2_with fail
  rw [HW0.out]
  refine HQ1.out.mono ?_
  rintro e w1 ⟨gm, rfl, hgm1, hgm2, hb1⟩
  have HB1 := Lib.hid (HBX.out.trans (hb1.mono HBX.out.size))
  have HO1 := Lib.hid (HO0.out.below hb1 hlt0)
  have hh1 : hi ≤ w1.heap.size := Nat.le_trans hh HB1.out.size
  have HF1 := Lib.hid (FuncC.move (Still.of_below (HB1.out.mono hh)) HF.out)
  have HM1 := Lib.hid hgm2
  have HQ2 := Lib.hid (linked_any U lo hi w1 _ _ HF1.out hh1 HOK.out.dl gm _ hgm2 hn0 hn1 HOK.out.el HOK.out.dn)
  have f4 := HO1.out.cell 4
  have f0 := HO1.out.cell 0
  have f1 := HO1.out.cell 1
  have f2 := HO1.out.cell 2
  have f3 := HO1.out.cell 3
  simp only [List.getElem?_cons_zero, List.getElem?_cons_succ] at f0 f1 f2 f3 f4
  clear hb1 hgm2
  go_wp2_with fail
  refine HQ2.out.mono ?_
  rintro e w2 ⟨B, c, vi, rfl, hst2, hb2⟩
  have HB2 := Lib.hid (HB1.out.trans (hb2.mono HB1.out.size))
  have HO2 := Lib.hid (HO1.out.below hb2 HO1.out.lt)
  have HF2 := Lib.hid (FuncC.move (Still.of_below (HB2.out.mono hh)) HF.out)
  have hb12 : w1.heap.size ≤ w2.heap.size := hb2.size
  have HQ3 := Lib.hid (layPhis_any hU lo hi _ _ HF2.out hh1 hst2 hb12 gm _ (own_belowM HM1.out hb2 HM1.out.lt) HM1.out.lt (edges_lt hn0) HOK.out.el (srcs_sorted _ _) HOK.out.ph)
  clear hst2 hb2 f0 f1 f2 f3 f4
  have f4 := HO2.out.cell 4
  have f0 := HO2.out.cell 0
  have f1 := HO2.out.cell 1
  have f2 := HO2.out.cell 2
  have f3 := HO2.out.cell 3
  simp only [List.getElem?_cons_zero, List.getElem?_cons_succ] at f0 f1 f2 f3 f4
  go_wp2_with fail
  refine HQ3.out.mono ?_
  rintro e w3 ⟨rfl, hst3, hb3⟩
  have HB3 := Lib.hid (HB2.out.trans (hb3.mono (HB1.out.size)))
  have hb13 : w1.heap.size ≤ w3.heap.size := by have := hb3.size; omega
  have hO3 : Mem.Own w3 w.heap.size 37 [str nm, str rs, .slice A1 ps.length k1, .slice A2 vs.length k2, .slice A3 bl.length k3] := HO2.out.below hb3 (by have := HO1.out.lt; omega)
  have HO3 := Lib.hid hO3
  have HS3 := Lib.hid (show BgS U bl w1.heap.size B vi 0 w3 from ⟨_, _, _, by rw [SF_zero]; exact hst3, fun i h => absurd h (Nat.not_lt_zero _), fun i _ => ⟨rfl, rfl⟩⟩)
  have HBr3 := Lib.hid (Below.refl w1.heap.size w3)
  have hlw : w.heap.size < w1.heap.size := HO1.out.lt
  clear f0 f1 f2 f3 f4 hO3 hst3 hb3 HQ1 HQ2 HQ3
  have f4' := HO3.out.cell 4
  simp only [List.getElem?_cons_zero, List.getElem?_cons_succ] at f4'
  go_wp2_with fail
  go_loopw [18] (fun iv wr => ∃ k : Nat, k ≤ bl.length ∧ iv = .int .i64 k ∧ Hid (BgS U bl w1.heap.size B vi k wr) ∧ Hid (Below w1.heap.size w3 wr)) (fun iv _ => bl.length - (intOf iv).toNat)
  case atStart => exact ⟨0, Nat.zero_le _, rfl, HS3, HBr3⟩
  case round =>
  clear f4' HS3 HBr3
  obtain ⟨k, hk, rfl, HS, HBr⟩ := hrel
  have hsz : w1.heap.size ≤ wr.heap.size := by have := HBr.out.size; omega
  by_cases hlt : k < bl.length
  · obtain ⟨b, hx⟩ : ∃ y, bl[k]? = some y := ⟨_, List.getElem?_eq_getElem hlt⟩
    obtain ⟨b3, o3, rfl, hb3, cs3, hcl3, hcs3, hbc⟩ := row_at KB.out hx
    have hbW : Below hi w wr := (HB3.out.mono hh).trans (HBr.out.mono hh1)
    have hO4 := HO3.out.below (HBr.out) hlw
    have f4 := hO4.cell 4
    simp only [List.getElem?_cons_zero, List.getElem?_cons_succ] at f4
    have hbc3 := BlockC.move (Still.of_below hbW) hbc
    have hc3 := cells_later hcs3 hbW hb3
    obtain ⟨c5, vg5, gr5, hst5, hg5, hn5⟩ := HS.out
    have hbm := List.mem_of_getElem? hx
    have HQ4 := Lib.hid (show Calls Tryd.prog 65 #[.pointer (some ⟨B, k * 7, none⟩), .agg cs3.toArray] wr.drew _ from begin_any hU hst5.drew hsz hlt (hn5 k (Nat.le_refl _)).1 (hn5 k (Nat.le_refl _)).2 lo hi cs3 b (BlockC.move (Still.of_below (Below.refl hi wr).drew) hbc3) hh1 (HOK.out.uT b hbm) (HOK.out.uI b hbm) (HOK.out.cl b hbm))
    have HX := Lib.hid hx
    have HG5 := Lib.hid hg5
    have HN5 := Lib.hid hn5
    obtain ⟨y1, y2, cs4, rfl, _, _, y3, rfl, _⟩ := hbc3
    obtain ⟨m0, m1, m2, m3, m4, m5, m6, m7, m8⟩ := at9 hc3
    clear hc3 hcs3 hbc hbW hO4 hst5 hg5 hn5 hbm hx HS
    go_wp2_with fail
    go_still_tail 8, (by kernel_rfl)
    change wpList _ _ _ _ _ wr.drew
    go_wp2_with fail
    refine HQ4.out.mono ?_
    rintro e w5 ⟨rfl, g, v, q, X, hst5, hX, hqn, hqm, hql, hb5⟩
    have HN := Lib.hid (show BgS U bl w1.heap.size B vi (k + 1) w5 from by
      rw [SF_next HX.out hX] at hst5
      refine ⟨_, _, _, hst5, fun i hi => ?_, fun i hi => ?_⟩
      · by_cases e : i = k
        · subst e
          rw [upd_at]
          refine ⟨hqn, fun x => ?_⟩
          rw [hqm x, ← SF_next HX.out hX, upd_ne _ _ (by omega), upd_at]
        · rw [upd_ne _ _ e, SF_keep (by omega) (by omega)]
          exact HG5.out i (by omega)
      · rw [upd_ne _ _ (by omega), upd_ne _ _ (by omega)]
        exact HN5.out i (by omega))
    have HB5 := Lib.hid (HBr.out.trans (below_of_drew hb5))
    clear hst5 hX hqn hqm hql hb5 f4 m0 m1 m2 m3 m4 m5 m6 m7 m8
    go_wp2_with fail
    go_roundw
    case rel => exact ⟨k + 1, by omega, by go_num, HN, HB5⟩
    case measure => simp [intOf]; omega
  · obtain rfl : k = bl.length := by omega
    obtain ⟨c5, vg5, gr5, hst5, hg5, hn5⟩ := HS.out
    have HQ5 := Lib.hid (spread_any hU hst5 hsz (edges_lt hn0) HOK.out.el (by omega) HOK.out.nU hg5)
    have h15 : w.heap.size ≤ w1.heap.size := HB1.out.size
    clear hst5 hg5 hn5 HS
    go_wp2_with fail
    refine HQ5.out.mono ?_
    rintro e w6 ⟨rfl, ⟨L, vg6, gr6, hst6, hL6⟩, hb6⟩
    have HST6 := Lib.hid hst6
    have HL6 := Lib.hid hL6
    have HB6 := Lib.hid ((HB3.out.trans (HBr.out.mono h15)).trans (hb6.mono h15))
    clear hst6 hb6 hL6
    go_wp2_with fail
    go_ret
    exact ⟨B, c5, vi, vg6, gr6, L, rfl, HST6.out.lower h15, HL6.out, HB6.out⟩
end Go.Proofs.YtdgmdpphimenjaaDoor.Lv12

/-
  Layer 12: what is live at the last place of a block.
-/
namespace Go.Proofs.YtdgmdpphimenjaaDoor.Lv12
open Go.RowKit Api Mem Sh8 Go.Maps

/-- what is live at the last place of block i. -/
def lastS (E : List Edge) (S : Nat → Wd → Bool) (i : Nat) (y : Wd) : Bool := S (4 * i + 2) y || (dsts E i).any fun t => S (4 * t + 3) y && !S (4 * t) y
def lastN (l : List Nat) (S : Nat → Wd → Bool) (i k : Nat) (y : Wd) : Bool := S (4 * i + 2) y || (l.take k).any fun t => S (4 * t + 3) y && !S (4 * t) y
theorem lastN_zero (l : List Nat) (S : Nat → Wd → Bool) (i : Nat) : lastN l S i 0 = S (4 * i + 2) := funext fun y => by simp [lastN]
theorem lastN_next {l : List Nat} {k t : Nat} (h : l[k]? = some t) (S : Nat → Wd → Bool) (i : Nat) (y : Wd) : lastN l S i (k + 1) y = (lastN l S i k y || (S (4 * t + 3) y && !S (4 * t) y)) := by
  unfold lastN
  rw [take_at h, List.any_append]
  simp [Bool.or_assoc]
/-- what the copy holds while a set is gone through: what it held, and what is behind. -/
def GoT (T0 P : Wd → Bool) (D : DataW Unit) (left : Lit → Bool) (T : Wd → Bool) : Prop := (∀ kl, left kl = true → has D kl = true) ∧ ∀ y, T y = (T0 y || (has D (kS y) && !left (kS y) && !P y))
theorem GoT.start (T0 P : Wd → Bool) (D : DataW Unit) : GoT T0 P D (has D) T0 := ⟨fun _ h => h, fun y => by cases has D (kS y) <;> simp⟩
theorem same_kS (y x : Wd) : (kS y).sameKey (kS x) = decide (y = x) := by
  by_cases e : y = x
  · subst e; simp [Lit.sameKey]
  · simp [Lit.sameKey, e]
theorem GoT.skip {T0 P : Wd → Bool} {D : DataW Unit} {left : Lit → Bool} {T : Wd → Bool} (h : GoT T0 P D left T) {x : Wd} (hp : P x = true) : GoT T0 P D (fun z => left z && !z.sameKey (kS x)) T := by
  refine ⟨fun kl hk => h.1 kl (by simp only [Bool.and_eq_true] at hk; exact hk.1), fun y => ?_⟩
  rw [h.2 y]
  show _ = (_ || has D (kS y) && !(left (kS y) && !(kS y).sameKey (kS x)) && !P y)
  rw [same_kS]
  by_cases e : y = x
  · subst e; simp [hp]
  · simp [e]
theorem GoT.add {T0 P : Wd → Bool} {D : DataW Unit} {left : Lit → Bool} {T : Wd → Bool} (h : GoT T0 P D left T) {x : Wd} (hx : left (kS x) = true) (hp : P x = false) : GoT T0 P D (fun z => left z && !z.sameKey (kS x)) (addS T x) := by
  refine ⟨fun kl hk => h.1 kl (by simp only [Bool.and_eq_true] at hk; exact hk.1), fun y => ?_⟩
  unfold addS
  rw [h.2 y]
  show _ = (_ || has D (kS y) && !(left (kS y) && !(kS y).sameKey (kS x)) && !P y)
  rw [same_kS]
  by_cases e : y = x
  · subst e; simp [hp, h.1 _ hx]
  · simp [e]
theorem GoT.fin {T0 P : Wd → Bool} {D : DataW Unit} {left : Lit → Bool} {T : Wd → Bool} (h : GoT T0 P D left T) (h0 : ∀ kl, left kl = false) : ∀ y, T y = (T0 y || (has D (kS y) && !P y)) := fun y => by rw [h.2 y, h0]; simp
section
variable {P : Program} (w : World) {ops : Array Oper} {rest : List Oper} {o : Oper} {a : Go.Act} {Q : Exit → Go.Act → World → Prop}
/-- the step through a set of names. -/
theorem next_set (hg : o.guard = none) (it : Operand) (hop : o.op = Op.next it false) (k : TypeId) (K : Keyed P k) (hk : P.underlying k = some .string) (b r n : Nat) (D : DataW Unit) (left : Lit → Bool) (cnt : Nat)
    (hit : a.eval it = .pointer (some ⟨r, 0, none⟩)) (h : w.ranges P k unitElem b r n D left cnt)
    (hDone : cnt = 0 → (∀ kl, left kl = false) → wpList P ops Q rest (a.put o.dst (.tuple #[.bool false])) w)
    (hMore : ∀ (x : Wd) (w' : World) (cnt' : Nat), left (kS x) = true → w'.ranges P k unitElem b r n D (fun z => left z && !z.sameKey (kS x)) cnt' → cnt' < cnt →
      w.grownBy w' (some r) → w'.heap.size = w.heap.size → (Instr.entry (.pointer (some ⟨r, 0, none⟩))).run P w' = .ok (.tuple #[str x, .agg #[]]) w' → wpList P ops Q rest (a.put o.dst (.tuple #[.bool true, str x, .agg #[]])) w') :
    wpList P ops Q (o :: rest) a w :=
  wpList_next_ranges w hg it hop k K unitElem str (fun _ : Unit => .agg #[])
    (fun key kl hkey => by
      obtain ⟨x, rfl, _, _⟩ := Maps.keyOf_str hk hkey
      exact ⟨x, rfl⟩)
    (fun v y hv => by
      obtain ⟨d, ps⟩ := y
      obtain ⟨rfl, _⟩ := unitElem_inv hv
      exact ⟨(), rfl⟩)
    b r n D left cnt hit h hDone (fun x c kl y w' cnt' hkey hlk hv hat hrg hlt hgr hsz hen => by
      obtain ⟨x', e1, rfl, _⟩ := Maps.keyOf_str hk hkey
      have e2 : x.toArray = x'.toArray := by
        have : (⟨x.toArray⟩ : ByteArray) = ⟨x'.toArray⟩ := by injection e1
        injection this
      obtain rfl : x = x' := by simpa using congrArg Array.toList e2
      exact hMore x w' cnt' hlk hrg hlt hgr hsz hen)
end
set_option maxRecDepth 100000 in
set_option maxHeartbeats 8000000 in
theorem last_any {U : List Wd} (hU : UOk U) {w : World} {base B n : Nat} {c : Nat → Nat} {S : Nat → Wd → Bool} {vi : Nat → Value} {E : List Edge} {vg : Nat → Value} {gr : Nat → List Wd} (h : St U w base B n n c S vi (LI E) vg gr) (hb : base ≤ w.heap.size) {i : Nat} (hi : i < n) (hE : ∀ e ∈ E, e.1 < n ∧ e.2 < n) (hEl : E.length ≤ 1000000000000) (hn : n ≤ 1000000) :
    Calls Tryd.prog 57 #[.slice (some ⟨B, 0, none⟩) n n, .int .i64 (i : Int)] w fun e w' => ∃ g, e = .returned (.map (some g)) ∧ w.heap.size ≤ g ∧ SetO U w' g (lastS E S i) ∧ Below w.heap.size w w' := by
  have n4 := (h.cell hi (show 4 < 7 by omega)).trans (congrArg some (show FF n c vi vg i 4 = .map (some (c (4 * i + 2))) from rfl))
  have HQ := Lib.hid (mclone_any (h.ms.set (4 * i + 2) ⟨by omega, fun h => by omega⟩))
  have HST := Lib.hid h
  have HE := Lib.hid hE
  obtain ⟨F, hF⟩ : ∃ F, dsts E i = F := ⟨_, rfl⟩
  have hFl : F.length ≤ 1000000000000 := by
    rw [← hF]
    unfold dsts
    rw [List.length_map]
    exact Nat.le_trans (List.length_filter_le _ _) hEl
  have HF := Lib.hid hF
  clear h hE hEl hF
  go_enter Tryd.func57, Tryd.ntmps57
  go_wp2_with fail
  refine HQ.out.mono ?_
  rintro e w2 ⟨rfl, h2, b2⟩
  have hst2 := HST.out.below b2
  have hr := hst2.ri.own (2 * i) (by omega)
  rw [LI_even, HF.out, List.length_map, List.map_map] at hr
  obtain ⟨A6, k6, hv6⟩ := row_form hr
  have n0 := (hst2.cell hi (show 0 < 7 by omega)).trans (congrArg some (show FF n c vi vg i 0 = vi (2 * i) from rfl))
  rw [hv6] at n0 hr
  simp only [Nat.add_zero] at n0
  have HR := Lib.hid hr
  have HV6 := Lib.hid hv6
  have HT := Lib.hid (show SetO U w2 w.heap.size (lastN F S i 0) by rw [lastN_zero]; exact h2)
  have HB2 := Lib.hid b2
  clear hst2 hv6 h2 b2 n4 HQ hr
  go_wp2_with fail
  go_loopw [21] (fun iv wr => ∃ k : Nat, k ≤ F.length ∧ iv = .int .i64 k ∧ Hid (SetO U wr w.heap.size (lastN F S i k)) ∧ Hid (Below w.heap.size w2 wr)) (fun iv _ => F.length - (intOf iv).toNat)
  case atStart => exact ⟨0, Nat.zero_le _, rfl, HT, Lib.hid (Below.refl _ _)⟩
  case round =>
  clear HT n0
  obtain ⟨k, hk, rfl, HT, HBr⟩ := hrel
  have hsw : w.heap.size ≤ w2.heap.size := HB2.out.size
  by_cases hlt : k < F.length
  · obtain ⟨t, ht⟩ : ∃ t, F[k]? = some t := ⟨_, List.getElem?_eq_getElem hlt⟩
    have htn : t < n := (HE.out _ (mem_dsts.1 (by rw [HF.out]; exact List.mem_of_getElem? ht))).2
    have hall : Below w.heap.size w wr := HB2.out.trans HBr.out
    have hst := HST.out.below hall
    have hri := hst.ri.own (2 * i) (by omega)
    have hri2 := HR.out
    have hv6 : vi (2 * i) = .slice A6 F.length k6 := by
      have := hst.ri.own (2 * i) (by omega)
      rw [LI_even, HF.out, List.length_map, List.map_map] at this
      exact HV6.out
    rw [LI_even, HF.out, List.length_map, List.map_map, hv6] at hri
    obtain ⟨b6, rfl, hb6, hb66⟩ := own_addr hri hlt
    have n0 := own_at hri (show (F.map _)[k]? = some (i64 (t : Int)) by rw [List.getElem?_map, ht]; rfl)
    have n5 := (hst.cell htn (show 5 < 7 by omega)).trans (congrArg some (show FF n c vi vg t 5 = .map (some (c (4 * t + 3))) from by simp [FF, htn]))
    obtain ⟨D, hD1, hD2, hD3, hD4, hD5, hD6⟩ := (hst.ms.set (4 * t + 3) ⟨by omega, fun _ => by omega⟩).keys
    have HD := Lib.hid hD1
    have HD2 := Lib.hid hD2
    have HNX := Lib.hid (fun y => lastN_next ht S i y)
    have HC := Lib.hid (show (∀ x, OkM n n x → c x < w.heap.size) from fun x hx => (HST.out.ms.set x hx).lt)
    clear hst hri hri2 hv6 ht hD1 hD2 hD3 hD4 hD5 hD6
    go_wp2_with (at_range; refine wpList_range_own _ rfl _ 94 rfl 9 150 lawS Tryd.underlying94 _ (c (4 * t + 3)) _ D rfl HD.out ?_; intro w0 hrg0 hg0 hs0)
    go_frame
    obtain ⟨rb, hrb⟩ : ∃ r, wr.heap.size = r := ⟨_, rfl⟩
    rw [hrb] at hrg0 hs0 ⊢
    have hb0 : Below wr.heap.size wr w0 := (Below.refl _ _).grown hg0 (Nat.le_refl _) (fun j hj => by cases hj)
    have hrbs : w.heap.size < rb := by have := HT.out.lt; omega
    have HRG0 := Lib.hid hrg0
    have HG0 := Lib.hid (GoT.start (lastN F S i k) (S (4 * t)) D)
    have HT0 := Lib.hid (HT.out.grown hg0 (by simp))
    have HBr0 := Lib.hid (show Below w.heap.size w2 w0 from HBr.out.trans (hb0.mono (by omega)))
    clear hrg0 hg0 hs0 hb0 HT HBr hrb n0 n5
    go_loopw [8] (fun _ wr => ∃ (left : Lit → Bool) (cnt : Nat) (T : Wd → Bool), Hid (wr.ranges Tryd.prog 9 unitElem (c (4 * t + 3)) rb (size D) D left cnt) ∧ Hid (GoT (lastN F S i k) (S (4 * t)) D left T) ∧ Hid (SetO U wr w.heap.size T) ∧ Hid (Below w.heap.size w2 wr)) (fun _ wr => wr.rangeLeft (c (4 * t + 3)) rb)
    case atStart => exact ⟨_, _, _, HRG0, HG0, HT0, HBr0⟩
    case round =>
    clear HRG0 HG0 HT0 HBr0
    obtain ⟨left, cnt, T, HRG, HGO, HT, HBr⟩ := hrel
    go_wp2_with (at_next; refine next_set _ rfl _ rfl 9 lawS Tryd.underlying9 (c (4 * t + 3)) rb _ D _ _ rfl HRG.out ?_ ?_)
    · intro hc0 hl0
      have HE9 := Lib.hid (HT.out.same (S' := lastN F S i (k + 1)) (fun y => by rw [HGO.out.fin hl0 y, HD2.out, HNX.out]))
      clear hl0
      go_wp2_with fail
      go_roundw
      case rel => exact ⟨k + 1, by omega, by go_num, HE9, HBr⟩
      case measure => simp [intOf]; omega
    · intro x w1 cnt1 hlx hrg1 hlt1 hg1 hs1 hen
      have hxU : x ∈ U := (HST.out.ms.set (4 * t + 3) ⟨by omega, fun _ => by omega⟩).2 x (by rw [← HD2.out]; exact HGO.out.1 _ hlx)
      have HBr1 := Lib.hid (show Below w.heap.size w2 w1 from HBr.out.grown hg1 (by have := HBr.out.size; omega) (fun j hj => by cases hj; omega))
      have hst1 := HST.out.below (HB2.out.trans HBr1.out)
      have n2 := (hst1.cell htn (show 2 < 7 by omega)).trans (congrArg some (show FF n c vi vg t 2 = .map (some (c (4 * t))) from rfl))
      have HT1 := Lib.hid (HT.out.grown hg1 (by simp only [ne_eq, Option.some.injEq]; omega))
      obtain ⟨d, hd⟩ : ∃ d, S (4 * t) x = d := ⟨_, rfl⟩
      have hqs := has_any (hst1.ms.set (4 * t) ⟨by omega, fun h => by omega⟩) x (hU.nm x hxU)
      rw [hd] at hqs
      have HQ1 := Lib.hid hqs
      have HRG1 := Lib.hid hrg1
      have HDD := Lib.hid hd
      have HLX := Lib.hid hlx
      have HLT := Lib.hid hlt1
      clear hrg1 hlt1 hg1 hs1 hst1 hqs hd hlx
      go_wp2_with fail
      refine HQ1.out.mono ?_
      rintro e w5 ⟨rfl, g5⟩
      have HRG5 := Lib.hid (HRG1.out.kept g5 (by simp) (by simp))
      have HT5 := Lib.hid (HT1.out.grown g5 (by simp))
      have HB5 := Lib.hid (show Below w.heap.size w2 w5 from HBr1.out.grown g5 (by have := HBr1.out.size; omega) (fun j hj => by cases hj))
      clear g5 hen n2 HQ1
      cases d with
      | true =>
        have HG5 := Lib.hid (HGO.out.skip HDD.out)
        go_wp2_with fail
        go_roundw
        case rel => exact ⟨_, cnt1, T, HRG5, HG5, HT5, HB5⟩
        case measure => rw [HRG5.out.left_eq, HRG.out.left_eq]; exact HLT.out
      | false =>
        have HG5 := Lib.hid (HGO.out.add HLX.out HDD.out)
        have HA := Lib.hid (add_any hU HT5.out x hxU)
        have hcl := HC.out (4 * t + 3) ⟨by omega, fun _ => by omega⟩
        go_wp2_with fail
        refine HA.out.mono ?_
        rintro e w7 ⟨rfl, h7, g7⟩
        have HRG7 := Lib.hid (HRG5.out.kept g7 (by simp only [ne_eq, Option.some.injEq]; omega) (by simp only [ne_eq, Option.some.injEq]; omega))
        have HT7 := Lib.hid h7
        have HB7 := Lib.hid (show Below w.heap.size w2 w7 from HB5.out.grown g7 (by have := HB5.out.size; omega) (fun j hj => by cases hj; omega))
        clear g7 h7
        go_wp2_with fail
        go_roundw
        case rel => exact ⟨_, cnt1, _, HRG7, HG5, HT7, HB7⟩
        case measure => rw [HRG7.out.left_eq, HRG.out.left_eq]; exact HLT.out
  · obtain rfl : k = F.length := by omega
    have HFIN := Lib.hid (HT.out.same (S' := lastS E S i) (fun y => by unfold lastN lastS; rw [List.take_length, HF.out]))
    go_wp2_with fail
    go_ret
    exact ⟨_, rfl, Nat.le_refl _, HFIN.out, HB2.out.trans HBr.out⟩
end Go.Proofs.YtdgmdpphimenjaaDoor.Lv12

/-
  Layer 12: what is live at a place of a function.
-/
namespace Go.Proofs.YtdgmdpphimenjaaDoor.Lv12
open Go.RowKit Go.Shelf Api Mem Sh8 Go.Maps
attribute [local go_sem] Oper.semAt_some
/-- what is live at the last place of block i. -/
def LastP (bl : List Api.Block) (i : Nat) (y : Wd) : Prop := SF bl bl.length (4 * i + 2) y = true ∨ ∃ t, t ∈ dsts (EG bl) i ∧ LvB bl t y ∧ SF bl bl.length (4 * t) y = false
/-- what is live ahead of instructions. -/
def BackP : List Instr → (Wd → Prop) → Wd → Prop
  | [], S, y => S y
  | x :: r, S, y => y ∈ usesI x ∨ (¬ (x.dst ≠ [] ∧ y = x.dst) ∧ BackP r S y)
/-- what is live at place k of block i, which is b. -/
def AtL (bl : List Api.Block) (i : Nat) (b : Api.Block) (k : Nat) (y : Wd) : Prop := BackP (b.code.drop k) (LastP bl i) y
theorem backL_iff {S : Wd → Bool} {Q : Wd → Prop} (h : ∀ y, S y = true ↔ Q y) : ∀ {l : List Instr} (y : Wd), backL l S y = true ↔ BackP l Q y
  | [], y => h y
  | x :: r, y => by
    have ih := backL_iff h (l := r) y
    show backI x (backL r S) y = true ↔ y ∈ usesI x ∨ (¬ (x.dst ≠ [] ∧ y = x.dst) ∧ BackP r Q y)
    rw [← ih]
    unfold backI orS delS
    by_cases e : x.dst = []
    · simp [e, or_comm]
    · by_cases e2 : y = x.dst
      · simp [e, e2]
      · simp [e, e2, or_comm]
theorem last_iff {bl : List Api.Block} {i : Nat} {L0 : Nat → Wd → Bool} (h0 : 0 < bl.length) (hi : i < bl.length) (hL : ∀ i x, i < bl.length → (L0 i x = true ↔ LvB bl i x)) (y : Wd) : lastS (EG bl) (mix (SF bl bl.length) L0) i y = true ↔ LastP bl i y := by
  unfold lastS LastP
  rw [Bool.or_eq_true, List.any_eq_true, mix_ne _ _ (by omega)]
  refine or_congr Iff.rfl ⟨fun ⟨t, ht, h⟩ => ⟨t, ht, ?_⟩, fun ⟨t, ht, h1, h2⟩ => ⟨t, ht, ?_⟩⟩
  · have htn := (edges_lt h0 _ (mem_dsts.1 ht)).2
    rw [mix_at, mix_ne _ _ (by omega), Bool.and_eq_true] at h
    exact ⟨(hL t y htn).1 h.1, by simpa using h.2⟩
  · have htn := (edges_lt h0 _ (mem_dsts.1 ht)).2
    rw [mix_at, mix_ne _ _ (by omega), Bool.and_eq_true]
    exact ⟨(hL t y htn).2 h1, by simpa using h2⟩
/-- these names, rising, in new memory. -/
def RiseQ (Q : Wd → Prop) (w : World) (e : Ending) (w' : World) : Prop :=
  ∃ v r, e = .returned v ∧ Rise r ∧ (∀ x, x ∈ r ↔ Q x) ∧ w'.ownsRow w.heap.size 9 1 v r.length (r.map str) ∧ (v = .slice none 0 0 ↔ r = []) ∧ Below w.heap.size w w'
set_option maxRecDepth 100000 in
set_option maxHeartbeats 8000000 in
theorem at_any {U : List Wd} (hU : UOk U) (lo hi : Nat) (w : World) (cs : List Value) (f : Api.Func) (hf : FuncC lo hi w cs f) (hh : hi ≤ w.heap.size) (ho : FOk U f.blocks) (i : Nat) (b : Api.Block) (hib : f.blocks[i]? = some b) (k : Nat) (hk : k ≤ b.code.length) :
    Calls Tryd.prog 34 #[.agg cs.toArray, .int .i64 (i : Int), .int .i64 (k : Int)] w (RiseQ (AtL f.blocks i b k) w) := by
  have hf0 := hf
  obtain ⟨u1, u2, u3, rfl, kp, kv, kb⟩ := hf
  obtain ⟨nm, rs, ps, vs, bl⟩ := f
  simp only at kp kv kb hib ho ⊢
  have hil : i < bl.length := (List.getElem?_eq_some_iff.1 hib).1
  have hbm : b ∈ bl := List.mem_of_getElem? hib
  have HOK := Lib.hid ho
  have HUI := Lib.hid (ho.uI b hbm)
  have a1 : ¬ ((i : Int) < 0) := by omega
  have a2 : decide ((i : Int) < 0) = false := decide_eq_false a1
  have a3 : ¬ ((bl.length : Int) ≤ (i : Int)) := by omega
  have a4 : decide ((bl.length : Int) ≤ (i : Int)) = false := decide_eq_false a3
  have a5 : decide (bl.length ≤ i) = false := decide_eq_false (by omega)
  obtain ⟨A1, k1, rfl⟩ := kp.form
  obtain ⟨A2, k2, rfl⟩ := kv.form
  obtain ⟨A3, k3, rfl⟩ := kb.form
  obtain ⟨b3, o3, rfl, hb3, cs3, hcl3, hcs3, hbc⟩ := row_at kb hib
  have hbx : Below w.heap.size w (w.alloc (.cells #[str nm, str rs, .slice A1 ps.length k1, .slice A2 vs.length k2, .slice (some ⟨b3, o3, none⟩) bl.length k3] 37)) := (Below.refl _ _).alloc (Nat.le_refl _) _
  obtain ⟨W0, hW0⟩ : ∃ W0, w.alloc (.cells #[str nm, str rs, .slice A1 ps.length k1, .slice A2 vs.length k2, .slice (some ⟨b3, o3, none⟩) bl.length k3] 37) = W0 := ⟨_, rfl⟩
  rw [hW0] at hbx
  have hO0 : Mem.Own W0 w.heap.size 37 [str nm, str rs, .slice A1 ps.length k1, .slice A2 vs.length k2, .slice (some ⟨b3, o3, none⟩) bl.length k3] := by rw [← hW0]; exact Mem.Own.made w _ _
  have HO0 := Lib.hid hO0
  have HBX := Lib.hid hbx
  have HW0 := Lib.hid hW0
  have HF := Lib.hid hf0
  have HCL := Lib.hid hcs3
  obtain ⟨x1, x2, cs4, rfl, kph, kco, x4, rfl, kto⟩ := hbc
  obtain ⟨A5, k5, rfl⟩ := Row.form kco
  have hcap := Row.cap kco
  have hlt0 := hO0.lt
  have HKO := Lib.hid kco
  have hk9 := ho.cl b hbm
  have m0 := (at9 (cells_later hcs3 (hbx.mono hh) hb3)).2.2.1
  have e1 : ¬ ((k : Int) < 0) := by omega
  have e2 : decide ((k : Int) < 0) = false := decide_eq_false e1
  have e3 : ¬ ((b.code.length : Int) < (k : Int)) := by omega
  have e4 : decide ((b.code.length : Int) < (k : Int)) = false := decide_eq_false e3
  have HQ1 := Lib.hid (follow_any hU lo hi W0 _ _ (FuncC.move (Still.of_below (hbx.mono hh)) hf0) (Nat.le_trans hh hbx.size) ho)
  have f4 := hO0.cell 4
  have f0 := hO0.cell 0
  have f1 := hO0.cell 1
  have f2 := hO0.cell 2
  have f3 := hO0.cell 3
  simp only [List.getElem?_cons_zero, List.getElem?_cons_succ] at f0 f1 f2 f3 f4
  clear hf0 kp kv kb kph kco kto hbx hO0 hcs3
  refine (callsIn_wide (n := 4)).1 ?_
  refine callsIn_of_wp_marks Tryd.func34 rfl trivial ?_ rfl
  simp only [Tryd.ntmps34, List.size_toArray, List.length_cons, List.length_nil, Nat.reduceAdd, Nat.reduceSub, Array.replicate_succ, Array.replicate_zero, List.push_toArray, List.append_toArray, List.nil_append, List.cons_append]
  refine wpIn_wide.2 ?_
  go_wp2_with fail
  refine HQ1.out.mono ?_
  rintro e w1 ⟨B, c, vi, vg, gr, L0, rfl, hst1, hL0, hb1⟩
  have hbs : W0.heap.size ≤ w1.heap.size := hb1.size
  have HQ2 := Lib.hid (last_any hU hst1 hbs hil (edges_lt HOK.out.pos) HOK.out.el HOK.out.few)
  have HB1 := Lib.hid (HBX.out.trans (hb1.mono HBX.out.size))
  have HO1 := Lib.hid (HO0.out.below hb1 hlt0)
  obtain ⟨E0, hE0⟩ : ∃ E0, lastS (EG bl) (mix (SF bl bl.length) L0) i = E0 := ⟨_, rfl⟩
  have HCONV := Lib.hid (fun x => backL_iff (l := b.code.drop k) (fun y => show E0 y = true ↔ LastP bl i y from by rw [← hE0]; exact last_iff HOK.out.pos hil hL0 y) x)
  rw [hE0] at HQ2
  clear hst1 hb1 f0 f1 f2 f3 f4 m0 hL0 hE0
  go_wp2_with fail
  refine HQ2.out.mono ?_
  rintro e w2 ⟨g, rfl, hg, hs2, hb2⟩
  have hb12 : w1.heap.size ≤ w2.heap.size := hb2.size
  have HG2 := Lib.hid hs2
  have HB2 := Lib.hid (HB1.out.trans (hb2.mono HB1.out.size))
  have HO2 := Lib.hid (HO1.out.below hb2 HO1.out.lt)
  have hgl : g < w2.heap.size := hs2.lt
  have f4 := HO2.out.cell 4
  have m0 := (at9 (cells_later HCL.out (HB2.out.mono hh) hb3)).2.2.1
  simp only [List.getElem?_cons_zero, List.getElem?_cons_succ] at f4
  have hwlt : w.heap.size < w2.heap.size := HO2.out.lt
  have hb3lt : b3 < w2.heap.size := by omega
  have hne1 : ¬ (w.heap.size = w2.heap.size) := by omega
  have hne2 : ¬ (b3 = w2.heap.size) := by omega
  clear hs2 hb2
  have hkl : (k : Int) ≤ (b.code.length : Int) := by omega
  have hkc : (b.code.length : Int) ≤ (k5 : Int) := by omega
  obtain ⟨L, hL⟩ : ∃ L, b.code.drop k = L := ⟨_, rfl⟩
  have HLL := Lib.hid hL
  clear hL
  by_cases hc : k < k5
  · have hc2 : (k : Int) < (k5 : Int) := by omega
    have HRW := Lib.hid (show Instrs lo hi w (.slice (A5.map fun x => x.add (k * 6)) (b.code.length - k) (k5 - k)) L from by rw [← HLL.out]; exact sub_row HKO.out hk hc)
    go_wp2_with fail
    generalize (Option.map (fun x => Addr.add x (k * 6)) A5) = A9 at HRW ⊢
    have hrow : Instrs lo hi w (.slice A9 (b.code.length - k) (k5 - k)) L := HRW.out
    have HNL := Lib.hid (show (b.code.length - k) = L.length by obtain ⟨_, _, h, _⟩ := Row.get hrow; exact h)
    have hLx : ∀ i ∈ L, i ∈ b.code := fun i hi => by rw [← HLL.out] at hi; exact List.mem_of_mem_drop hi
    have hLl : L.length ≤ 1000000000000 := by rw [← HLL.out, List.length_drop]; omega
    obtain ⟨fI, hf6, hfc⟩ := instr_fun hrow
    have HF6 := Lib.hid hf6
    have HFC := Lib.hid hfc
    have HLX := Lib.hid hLx
    obtain ⟨W3, hW3⟩ : ∃ W3, w2.alloc (.cells #[.map (some g)] 94) = W3 := ⟨_, rfl⟩
    have HS3 := Lib.hid (show W3.heap.size = w2.heap.size + 1 by rw [← hW3]; simp)
    have HB3 := Lib.hid (show Below w2.heap.size w2 W3 by rw [← hW3]; exact (Below.refl _ _).alloc (Nat.le_refl _) _)
    have HX3 := Lib.hid (show Mem.Own W3 w2.heap.size 94 [.map (some g)] by rw [← hW3]; exact Mem.Own.made w2 _ _)
    have HG3 := Lib.hid (HG2.out.below HB3.out hgl)
    rw [hW3]
    clear hW3 hrow hf6 hfc hLx f4 m0
    refine ((callsIn_wide (n := 2)).1 (backward_in Fence.wide 2 trivial rfl A9 (b.code.length - k) (k5 - k) W3)).mono ?_
    rintro e w7 ⟨rfl, rfl⟩
    obtain ⟨W7, hW7⟩ : ∃ W7, W3.alloc (.cells #[.slice A9 (b.code.length - k) (k5 - k)] 58) = W7 := ⟨_, rfl⟩
    have HS7 := Lib.hid (show W7.heap.size = W3.heap.size + 1 by rw [← hW7]; simp)
    have HB7 := Lib.hid (show Below W3.heap.size W3 W7 by rw [← hW7]; exact (Below.refl _ _).alloc (Nat.le_refl _) _)
    have HX7 := Lib.hid (show Mem.Own W7 W3.heap.size 58 [.slice A9 (b.code.length - k) (k5 - k)] by rw [← hW7]; exact Mem.Own.made W3 _ _)
    have HXS := Lib.hid (HX3.out.below HB7.out (by have := HS3.out; omega))
    have HG7 := Lib.hid (HG3.out.below HB7.out (by have := HS3.out; omega))
    have HBW7 := Lib.hid (HB2.out.trans (((HB3.out.mono (by omega)).trans (HB7.out.mono (by have := HS3.out; omega)))))
    rw [hW7]
    clear hW7
    go_wp2_with fail
    have hsz : hi ≤ w.heap.size ∧ w.heap.size ≤ W7.heap.size ∧ g < W7.heap.size ∧ hi ≤ g := ⟨hh, by have := HS7.out; have := HS3.out; omega, by have := HS7.out; have := HS3.out; omega, by omega⟩
    have HFW := Lib.hid (show ∀ (W : World), Below hi W7 W → ∀ k x, L[k]? = some x → ∃ b' o, A9 = some ⟨b', o, none⟩ ∧ b' < hi ∧ (∀ j u, (fI k)[j]? = some u → W.cell? ⟨b', o + k * 6 + j, none⟩ = some u) ∧ InstrC lo hi W (fI k) x from fun W hbw k x hx => by
      have hall : Below hi w W := (HBW7.out.mono hh).trans hbw
      obtain ⟨b', o, e1, e2, e3, e4⟩ := HFC.out k x hx
      exact ⟨b', o, e1, e2, cells_later e3 hall e2, InstrC.move (Still.of_below hall) e4⟩)
    generalize hfr : Go.Act.mk _ _ = fr
    have hg23 : fr.eval (.tmp 46) = .func (.func 89) #[] #[.pointer (some ⟨W3.heap.size, 0, none⟩)] := by rw [← hfr, show W3.heap.size = w2.heap.size + 1 from HS3.out]; rfl
    refine (wpIn_wide (n := 3)).1 ?_
    refine' wpIn_rangeFunc_ownH rfl (by omega) (gf := 89) (lb := #[.pointer (some ⟨W3.heap.size, 0, none⟩)]) hg23 trivial (enters_of Tryd.func89 (by kernel_rfl) rfl)
      (backward_stops Fence.wide 2 trivial rfl (by omega) W3.heap.size lo hi hi A9 (k5 - k) L fI hLl (Nat.le_refl _) W7 (by have := HS7.out; omega) (by omega) (by rw [← HNL.out]; exact HX7.out.cell 0) (HFW.out W7 (Below.refl _ _)))
      Kpb.trans ?hkb (Below.refl _ _) (fun _ => rfl)
      (fun pre W => ∃ T, SetO U W g T ∧ (pre = List.range pre.length → pre.length ≤ L.length → T = backL (L.drop (L.length - pre.length)) E0) ∧ Mem.Own W w2.heap.size 94 [.map (some g)] ∧ Below w.heap.size w W ∧ Below hi W7 W)
      (fun _ _ _ => False) ?hI (fun _ _ _ _ _ h _ _ => h.elim) ?h0
      (fun x a' W => ∃ Bx, W7.heap.size ≤ Bx ∧ Mem.Own W Bx 72 (fI (L.length - 1 - x)) ∧ a' = { tmps := ((fr.tmps.setIfInBounds 47 (.int .i64 ((L.length - 1 - x : Nat) : Int))).setIfInBounds 48 (.agg (fI (L.length - 1 - x)).toArray)).setIfInBounds 9 (.pointer (some ⟨Bx, 0, none⟩)), defers := [] })
      ?hAx ?assign ?body ?done ?stop
    case hkb =>
      intro W l o o' hl h h1 h2
      exact ⟨belowK_b (w := W7) (by omega) W l o o' hl h h1 h2, World.putObj_heap_other (by have := HS7.out; omega)⟩
    case hI =>
      rintro s A' Bw row ⟨T, q1, q2, q3, q4, q5⟩ hg9 hr
      refine ⟨T, q1.grown hg9 (fun e => ?_), q2, own_walk q3 hg9 (fun r e => (hr r e).2), q4.grown hg9 q4.size (fun r e => by have := (hr r e).1; omega), q5.grown hg9 (by have := q5.size; omega) (fun r e => by have := (hr r e).1; omega)⟩
      have := (hr g e.symm).1
      omega
    case stop =>
      rintro D c9 pre W hD _ h
      exact h.elim
    case hAx =>
      rintro x a' s A' Bw row ⟨Bx, hB, hO, e⟩ hg9 hr
      exact ⟨Bx, hB, own_walk hO hg9 (fun r e => (hr r e).2), e⟩
    case h0 =>
      refine ⟨E0, HG7.out, fun _ _ => ?_, HXS.out, HBW7.out, Below.refl _ _⟩
      rw [List.length_nil, Nat.sub_zero, List.drop_length]
      rfl
    case assign =>
      rintro l pre x W K hi9 hK
      obtain ⟨a9, s9, t9, A91, A92, A93, n91, c91, n92, c92, n93, c93, e9⟩ := HF6.out (L.length - 1 - x)
      obtain ⟨T, q1, q2, q3, q4, q5⟩ := hi9
      subst hfr
      unfold bkA
      rw [e9]
      have HK9 := Lib.hid hK
      clear hK
      gi_wp2
      refine HK9.out _ _ ((KeepsOthers.alloc _ _).from _) ⟨(Below.refl hi W).alloc (by have := q5.size; omega) _, Below.heap_alloc W _ _ (by have := q5.size; have := HS7.out; omega)⟩ ⟨T, q1.alloc _, q2, q3.alloc _, q4.alloc q4.size _, q5.alloc (by have := q5.size; omega) _⟩ ⟨W.heap.size, q5.size, ?_, ?_⟩
      · rw [e9]
        exact Mem.Own.made W _ _
      · rw [e9]
        rfl
    case body =>
      rintro l pre x a' W hl9 ⟨r9, hr9⟩ ⟨T, q1, q2, q3, q4, q5⟩ ⟨Bx, hBx, hOx, rfl⟩ hlt
      subst hfr
      obtain ⟨j, hj⟩ : ∃ j, L.length - 1 - x = j := ⟨_, rfl⟩
      have hjl : j < L.length := by omega
      obtain ⟨y, hy⟩ : ∃ y, L[j]? = some y := ⟨_, List.getElem?_eq_getElem hjl⟩
      obtain ⟨b', o', eA, hb', hcs', u1', u2', u3', hfI, i1, i2, i3⟩ := HFW.out W q5 j y hy
      have hIC : InstrC lo hi W [i64 y.op, str y.dst, str y.name, u1', u2', u3'] y := ⟨u1', u2', u3', rfl, i1, i2, i3⟩
      rw [hj] at hOx
      rw [hj]
      rw [hfI] at hOx
      rw [hfI]
      have c0 := q3.cell 0
      have x0 := hOx.cell 0
      have x1 := hOx.cell 1
      have x2 := hOx.cell 2
      have x3 := hOx.cell 3
      have x4 := hOx.cell 4
      have x5 := hOx.cell 5
      simp only [List.getElem?_cons_zero, List.getElem?_cons_succ] at c0 x0 x1 x2 x3 x4 x5
      obtain ⟨hdU, hxU⟩ := HUI.out y (HLX.out y (List.mem_of_getElem? hy))
      have HQ := Lib.hid (goBack_any hU lo hi q1 _ y hIC (by have := q5.size; omega) (by omega) hxU (hU.nm _ hdU))
      have HQ2' := Lib.hid q2
      have HQ3 := Lib.hid q3
      have HQ4 := Lib.hid q4
      have HQ5 := Lib.hid q5
      have HY := Lib.hid hy
      have HJ := Lib.hid hj
      clear q1 q2 q3 q4 q5 hy hj hIC i1 i2 i3 hcs' hfI hOx
      gi_wp2
      refine ⟨trivial, ((CallsIn.inRound l (callsIn_wide.2 HQ.out)).mono ?_)⟩
      rintro e w5 ⟨rfl, h5, g5⟩
      have HK5 := Lib.hid (show KeepsFrom W7.heap.size W w5 from KeepsFrom.of_grownBy g5 (fun j e => by cases e; omega))
      have HP5 := Lib.hid (show Kpb hi W3.heap.size W w5 from ⟨(Below.refl hi W).grown g5 (by have := HQ5.out.size; omega) (fun j e => by cases e; omega), g5.block _ (by have := HQ5.out.size; have := HS7.out; omega) (by have := HS3.out; simp; omega)⟩)
      have HO5 := Lib.hid (own_kept HQ3.out g5 (by omega))
      have HB5 := Lib.hid (show Below w.heap.size w w5 from HQ4.out.grown g5 HQ4.out.size (fun j e => by cases e; omega))
      have HC5 := Lib.hid (show Below hi W7 w5 from HQ5.out.grown g5 (by have := HQ5.out.size; omega) (fun j e => by cases e; omega))
      have HST5 := Lib.hid h5
      have HSTEP := Lib.hid (step_backT HY.out HJ.out HQ2'.out)
      clear h5 g5
      gi_wp2
      exact ⟨HK5.out, HP5.out, _, HST5.out, HSTEP.out, HO5.out, HB5.out, HC5.out⟩
    case done =>
      rintro D xs W hD rfl ⟨T, q1, q2, q3, q4, q5⟩ hK
      subst hfr
      have hfin := q2 (by rw [List.length_range]) (by rw [List.length_range]; exact Nat.le_refl _)
      rw [List.length_range, Nat.sub_self, List.drop_zero] at hfin
      have c0 := q3.cell 0
      simp only [List.getElem?_cons_zero] at c0
      have HR := Lib.hid (rising_any hU q1)
      have HQ4 := Lib.hid q4
      have HFIN := Lib.hid hfin
      have HKD := Lib.hid hK
      have hDl : D < W.heap.size := by
        by_cases hh9 : D < W.heap.size
        · exact hh9
        · rw [Array.getElem?_eq_none (by omega)] at hK
          cases hK
      clear q1 q2 q3 q4 q5 hfin hK
      go_wp2_with fail
      refine HR.out.mono ?_
      rintro e w9 ⟨v9, r9, rfl, h1, h2, h3, h4, h5⟩
      obtain ⟨A9', c9', rfl⟩ := row_form h3
      have hK' : w9.heap[D]? = some (.deferred (some [])) := (h5.block D hDl).trans HKD.out
      have gd := grownBy_putObj' w9 D (.deferred none)
      have H1 := Lib.hid h1
      have H2 := Lib.hid h2
      have H3 := Lib.hid (row_other h3 gd (notT_walk ⟨_, hK', rfl⟩ _))
      have H4 := Lib.hid h4
      have H5 := Lib.hid (show Below w.heap.size w (w9.putObj D (.deferred none)) from (HQ4.out.trans (h5.mono HQ4.out.size)).grown gd (Nat.le_trans HQ4.out.size h5.size) (fun j e => by cases e; omega))
      have HKK := Lib.hid hK'
      clear h1 h2 h3 h4 h5 hK' gd
      go_wp2_with fail
      refine ⟨by simp, .inl ⟨_, _, rfl, run_takeDeferred HKK.out, ?_⟩⟩
      refine ⟨.slice A9' r9.length c9', ?_, _, r9, rfl, H1.out, ?_, ownsRow_base_a H3.out HQ4.out.size, H4.out, H5.out⟩
      · simp [results, Tryd.f34, go_sem]
      · exact fun x => (H2.out x).trans (by rw [HFIN.out, ← HLL.out]; exact HCONV.out x)
  · have hk5 : k5 = k := by omega
    have hbk : b.code.length = k := by omega
    have HRW := Lib.hid (show Instrs lo hi w (.slice A5 0 0) L from nil_row A5 L (by rw [← HLL.out]; exact List.drop_of_length_le (by omega)))
    subst hk5
    rw [hbk] at *
    go_wp2_with fail
    have hrow : Instrs lo hi w (.slice A5 0 0) L := HRW.out
    have HNL := Lib.hid (show 0 = L.length by obtain ⟨_, _, h, _⟩ := Row.get hrow; exact h)
    have hLx : ∀ i ∈ L, i ∈ b.code := fun i hi => by rw [← HLL.out] at hi; exact List.mem_of_mem_drop hi
    have hLl : L.length ≤ 1000000000000 := by rw [← HLL.out, List.length_drop]; omega
    obtain ⟨fI, hf6, hfc⟩ := instr_fun hrow
    have HF6 := Lib.hid hf6
    have HFC := Lib.hid hfc
    have HLX := Lib.hid hLx
    obtain ⟨W3, hW3⟩ : ∃ W3, w2.alloc (.cells #[.map (some g)] 94) = W3 := ⟨_, rfl⟩
    have HS3 := Lib.hid (show W3.heap.size = w2.heap.size + 1 by rw [← hW3]; simp)
    have HB3 := Lib.hid (show Below w2.heap.size w2 W3 by rw [← hW3]; exact (Below.refl _ _).alloc (Nat.le_refl _) _)
    have HX3 := Lib.hid (show Mem.Own W3 w2.heap.size 94 [.map (some g)] by rw [← hW3]; exact Mem.Own.made w2 _ _)
    have HG3 := Lib.hid (HG2.out.below HB3.out hgl)
    rw [hW3]
    clear hW3 hrow hf6 hfc hLx f4 m0
    refine ((callsIn_wide (n := 2)).1 (backward_in Fence.wide 2 trivial rfl A5 0 0 W3)).mono ?_
    rintro e w7 ⟨rfl, rfl⟩
    obtain ⟨W7, hW7⟩ : ∃ W7, W3.alloc (.cells #[.slice A5 0 0] 58) = W7 := ⟨_, rfl⟩
    have HS7 := Lib.hid (show W7.heap.size = W3.heap.size + 1 by rw [← hW7]; simp)
    have HB7 := Lib.hid (show Below W3.heap.size W3 W7 by rw [← hW7]; exact (Below.refl _ _).alloc (Nat.le_refl _) _)
    have HX7 := Lib.hid (show Mem.Own W7 W3.heap.size 58 [.slice A5 0 0] by rw [← hW7]; exact Mem.Own.made W3 _ _)
    have HXS := Lib.hid (HX3.out.below HB7.out (by have := HS3.out; omega))
    have HG7 := Lib.hid (HG3.out.below HB7.out (by have := HS3.out; omega))
    have HBW7 := Lib.hid (HB2.out.trans (((HB3.out.mono (by omega)).trans (HB7.out.mono (by have := HS3.out; omega)))))
    rw [hW7]
    clear hW7
    go_wp2_with fail
    have hsz : hi ≤ w.heap.size ∧ w.heap.size ≤ W7.heap.size ∧ g < W7.heap.size ∧ hi ≤ g := ⟨hh, by have := HS7.out; have := HS3.out; omega, by have := HS7.out; have := HS3.out; omega, by omega⟩
    have HFW := Lib.hid (show ∀ (W : World), Below hi W7 W → ∀ k x, L[k]? = some x → ∃ b' o, A5 = some ⟨b', o, none⟩ ∧ b' < hi ∧ (∀ j u, (fI k)[j]? = some u → W.cell? ⟨b', o + k * 6 + j, none⟩ = some u) ∧ InstrC lo hi W (fI k) x from fun W hbw k x hx => by
      have hall : Below hi w W := (HBW7.out.mono hh).trans hbw
      obtain ⟨b', o, e1, e2, e3, e4⟩ := HFC.out k x hx
      exact ⟨b', o, e1, e2, cells_later e3 hall e2, InstrC.move (Still.of_below hall) e4⟩)
    generalize hfr : Go.Act.mk _ _ = fr
    have hg23 : fr.eval (.tmp 46) = .func (.func 89) #[] #[.pointer (some ⟨W3.heap.size, 0, none⟩)] := by rw [← hfr, show W3.heap.size = w2.heap.size + 1 from HS3.out]; rfl
    refine (wpIn_wide (n := 3)).1 ?_
    refine' wpIn_rangeFunc_ownH rfl (by omega) (gf := 89) (lb := #[.pointer (some ⟨W3.heap.size, 0, none⟩)]) hg23 trivial (enters_of Tryd.func89 (by kernel_rfl) rfl)
      (backward_stops Fence.wide 2 trivial rfl (by omega) W3.heap.size lo hi hi A5 0 L fI hLl (Nat.le_refl _) W7 (by have := HS7.out; omega) (by omega) (by rw [← HNL.out]; exact HX7.out.cell 0) (HFW.out W7 (Below.refl _ _)))
      Kpb.trans ?hkb (Below.refl _ _) (fun _ => rfl)
      (fun pre W => ∃ T, SetO U W g T ∧ (pre = List.range pre.length → pre.length ≤ L.length → T = backL (L.drop (L.length - pre.length)) E0) ∧ Mem.Own W w2.heap.size 94 [.map (some g)] ∧ Below w.heap.size w W ∧ Below hi W7 W)
      (fun _ _ _ => False) ?hI (fun _ _ _ _ _ h _ _ => h.elim) ?h0
      (fun x a' W => ∃ Bx, W7.heap.size ≤ Bx ∧ Mem.Own W Bx 72 (fI (L.length - 1 - x)) ∧ a' = { tmps := ((fr.tmps.setIfInBounds 47 (.int .i64 ((L.length - 1 - x : Nat) : Int))).setIfInBounds 48 (.agg (fI (L.length - 1 - x)).toArray)).setIfInBounds 9 (.pointer (some ⟨Bx, 0, none⟩)), defers := [] })
      ?hAx ?assign ?body ?done ?stop
    case hkb =>
      intro W l o o' hl h h1 h2
      exact ⟨belowK_b (w := W7) (by omega) W l o o' hl h h1 h2, World.putObj_heap_other (by have := HS7.out; omega)⟩
    case hI =>
      rintro s A' Bw row ⟨T, q1, q2, q3, q4, q5⟩ hg9 hr
      refine ⟨T, q1.grown hg9 (fun e => ?_), q2, own_walk q3 hg9 (fun r e => (hr r e).2), q4.grown hg9 q4.size (fun r e => by have := (hr r e).1; omega), q5.grown hg9 (by have := q5.size; omega) (fun r e => by have := (hr r e).1; omega)⟩
      have := (hr g e.symm).1
      omega
    case stop =>
      rintro D c9 pre W hD _ h
      exact h.elim
    case hAx =>
      rintro x a' s A' Bw row ⟨Bx, hB, hO, e⟩ hg9 hr
      exact ⟨Bx, hB, own_walk hO hg9 (fun r e => (hr r e).2), e⟩
    case h0 =>
      refine ⟨E0, HG7.out, fun _ _ => ?_, HXS.out, HBW7.out, Below.refl _ _⟩
      rw [List.length_nil, Nat.sub_zero, List.drop_length]
      rfl
    case assign =>
      rintro l pre x W K hi9 hK
      obtain ⟨a9, s9, t9, A91, A92, A93, n91, c91, n92, c92, n93, c93, e9⟩ := HF6.out (L.length - 1 - x)
      obtain ⟨T, q1, q2, q3, q4, q5⟩ := hi9
      subst hfr
      unfold bkA
      rw [e9]
      have HK9 := Lib.hid hK
      clear hK
      gi_wp2
      refine HK9.out _ _ ((KeepsOthers.alloc _ _).from _) ⟨(Below.refl hi W).alloc (by have := q5.size; omega) _, Below.heap_alloc W _ _ (by have := q5.size; have := HS7.out; omega)⟩ ⟨T, q1.alloc _, q2, q3.alloc _, q4.alloc q4.size _, q5.alloc (by have := q5.size; omega) _⟩ ⟨W.heap.size, q5.size, ?_, ?_⟩
      · rw [e9]
        exact Mem.Own.made W _ _
      · rw [e9]
        rfl
    case body =>
      rintro l pre x a' W hl9 ⟨r9, hr9⟩ ⟨T, q1, q2, q3, q4, q5⟩ ⟨Bx, hBx, hOx, rfl⟩ hlt
      subst hfr
      obtain ⟨j, hj⟩ : ∃ j, L.length - 1 - x = j := ⟨_, rfl⟩
      have hjl : j < L.length := by omega
      obtain ⟨y, hy⟩ : ∃ y, L[j]? = some y := ⟨_, List.getElem?_eq_getElem hjl⟩
      obtain ⟨b', o', eA, hb', hcs', u1', u2', u3', hfI, i1, i2, i3⟩ := HFW.out W q5 j y hy
      have hIC : InstrC lo hi W [i64 y.op, str y.dst, str y.name, u1', u2', u3'] y := ⟨u1', u2', u3', rfl, i1, i2, i3⟩
      rw [hj] at hOx
      rw [hj]
      rw [hfI] at hOx
      rw [hfI]
      have c0 := q3.cell 0
      have x0 := hOx.cell 0
      have x1 := hOx.cell 1
      have x2 := hOx.cell 2
      have x3 := hOx.cell 3
      have x4 := hOx.cell 4
      have x5 := hOx.cell 5
      simp only [List.getElem?_cons_zero, List.getElem?_cons_succ] at c0 x0 x1 x2 x3 x4 x5
      obtain ⟨hdU, hxU⟩ := HUI.out y (HLX.out y (List.mem_of_getElem? hy))
      have HQ := Lib.hid (goBack_any hU lo hi q1 _ y hIC (by have := q5.size; omega) (by omega) hxU (hU.nm _ hdU))
      have HQ2' := Lib.hid q2
      have HQ3 := Lib.hid q3
      have HQ4 := Lib.hid q4
      have HQ5 := Lib.hid q5
      have HY := Lib.hid hy
      have HJ := Lib.hid hj
      clear q1 q2 q3 q4 q5 hy hj hIC i1 i2 i3 hcs' hfI hOx
      gi_wp2
      refine ⟨trivial, ((CallsIn.inRound l (callsIn_wide.2 HQ.out)).mono ?_)⟩
      rintro e w5 ⟨rfl, h5, g5⟩
      have HK5 := Lib.hid (show KeepsFrom W7.heap.size W w5 from KeepsFrom.of_grownBy g5 (fun j e => by cases e; omega))
      have HP5 := Lib.hid (show Kpb hi W3.heap.size W w5 from ⟨(Below.refl hi W).grown g5 (by have := HQ5.out.size; omega) (fun j e => by cases e; omega), g5.block _ (by have := HQ5.out.size; have := HS7.out; omega) (by have := HS3.out; simp; omega)⟩)
      have HO5 := Lib.hid (own_kept HQ3.out g5 (by omega))
      have HB5 := Lib.hid (show Below w.heap.size w w5 from HQ4.out.grown g5 HQ4.out.size (fun j e => by cases e; omega))
      have HC5 := Lib.hid (show Below hi W7 w5 from HQ5.out.grown g5 (by have := HQ5.out.size; omega) (fun j e => by cases e; omega))
      have HST5 := Lib.hid h5
      have HSTEP := Lib.hid (step_backT HY.out HJ.out HQ2'.out)
      clear h5 g5
      gi_wp2
      exact ⟨HK5.out, HP5.out, _, HST5.out, HSTEP.out, HO5.out, HB5.out, HC5.out⟩
    case done =>
      rintro D xs W hD rfl ⟨T, q1, q2, q3, q4, q5⟩ hK
      subst hfr
      have hfin := q2 (by rw [List.length_range]) (by rw [List.length_range]; exact Nat.le_refl _)
      rw [List.length_range, Nat.sub_self, List.drop_zero] at hfin
      have c0 := q3.cell 0
      simp only [List.getElem?_cons_zero] at c0
      have HR := Lib.hid (rising_any hU q1)
      have HQ4 := Lib.hid q4
      have HFIN := Lib.hid hfin
      have HKD := Lib.hid hK
      have hDl : D < W.heap.size := by
        by_cases hh9 : D < W.heap.size
        · exact hh9
        · rw [Array.getElem?_eq_none (by omega)] at hK
          cases hK
      clear q1 q2 q3 q4 q5 hfin hK
      go_wp2_with fail
      refine HR.out.mono ?_
      rintro e w9 ⟨v9, r9, rfl, h1, h2, h3, h4, h5⟩
      obtain ⟨A9', c9', rfl⟩ := row_form h3
      have hK' : w9.heap[D]? = some (.deferred (some [])) := (h5.block D hDl).trans HKD.out
      have gd := grownBy_putObj' w9 D (.deferred none)
      have H1 := Lib.hid h1
      have H2 := Lib.hid h2
      have H3 := Lib.hid (row_other h3 gd (notT_walk ⟨_, hK', rfl⟩ _))
      have H4 := Lib.hid h4
      have H5 := Lib.hid (show Below w.heap.size w (w9.putObj D (.deferred none)) from (HQ4.out.trans (h5.mono HQ4.out.size)).grown gd (Nat.le_trans HQ4.out.size h5.size) (fun j e => by cases e; omega))
      have HKK := Lib.hid hK'
      clear h1 h2 h3 h4 h5 hK' gd
      go_wp2_with fail
      refine ⟨by simp, .inl ⟨_, _, rfl, run_takeDeferred HKK.out, ?_⟩⟩
      refine ⟨.slice A9' r9.length c9', ?_, _, r9, rfl, H1.out, ?_, ownsRow_base_a H3.out HQ4.out.size, H4.out, H5.out⟩
      · simp [results, Tryd.f34, go_sem]
      · exact fun x => (H2.out x).trans (by rw [HFIN.out, ← HLL.out]; exact HCONV.out x)
end Go.Proofs.YtdgmdpphimenjaaDoor.Lv12

/-
  Layer 12: what is live at blocks' first places.
-/
namespace Go.Proofs.YtdgmdpphimenjaaDoor.Lv12
open Go.RowKit Go.Shelf Api Mem Sh8 Go.Maps

/-- rows of names, n of them: those at i are what Q i asks for, rising. -/
def RowsQ (Q : Nat → Wd → Prop) (w : World) (base Bv n k : Nat) : Prop := ∃ vs : List Value, Mem.Own w Bv 41 vs ∧ vs.length = n ∧ base ≤ Bv ∧ ∀ i, i < k → ∃ v r, vs[i]? = some v ∧ Rise r ∧ (∀ x, x ∈ r ↔ Q i x) ∧ w.ownsRow base 9 1 v r.length (r.map str)
theorem RowsQ.below {Q : Nat → Wd → Prop} {w w' : World} {base Bv n k : Nat} (h : RowsQ Q w base Bv n k) (hb : Below w.heap.size w w') : RowsQ Q w' base Bv n k := by
  obtain ⟨vs, h1, h2, h3, h4⟩ := h
  refine ⟨vs, h1.below hb h1.lt, h2, h3, fun i hi => ?_⟩
  obtain ⟨v, r, q1, q2, q3, q4⟩ := h4 i hi
  exact ⟨v, r, q1, q2, q3, own_below q4 hb⟩
theorem RowsQ.lt {Q : Nat → Wd → Prop} {w : World} {base Bv n k : Nat} (h : RowsQ Q w base Bv n k) : Bv < w.heap.size := by
  obtain ⟨vs, h1, _⟩ := h
  exact h1.lt
theorem RowsQ.thaw {Q : Nat → Wd → Prop} {w : World} {base Bv n k : Nat} (h : RowsQ Q w base Bv n k) (j : Nat) : w.frozen? ⟨Bv, j, none⟩ = false := by
  obtain ⟨vs, h1, _⟩ := h
  exact h1.thaw j
theorem RowsQ.there {Q : Nat → Wd → Prop} {w : World} {base Bv n k : Nat} (h : RowsQ Q w base Bv n k) {j : Nat} (hj : j < n) : ∃ u, w.cell? ⟨Bv, j, none⟩ = some u := by
  obtain ⟨vs, h1, h2, _⟩ := h
  exact ⟨_, (h1.cell j).trans (List.getElem?_eq_getElem (by omega))⟩
theorem RowsQ.store {Q : Nat → Wd → Prop} {w : World} {base Bv n k : Nat} (h : RowsQ Q w base Bv n k) (hk : k < n) {v : Value} {r : List Wd} (hr : Rise r) (hm : ∀ x, x ∈ r ↔ Q k x) (ho : w.ownsRow base 9 1 v r.length (r.map str)) : RowsQ Q (w.setCell ⟨Bv, k, none⟩ v) base Bv n (k + 1) := by
  obtain ⟨vs, h1, h2, h3, h4⟩ := h
  have gc := grown_cell w ⟨Bv, k, none⟩ v
  have hn := notT_own h1 (e := 9) (by decide)
  refine ⟨vs.set k v, h1.store k v, by rw [List.length_set]; exact h2, h3, fun i hi => ?_⟩
  by_cases e : i = k
  · subst e
    exact ⟨v, r, by rw [List.getElem?_set_self (by omega)], hr, hm, row_other ho gc hn⟩
  · obtain ⟨v', r', q1, q2, q3, q4⟩ := h4 i (by omega)
    exact ⟨v', r', by rw [List.getElem?_set_ne (Ne.symm e)]; exact q1, q2, q3, row_other q4 gc hn⟩
theorem RowsQ.at {Q : Nat → Wd → Prop} {w : World} {base Bv n : Nat} (h : RowsQ Q w base Bv n n) {i : Nat} (hi : i < n) : ∃ v r, w.cell? ⟨Bv, i, none⟩ = some v ∧ Rise r ∧ (∀ x, x ∈ r ↔ Q i x) ∧ w.ownsRow base 9 1 v r.length (r.map str) := by
  obtain ⟨vs, h1, h2, h3, h4⟩ := h
  obtain ⟨v, r, q1, q2, q3, q4⟩ := h4 i hi
  exact ⟨v, r, (h1.cell i).trans q1, q2, q3, q4⟩
theorem info_strs : (Tryd.prog.info? 41).map (fun i => (i.zero, i.size, i.bytes)) = some (some (.slice none 0 0), 1, 24) := by kernel_rfl
theorem RowsQ.made (Q : Nat → Wd → Prop) (w : World) (base n : Nat) (hb : base ≤ w.heap.size) : RowsQ Q (w.alloc (.cells (List.replicate n (.slice none 0 0)).toArray 41)) base w.heap.size n 0 :=
  ⟨_, Mem.Own.made w _ _, by simp, hb, fun i hi => absurd hi (Nat.not_lt_zero _)⟩
def InsP (bl : List Api.Block) (w : World) (e : Ending) (w' : World) : Prop := ∃ Bv, e = .returned (.slice (some ⟨Bv, 0, none⟩) bl.length bl.length) ∧ RowsQ (LvB bl) w' w.heap.size Bv bl.length bl.length ∧ Below w.heap.size w w'
set_option maxRecDepth 100000 in
set_option maxHeartbeats 8000000 in
theorem ins_any {U : List Wd} (hU : UOk U) (lo hi : Nat) (w : World) (cs : List Value) (f : Api.Func) (hf : FuncC lo hi w cs f) (hh : hi ≤ w.heap.size) (ho : FOk U f.blocks) :
    Calls Tryd.prog 12 #[.agg cs.toArray] w (InsP f.blocks w) := by
  have hf0 := hf
  obtain ⟨u1, u2, u3, rfl, kp, kv, kb⟩ := hf
  obtain ⟨nm, rs, ps, vs, bl⟩ := f
  simp only at kp kv kb ho ⊢
  obtain ⟨A1, k1, rfl⟩ := kp.form
  obtain ⟨A2, k2, rfl⟩ := kv.form
  obtain ⟨A3, k3, rfl⟩ := kb.form
  have hn1 : bl.length ≤ 1000000 := ho.few
  have hn0 : 0 < bl.length := ho.pos
  have HOK := Lib.hid ho
  obtain ⟨W0, hW0⟩ : ∃ W0, w.alloc (.cells #[str nm, str rs, .slice A1 ps.length k1, .slice A2 vs.length k2, .slice A3 bl.length k3] 37) = W0 := ⟨_, rfl⟩
  obtain ⟨hO0, hbx, hz0⟩ := box8 (c := [str nm, str rs, .slice A1 ps.length k1, .slice A2 vs.length k2, .slice A3 bl.length k3]) hW0
  have HW0 := Lib.hid hW0
  have HBX := Lib.hid hbx
  have HQ1 := Lib.hid (follow_any hU lo hi W0 _ _ (FuncC.move (Still.of_below (hbx.mono hh)) hf0) (Nat.le_trans hh hbx.size) ho)
  clear hf0 kp kv kb ho hW0 hO0 hbx
  go_enter Tryd.func12, Tryd.ntmps12
  go_wp2_with fail
  rw [HW0.out]
  refine HQ1.out.mono ?_
  rintro e w1 ⟨B, c, vi, vg, gr, L0, rfl, hst1, hL0, hb1⟩
  have HST := Lib.hid hst1
  have HL0 := Lib.hid hL0
  have HB1 := Lib.hid (HBX.out.trans (hb1.mono (by omega)))
  have hw1 : w.heap.size ≤ w1.heap.size := HB1.out.size
  clear hst1 hL0 hb1 HQ1
  have hmk := fun W => run_row (P := Tryd.prog) (t := 39) (e := 41) Tryd.underlying39 info_strs (by rfl) (by omega) bl.length (by omega) W
  go_wp2_with fail
  have HR0 := Lib.hid (RowsQ.made (LvB bl) w1 w.heap.size bl.length hw1)
  have HB0 := Lib.hid (show Below w1.heap.size w1 (w1.alloc (.cells (List.replicate bl.length (.slice none 0 0)).toArray 41)) from (Below.refl _ _).alloc (Nat.le_refl _) _)
  clear hmk
  go_loopw [13] (fun iv wr => ∃ k : Nat, k ≤ bl.length ∧ iv = .int .i64 k ∧ Hid (RowsQ (LvB bl) wr w.heap.size w1.heap.size bl.length k) ∧ Hid (Below w1.heap.size w1 wr)) (fun iv _ => bl.length - (intOf iv).toNat)
  case atStart => exact ⟨0, Nat.zero_le _, rfl, HR0, HB0⟩
  case round =>
  clear HR0 HB0
  obtain ⟨k, hk, rfl, HR, HBr⟩ := hrel
  by_cases hlt : k < bl.length
  · have hst := HST.out.below HBr.out
    have n5 := (hst.cell hlt (show 5 < 7 by omega)).trans (congrArg some (show FF bl.length c vi vg k 5 = .map (some (c (4 * k + 3))) from by simp [FF, hlt]))
    have hs5 := hst.ms.set (4 * k + 3) ⟨by omega, fun _ => by omega⟩
    rw [mix_at] at hs5
    have HQ2 := Lib.hid (rising_any hU hs5)
    have hszr : w.heap.size ≤ wr.heap.size := by have := HBr.out.size; omega
    clear hst hs5
    go_wp2_with fail
    refine HQ2.out.mono ?_
    rintro e w5 ⟨v5, r5, rfl, hr5, hm5, ho5, -, hb5⟩
    obtain ⟨A5, k5, rfl⟩ := row_form ho5
    have HR5 := Lib.hid (HR.out.below hb5)
    have HB5 := Lib.hid (show Below w1.heap.size w1 w5 from HBr.out.trans (hb5.mono HBr.out.size))
    have t5 := HR5.out.thaw k
    obtain ⟨u5, c5⟩ := HR5.out.there hlt
    have HO5 := Lib.hid (ownsRow_base_a ho5 hszr)
    have HM5 := Lib.hid (show ∀ x, x ∈ r5 ↔ LvB bl k x from fun x => (hm5 x).trans (HL0.out k x hlt))
    have HRR5 := Lib.hid hr5
    clear hr5 hm5 ho5 hb5 n5 HQ2
    go_wp2_with fail
    go_roundw
    case rel => exact ⟨k + 1, by omega, by go_num, Lib.hid (HR5.out.store hlt HRR5.out HM5.out HO5.out), Lib.hid (HB5.out.grown (grown_cell w5 ⟨w1.heap.size, k, none⟩ _) HB5.out.size (fun j hj => by cases hj; exact Nat.le_refl _))⟩
    case measure => simp [intOf]; omega
  · obtain rfl : k = bl.length := by omega
    go_wp2_with fail
    go_ret
    exact ⟨_, rfl, HR.out, HB1.out.trans (HBr.out.mono hw1)⟩
end Go.Proofs.YtdgmdpphimenjaaDoor.Lv12

/-
  Layer 12: of a little function of right shape all is at hand that its liveness asks. Plain.
-/
namespace Go.Proofs.YtdgmdpphimenjaaDoor.Lv12
open Go.RowKit Api Mem Sh8 Go.Maps

def namesI (i : Instr) : List Wd := i.dst :: usesI i
def namesPh (p : Phi) : List Wd := p.dst :: p.ins.flatMap fun q => namesA [q.a]
def namesBl (b : Api.Block) : List Wd := usesT b.fin ++ (b.code.flatMap namesI ++ b.phis.flatMap namesPh)
/-- all names of variables in blocks. -/
def allN (bl : List Api.Block) : List Wd := bl.flatMap namesBl
theorem len_flat {α : Type} {g : α → List Wd} {c : α → Nat} : ∀ {l : List α}, (∀ x ∈ l, (g x).length ≤ c x) → (l.flatMap g).length ≤ Few6.sumOf c l
  | [], _ => by simp
  | a :: l, h => by
    have h1 := len_flat (l := l) fun x hx => h x (by simp [hx])
    have h2 := h a (by simp)
    simp only [List.flatMap_cons, List.length_append, Few6.sumOf, List.map_cons, List.sum_cons] at h1 ⊢
    omega
theorem len_namesA (l : List Arg) : (namesA l).length ≤ l.length := by
  unfold namesA
  rw [List.length_map]
  exact List.length_filter_le _ _
theorem len_sum {α : Type} {c : α → Nat} {l : List α} (h : ∀ x, 1 ≤ c x) : l.length ≤ Few6.sumOf c l := Few6.sum_len c l h
theorem len_usesI (i : Instr) : (namesI i).length ≤ Few6.cInstr i := by
  have h1 := len_namesA i.args
  have h2 : (namesF i.frames).length ≤ Few6.sumOf Few6.cFrame i.frames := by
    refine len_flat fun f _ => ?_
    have q1 := len_namesA (f.vars.map (·.a))
    rw [List.length_map] at q1
    have q2 : f.vars.length ≤ Few6.sumOf Few6.cBind f.vars := len_sum fun x => by unfold Few6.cBind; omega
    unfold Few6.cFrame namesB
    omega
  have h3 : (namesO i.objs).length ≤ Few6.sumOf Few6.cVirt i.objs := by
    refine len_flat fun f _ => ?_
    have q1 := len_namesA f.vals
    unfold Few6.cVirt Few6.cArgs
    omega
  unfold namesI usesI Few6.cInstr Few6.cArgs
  simp only [List.length_cons, List.length_append]
  omega
theorem len_namesPh (p : Phi) : (namesPh p).length ≤ Few6.cPhi p := by
  have h : (p.ins.flatMap fun q => namesA [q.a]).length ≤ Few6.sumOf Few6.cBind p.ins := by
    refine len_flat fun q _ => ?_
    have q1 := len_namesA [q.a]
    unfold Few6.cBind
    simp only [List.length_singleton] at q1
    omega
  unfold namesPh Few6.cPhi
  simp only [List.length_cons]
  omega
theorem len_namesBl (b : Api.Block) : (namesBl b).length ≤ Few6.cBlock b := by
  have h1 : (usesT b.fin).length ≤ 1 := by
    unfold usesT
    split
    · exact len_namesA _
    · simp
  have h2 : (b.code.flatMap namesI).length ≤ Few6.sumOf Few6.cInstr b.code := len_flat fun i _ => len_usesI i
  have h3 : (b.phis.flatMap namesPh).length ≤ Few6.sumOf Few6.cPhi b.phis := len_flat fun p _ => len_namesPh p
  unfold namesBl Few6.cBlock
  simp only [List.length_append]
  omega
theorem len_allN (f : Api.Func) : (allN f.blocks).length ≤ Few6.cFunc f := by
  have h : (allN f.blocks).length ≤ Few6.sumOf Few6.cBlock f.blocks := len_flat fun b _ => len_namesBl b
  unfold Few6.cFunc
  omega
theorem mem_namesA {l : List Arg} {y : Wd} : y ∈ namesA l ↔ ∃ a ∈ l, a.kind = 1 ∧ a.s = y := by
  unfold namesA
  rw [List.mem_map]
  exact ⟨fun ⟨a, h, e⟩ => ⟨a, (List.mem_filter.1 h).1, of_decide_eq_true (List.mem_filter.1 h).2, e⟩, fun ⟨a, h, k, e⟩ => ⟨a, List.mem_filter.2 ⟨h, decide_eq_true k⟩, e⟩⟩
theorem all_bl {bl : List Api.Block} {b : Api.Block} (hb : b ∈ bl) {y : Wd} (h : y ∈ namesBl b) : y ∈ allN bl := List.mem_flatMap.2 ⟨b, hb, h⟩
theorem bl_t {b : Api.Block} {y : Wd} (h : y ∈ usesT b.fin) : y ∈ namesBl b := List.mem_append_left _ h
theorem bl_i {b : Api.Block} {i : Instr} (hi : i ∈ b.code) {y : Wd} (h : y ∈ namesI i) : y ∈ namesBl b := List.mem_append_right _ (List.mem_append_left _ (List.mem_flatMap.2 ⟨i, hi, h⟩))
theorem bl_p {b : Api.Block} {p : Phi} (hp : p ∈ b.phis) {y : Wd} (h : y ∈ namesPh p) : y ∈ namesBl b := List.mem_append_right _ (List.mem_append_right _ (List.mem_flatMap.2 ⟨p, hp, h⟩))
theorem strG_I {i : Instr} (h : OpenP.instrG i) : ∀ y ∈ namesI i, y.length ≤ 140737488351232 := by
  intro y hy
  obtain ⟨⟨_, hd, _⟩, ha, hf, ho⟩ := h
  rcases List.mem_cons.1 hy with rfl | hy
  · exact hd
  · unfold usesI at hy
    rcases List.mem_append.1 hy with hy | hy
    · obtain ⟨a, h1, _, rfl⟩ := mem_namesA.1 hy
      exact (ha a h1).2
    · rcases List.mem_append.1 hy with hy | hy
      · obtain ⟨f, h1, h2⟩ := List.mem_flatMap.1 hy
        obtain ⟨a, h3, _, rfl⟩ := mem_namesA.1 h2
        obtain ⟨b, h4, rfl⟩ := List.mem_map.1 h3
        exact ((hf f h1).2.2 b h4).2.2
      · obtain ⟨o, h1, h2⟩ := List.mem_flatMap.1 hy
        obtain ⟨a, h3, _, rfl⟩ := mem_namesA.1 h2
        exact ((ho o h1).2 a h3).2
theorem all_nm {f : Api.Func} (hG : OpenP.funcG f) : ∀ y ∈ allN f.blocks, y.length ≤ 140737488351232 := by
  intro y hy
  obtain ⟨b, hb, hy⟩ := List.mem_flatMap.1 hy
  obtain ⟨_, hp, hc, ht⟩ := hG.2.2.2 b hb
  rcases List.mem_append.1 hy with hy | hy
  · unfold usesT at hy
    split at hy
    · obtain ⟨a, h1, _, rfl⟩ := mem_namesA.1 hy
      rw [List.mem_singleton] at h1
      subst h1
      exact ht.2.1.2
    · cases hy
  · rcases List.mem_append.1 hy with hy | hy
    · obtain ⟨i, hi, h⟩ := List.mem_flatMap.1 hy
      exact strG_I (hc i hi) y h
    · obtain ⟨p, hpm, h⟩ := List.mem_flatMap.1 hy
      rcases List.mem_cons.1 h with rfl | h
      · exact (hp p hpm).1
      · obtain ⟨q, hq, h⟩ := List.mem_flatMap.1 h
        obtain ⟨a, h1, _, rfl⟩ := mem_namesA.1 h
        rw [List.mem_singleton] at h1
        subst h1
        exact ((hp p hpm).2 q hq).2.2
theorem edges_len (bl : List Api.Block) (h : ∀ b ∈ bl, b.fin.dest.length ≤ 8) : ∀ k : Nat, (edgesTo bl k).length ≤ 8 * k
  | 0 => by simp [edgesTo]
  | k + 1 => by
    have h1 := edges_len bl h k
    rw [edgesTo_next, List.length_append]
    have h2 : (edgesOf bl k).length ≤ 8 := by
      unfold edgesOf
      split
      · rename_i b hb
        rw [List.length_map]
        exact h b (List.mem_of_getElem? hb)
      · simp
    omega
theorem uok_of {f : Api.Func} (hG : OpenP.funcG f) (hF : Few12 f) : UOk (allN f.blocks) := ⟨by have := len_allN f; have := hF.1; omega, all_nm hG⟩
theorem fok_of {f : Api.Func} (hG : OpenP.funcG f) (hF : Few12 f) : FOk (allN f.blocks) f.blocks := by
  obtain ⟨h1, h2, h3, h4⟩ := hF
  have hl := len_allN f
  refine ⟨List.length_pos_iff.2 h4.1, by omega, ?_, fun b hb => (hG.2.2.2 b hb).1, fun b hb x hx => (hG.2.2.2 b hb).2.2.2.2.2.1 x hx, fun b hb x hx => ((h4.2.2.1 b hb).2 x hx).1, ?_, fun b hb x hx => all_bl hb (bl_t hx), fun b hb i hi => ⟨all_bl hb (bl_i hi (by simp [namesI])), fun x hx => all_bl hb (bl_i hi (by simp [namesI, hx]))⟩, fun b hb => ?_, fun b hb p hp => ⟨all_bl hb (bl_p hp (by simp [namesPh])), fun q hq => ⟨(((hG.2.2.2 b hb).2.1 p hp).2 q hq).1, fun x hx => all_bl hb (bl_p hp (List.mem_cons_of_mem _ (List.mem_flatMap.2 ⟨q, hq, hx⟩)))⟩⟩⟩
  · have : f.blocks.length * (allN f.blocks).length ≤ 30 * 3000 := Nat.mul_le_mul h3 (by omega)
    omega
  · have := edges_len f.blocks (fun b hb => (h2.2 b hb).1) f.blocks.length
    omega
  · have h5 : b.code.length ≤ Few6.sumOf Few6.cInstr b.code := len_sum fun x => by unfold Few6.cInstr; omega
    have h6 : Few6.cBlock b ≤ Few6.sumOf Few6.cBlock f.blocks := Few6.sum_mem _ hb
    unfold Few6.cBlock at h6
    unfold Few6.cFunc at h1
    unfold Few6.cBlock at h1
    omega
theorem instr_s12 {x : Instr} (h : OpenP.instrG x) : Few6.instrS x := ⟨h.1.2, (fun a ha => (h.2.1 a ha).2), (fun f hf => ⟨(h.2.2.1 f hf).1.1, (h.2.2.1 f hf).1.2, fun b hb => ⟨((h.2.2.1 f hf).2.2 b hb).1, (((h.2.2.1 f hf).2.2 b hb).2).2⟩⟩), fun o ho => ⟨(h.2.2.2 o ho).1, fun a ha => ((h.2.2.2 o ho).2 a ha).2⟩⟩
theorem block_s12 {b : Api.Block} (h : OpenP.blockG b) : Few6.blockS b := ⟨⟨h.1, h.2.2.2.2.1.2⟩, h.2.2.2.2.2.1, (fun p hp => ⟨(h.2.1 p hp).1, fun b hb => ⟨((h.2.1 p hp).2 b hb).1, (((h.2.1 p hp).2 b hb).2).2⟩⟩), fun i hi => instr_s12 (h.2.2.1 i hi)⟩
theorem func_s12 {f : Api.Func} (h : OpenP.funcG f) : Few6.funcS f := ⟨h.1, h.2.1, h.2.2.1, fun b hb => block_s12 (h.2.2.2 b hb)⟩
end Go.Proofs.YtdgmdpphimenjaaDoor.Lv12

/-
  Layer 12: what liveness is, place by place. Plain; and the document's In.
-/
namespace Go.Proofs.YtdgmdpphimenjaaDoor.Lv12
open Go.RowKit Api Mem Sh8 Go.Maps

theorem setsL_not {i : Instr} {r : List Instr} {x : Wd} : x ∉ setsL (i :: r) ↔ ¬ (i.dst ≠ [] ∧ x = i.dst) ∧ x ∉ setsL r := by
  unfold setsL
  by_cases e : i.dst = []
  · simp [e]
  · simp [e]
theorem backP_or {A B : Wd → Prop} (x : Wd) : ∀ l : List Instr, BackP l (fun y => A y ∨ B y) x ↔ BackP l A x ∨ (x ∉ setsL l ∧ B x)
  | [] => by
    show A x ∨ B x ↔ A x ∨ (x ∉ setsL [] ∧ B x)
    simp [setsL]
  | i :: r => by
    have ih := backP_or (A := A) (B := B) x r
    show x ∈ usesI i ∨ (¬ (i.dst ≠ [] ∧ x = i.dst) ∧ BackP r (fun y => A y ∨ B y) x) ↔ (x ∈ usesI i ∨ (¬ (i.dst ≠ [] ∧ x = i.dst) ∧ BackP r A x)) ∨ (x ∉ setsL (i :: r) ∧ B x)
    rw [ih, setsL_not]
    by_cases h1 : x ∈ usesI i <;> by_cases h2 : i.dst ≠ [] ∧ x = i.dst <;> simp [h1, h2]
section
variable {bl : List Api.Block} {i : Nat} {b : Api.Block}
theorem SF_in (h : bl[i]? = some b) : SF bl bl.length (4 * i) = phS (setsPh bl bl.length) (usesPh bl (EG bl) bl.length) (4 * i) ∧ SF bl bl.length (4 * i + 1) = orS (fun _ => false) (setsL b.code) ∧ SF bl bl.length (4 * i + 2) = endS bl i b ∧ SF bl bl.length (4 * i + 3) = backL b.code (endS bl i b) := by
  have hl := (List.getElem?_eq_some_iff.1 h).1
  refine ⟨?_, ?_, ?_, ?_⟩
  · unfold SF
    rw [show 4 * i / 4 = i by omega, h]
    simp only
    rw [if_pos hl, if_pos (by omega)]
  · unfold SF
    rw [show (4 * i + 1) / 4 = i by omega, h]
    simp only
    rw [if_pos hl, if_neg (by omega), if_pos (by omega)]
  · unfold SF
    rw [show (4 * i + 2) / 4 = i by omega, h]
    simp only
    rw [if_pos hl, if_neg (by omega), if_neg (by omega), if_pos (by omega)]
  · unfold SF
    rw [show (4 * i + 3) / 4 = i by omega, h]
    simp only
    rw [if_pos hl, if_neg (by omega), if_neg (by omega), if_neg (by omega)]
/-- what is live at the first place of a block is what is live at its place 0. -/
theorem lv_at0 (h : bl[i]? = some b) (x : Wd) : LvB bl i x ↔ AtL bl i b 0 x := by
  obtain ⟨-, s1, s2, s3⟩ := SF_in h
  have hl := (List.getElem?_eq_some_iff.1 h).1
  unfold AtL
  rw [List.drop_zero]
  have e : BackP b.code (LastP bl i) x ↔ BackP b.code (fun y => endS bl i b y = true) x ∨ (x ∉ setsL b.code ∧ ∃ t, t ∈ dsts (EG bl) i ∧ LvB bl t x ∧ SF bl bl.length (4 * t) x = false) := by
    have hq := backP_or (A := fun y => endS bl i b y = true) (B := fun y => ∃ t, t ∈ dsts (EG bl) i ∧ LvB bl t y ∧ SF bl bl.length (4 * t) y = false) x b.code
    have : LastP bl i = fun y => endS bl i b y = true ∨ ∃ t, t ∈ dsts (EG bl) i ∧ LvB bl t y ∧ SF bl bl.length (4 * t) y = false := funext fun y => by unfold LastP; rw [s2]
    rw [this]
    exact hq
  rw [e]
  constructor
  · intro hv
    cases hv with
    | gen hg =>
      left
      unfold GG at hg
      rw [Bool.and_eq_true, s3] at hg
      exact (backL_iff (fun y => Iff.rfl) x).1 hg.2
    | step he hlv hp hx =>
      right
      refine ⟨fun hm => ?_, _, mem_dsts.2 he, hlv, hp⟩
      rw [s1] at hx
      simp [orS, hm] at hx
  · rintro (hg | ⟨hx, t, ht, hv, hp⟩)
    · refine .gen ?_
      unfold GG
      rw [decide_eq_true hl, s3, Bool.true_and]
      exact (backL_iff (fun y => Iff.rfl) x).2 hg
    · refine .step (mem_dsts.1 ht) hv hp ?_
      rw [s1]
      simp [orS, hx]
/-- going back over one instruction. -/
theorem at_step {c : Instr} {k : Nat} (h : b.code[k]? = some c) (x : Wd) : AtL bl i b k x ↔ x ∈ usesI c ∨ (¬ (c.dst ≠ [] ∧ x = c.dst) ∧ AtL bl i b (k + 1) x) := by
  obtain ⟨h1, h2⟩ := List.getElem?_eq_some_iff.1 h
  unfold AtL
  rw [List.drop_eq_getElem_cons h1, h2]
  exact Iff.rfl
theorem at_last (x : Wd) : AtL bl i b b.code.length x ↔ LastP bl i x := by
  unfold AtL
  rw [List.drop_length]
  exact Iff.rfl
theorem mem_setsPh {t : Nat} {y : Wd} {n : Nat} : (t, y) ∈ setsPh bl n ↔ t < n ∧ ∃ c, bl[t]? = some c ∧ ∃ p ∈ c.phis, p.dst = y := by
  unfold setsPh
  rw [List.mem_flatMap]
  constructor
  · rintro ⟨k, hk, h⟩
    split at h
    · rename_i c hc
      unfold setsB at h
      obtain ⟨p, hp, e⟩ := List.mem_map.1 h
      cases e
      exact ⟨List.mem_range.1 hk, c, hc, p, hp, rfl⟩
    · cases h
  · rintro ⟨hk, c, hc, p, hp, rfl⟩
    refine ⟨t, List.mem_range.2 hk, ?_⟩
    rw [hc]
    exact List.mem_map.2 ⟨p, hp, rfl⟩
theorem phi_iff {t : Nat} {c : Api.Block} (h : bl[t]? = some c) (y : Wd) : SF bl bl.length (4 * t) y = true ↔ ∃ p ∈ c.phis, p.dst = y := by
  rw [(SF_in h).1]
  unfold phS
  rw [if_pos (by omega), decide_eq_true_iff, show 4 * t / 4 = t by omega, mem_setsPh]
  exact ⟨fun ⟨_, c', h1, h2⟩ => by rw [h] at h1; cases h1; exact h2, fun h2 => ⟨(List.getElem?_eq_some_iff.1 h).1, c, h, h2⟩⟩
/-- what is live behind the phis of a block to which this one leads, and isn't set by them, is live at the last place. -/
theorem last_of {t : Nat} {c : Api.Block} {d y : Wd} (hb : bl[i]? = some b) (hd : d ∈ b.fin.dest) (hp : plc (names bl) d = some t) (hc : bl[t]? = some c) (hv : LvB bl t y) (hn : ¬ ∃ p ∈ c.phis, p.dst = y) : LastP bl i y := by
  refine .inr ⟨t, mem_dsts.2 ?_, hv, ?_⟩
  · refine List.mem_flatMap.2 ⟨i, List.mem_range.2 (List.getElem?_eq_some_iff.1 hb).1, ?_⟩
    unfold edgesOf
    rw [hb]
    exact List.mem_map.2 ⟨d, hd, by rw [hp]; rfl⟩
  · cases e : SF bl bl.length (4 * t) y with
    | false => rfl
    | true => exact absurd ((phi_iff hc y).1 e) hn
end
theorem backP_in {S : Wd → Prop} {x : Wd} : ∀ {l : List Instr}, BackP l S x → (∃ c ∈ l, x ∈ usesI c) ∨ S x
  | [], h => .inr h
  | i :: r, h => by
    rcases h with h | ⟨_, h⟩
    · exact .inl ⟨i, by simp, h⟩
    · rcases backP_in h with ⟨c, hc, hx⟩ | h
      · exact .inl ⟨c, by simp [hc], hx⟩
      · exact .inr h
theorem endS_in {U : List Wd} {bl : List Api.Block} (ho : FOk U bl) {i : Nat} {b : Api.Block} (hb : bl[i]? = some b) {x : Wd} (h : endS bl i b x = true) : x ∈ U := by
  unfold endS orS at h
  rw [Bool.or_eq_true, decide_eq_true_iff, decide_eq_true_iff] at h
  rcases h with h | h
  · obtain ⟨t, _, h⟩ := List.mem_flatMap.1 h
    split at h
    · rename_i c hc
      obtain ⟨p, hp, h⟩ := List.mem_flatMap.1 h
      obtain ⟨q, hq, h⟩ := List.mem_flatMap.1 h
      unfold pairsIn at h
      split at h
      · split at h
        · obtain ⟨y, hy, e⟩ := List.mem_map.1 h
          cases e
          exact ((ho.ph c (List.mem_of_getElem? hc) p hp).2 q hq).2 x hy
        · cases h
      · cases h
    · cases h
  · exact ho.uT b (List.mem_of_getElem? hb) x h
theorem lv_in {U : List Wd} {bl : List Api.Block} (ho : FOk U bl) : ∀ i x, LvB bl i x → x ∈ U := by
  intro i x h
  induction h with
  | @gen i x hg =>
    unfold GG at hg
    rw [Bool.and_eq_true, decide_eq_true_iff] at hg
    obtain ⟨b, hb⟩ : ∃ b, bl[i]? = some b := ⟨_, List.getElem?_eq_getElem hg.1⟩
    rw [(SF_in hb).2.2.2] at hg
    rcases backP_in ((backL_iff (fun y => Iff.rfl) x).1 hg.2) with ⟨c, hc, hx⟩ | h
    · exact (ho.uI b (List.mem_of_getElem? hb) c hc).2 x hx
    · exact endS_in ho hb h
  | step _ _ _ _ ih => exact ih
theorem at_in {U : List Wd} {bl : List Api.Block} (ho : FOk U bl) {i : Nat} {b : Api.Block} (hb : bl[i]? = some b) {k : Nat} {x : Wd} (h : AtL bl i b k x) : x ∈ U := by
  rcases backP_in h with ⟨c, hc, hx⟩ | h
  · exact (ho.uI b (List.mem_of_getElem? hb) c (List.mem_of_mem_drop hc)).2 x hx
  · rcases h with h | ⟨t, _, h, _⟩
    · rw [(SF_in hb).2.2.1] at h
      exact endS_in ho hb h
    · exact lv_in ho _ _ h
theorem same_yes {w : World} {base base2 : Nat} {A B : Option Addr} {c d : Nat} {a b : List Wd} (ha : w.ownsRow base 9 1 (.slice A a.length c) a.length (a.map str)) (hb : w.ownsRow base2 9 1 (.slice B b.length d) b.length (b.map str)) (la : a.length ≤ 1000000000000) (lb : b.length ≤ 1000000000000) (e : a = b) :
    Calls Tryd.prog 33 #[.slice A a.length c, .slice B b.length d] w fun e w' => e = .returned (.bool true) ∧ Below w.heap.size w w' :=
  (same12_any _ _ _ _ w _ _ a b (texts_own ha rfl (by omega)) (texts_own hb rfl (by omega)) (Nat.le_refl _) (Nat.le_refl _)).mono (by
    rintro e' w' ⟨q, rfl, h1, h2⟩
    obtain rfl : q = true := h1.2 e
    exact ⟨rfl, h2⟩)
end Go.Proofs.YtdgmdpphimenjaaDoor.Lv12
