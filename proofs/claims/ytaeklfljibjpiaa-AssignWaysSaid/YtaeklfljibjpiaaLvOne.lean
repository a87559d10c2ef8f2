/-
  Layer 12: a function of one block, without phis, that leads nowhere.
-/
import Derived.Test.YtaeklfljibjpiaaLvLink
import Derived.Test.YtaeklfljibjpiaaLvBegin
import Derived.Test.YtaeklfljibjpiaaLvPlaces
import Derived.Test.YtaeklfljibjpiaaLvNeed
import Derived.StillTailTactics
namespace Go.Proofs.Ytaeklfljibjpiaa.Lv12
open Go.RowKit Api Mem Sh8 Go.Maps

/-- one block, without phis, that leads nowhere. -/
structure OneB (U : List Wd) (f : Api.Func) (b : Api.Block) : Prop where
  bl : f.blocks = [b]
  phis : b.phis = []
  dest : b.fin.dest = []
  nm : b.name.length ≤ 140737488351232
  uT : ∀ x ∈ usesT b.fin, x ∈ U
  uI : ∀ i ∈ b.code, i.dst ∈ U ∧ ∀ x ∈ usesI i, x ∈ U
  cl : b.code.length ≤ 1000000000000
set_option maxRecDepth 100000 in
set_option maxHeartbeats 8000000 in
theorem layPhis1_any (lo hi : Nat) (w : World) (cs : List Value) (f : Api.Func) (b : Api.Block) (hf : FuncC lo hi w cs f) (hh : hi ≤ w.heap.size) (hb : f.blocks = [b]) (hp : b.phis = []) (vm va : Value) :
    Calls Try.prog 45 #[.agg cs.toArray, vm, va] w fun e w' => e = .returned (.tuple #[]) ∧ Below w.heap.size w w' := by
  obtain ⟨u1, u2, u3, rfl, kp, kv, kb⟩ := hf
  obtain ⟨nm, rs, ps, vs, bl⟩ := f
  simp only at kp kv kb hb ⊢
  subst hb
  obtain ⟨A1, k1, rfl⟩ := kp.form
  obtain ⟨A2, k2, rfl⟩ := kv.form
  obtain ⟨A3, k3, rfl⟩ := kb.form
  obtain ⟨b3, o3, rfl, hb3, cs3, hcl3, hcs3, x1, x2, cs4, e4, kph, kco, x4, e5, kto⟩ := row_at kb (show [b][0]? = some b from rfl)
  subst e5
  subst e4
  obtain ⟨A5, k5, rfl⟩ := Row.form kph
  rw [hp]  at hcs3
  have hbx : Below w.heap.size w (w.alloc (.cells #[str nm, str rs, .slice A1 ps.length k1, .slice A2 vs.length k2, .slice (some ⟨b3, o3, none⟩) 1 k3] 25)) := (Below.refl _ _).alloc (Nat.le_refl _) _
  have HBX := Lib.hid hbx
  obtain ⟨m0, m1, m2, m3, m4, m5, m6, m7, m8⟩ := at9 (cells_later hcs3 (hbx.mono hh) hb3)
  simp only [List.length_nil, List.length_singleton, Nat.zero_mul, Nat.add_zero] at m0 m1 m2 m3 m4 m5 m6 m7 m8
  clear hcs3 kp kv kb kph kco kto hbx
  go_enter Try.func45, Try.ntmps45
  go_wp2_with fail
  generalize hW0 : w.alloc (.cells #[str nm, str rs, .slice A1 ps.length k1, .slice A2 vs.length k2, .slice (some ⟨b3, o3, none⟩) 1 k3] 25) = W0
  rw [hW0] at HBX m0 m1 m2 m3 m4 m5 m6 m7 m8
  have f4 : W0.cell? ⟨w.heap.size, 4, none⟩ = some (.slice (some ⟨b3, o3, none⟩) 1 k3) := by rw [← hW0]; exact (Mem.Own.made w 25 [str nm, str rs, .slice A1 ps.length k1, .slice A2 vs.length k2, .slice (some ⟨b3, o3, none⟩) 1 k3]).cell 4
  clear hW0
  go_loopw [18] (fun iv wr => ∃ k : Nat, k ≤ 1 ∧ iv = .int .i64 k ∧ wr = W0) (fun iv _ => 1 - (intOf iv).toNat)
  case atStart => exact ⟨0, by omega, rfl, rfl⟩
  case round =>
  obtain ⟨k, hk, rfl, rfl⟩ := hrel
  rcases (by omega : k = 0 ∨ k = 1) with rfl | rfl
  · go_wp2_with fail
    go_loopw [28] (fun iv wr2 => iv = .int .i64 0 ∧ wr2 = wr) (fun iv _ => 0)
    case atStart => exact ⟨rfl, rfl⟩
    case round =>
    obtain ⟨rfl, rfl⟩ := hrel
    go_wp2_with fail
    go_roundw
    case rel => exact ⟨1, by omega, rfl, trivial⟩
    case measure => simp [intOf]
  · go_wp2_with fail
    go_end0
    exact ⟨rfl, HBX.out⟩
set_option maxRecDepth 100000 in
set_option maxHeartbeats 8000000 in
theorem spread1_any {U : List Wd} (hU : UOk U) {w : World} {base B : Nat} {c : Nat → Nat} {S : Nat → Wd → Bool} {vi : Nat → Value} {li : Nat → List Int} {vg : Nat → Value} {gr : Nat → List Wd} (h : St U w base B 1 1 c S vi li vg gr) (hb : base ≤ w.heap.size) (hgU : ∀ x ∈ gr 0, x ∈ U) (hgl : (gr 0).length ≤ 1000000000000) (hl : li 1 = []) :
    Calls Try.prog 47 #[.slice (some ⟨B, 0, none⟩) 1 1] w fun e w' => e = .returned (.tuple #[]) ∧ (∃ vg' gr', St U w' base B 1 1 c S vi li vg' gr') ∧ Below base w w' := by
  have n6 := (h.cell (i := 0) (by omega) (show 6 < 7 by omega)).trans (congrArg some (show FF 1 c vi vg 0 6 = vg 0 from rfl))
  obtain ⟨A, k0, hv⟩ := row_form (h.rg.own 0 (by omega))
  obtain ⟨q, hq⟩ : ∃ q, (gr 0).length = q := ⟨_, rfl⟩
  rw [hq] at hv
  rw [hv] at n6
  simp only [Nat.zero_mul, Nat.zero_add] at n6
  have HST := Lib.hid h
  have HGU := Lib.hid hgU
  have HGL := Lib.hid hgl
  have HL := Lib.hid hl
  clear h hgU hgl hl hv hq
  by_cases h0 : q = 0
  · subst h0
    go_enter Try.func47, Try.ntmps47
    go_wp2_with fail
    go_loopw [2, 11] (fun rv iv wr => ∃ k : Nat, k ≤ 1 ∧ iv = .int .i64 k ∧ rv = .slice none 0 0 ∧ wr = w) (fun _ iv _ => 1 - (intOf iv).toNat)
    case atStart => exact ⟨0, by omega, rfl, rfl, rfl⟩
    case round =>
    obtain ⟨k, hk, rfl, rfl, rfl⟩ := hrel
    rcases (by omega : k = 0 ∨ k = 1) with rfl | rfl
    · go_wp2_with fail
      go_roundw
      case rel => exact ⟨1, by omega, rfl, by simp⟩
      case measure => simp [intOf]
    · go_wp2_with fail
      go_loopw [2] (fun rv wr2 => rv = .slice none 0 0 ∧ wr2 = wr) (fun _ _ => 0)
      case atStart => exact ⟨rfl, rfl⟩
      case round =>
      obtain ⟨rfl, rfl⟩ := hrel
      go_wp2_with fail
      go_end0
      exact ⟨rfl, ⟨_, _, HST.out⟩, Below.refl _ _⟩
  · obtain ⟨ii, hii, hi0, hi1, hi2⟩ := info_parts info_int12
    have HII := Lib.hid (show _ ∧ _ ∧ _ ∧ _ from ⟨hii, hi0, hi1, hi2⟩)
    clear hii hi0 hi1 hi2
    have hq0 : (0 : Int) < (q : Int) := by omega
    have e0 : decide ((0 : Int) < (q : Int)) = true := decide_eq_true hq0
    have e1 : decide (0 < q) = true := decide_eq_true (by omega)
    have HN0 := Lib.hid (show w.ownsRow base 3 1 (.slice none 0 0) 0 [] from ⟨by simp, .inl ⟨rfl, rfl⟩⟩)
    go_enter Try.func47, Try.ntmps47
    go_wp2_with fail
    go_loopw [2, 11] (fun rv iv wr => (iv = .int .i64 0 ∧ rv = .slice none 0 0 ∧ wr = w) ∨ (iv = .int .i64 1 ∧ ∃ A1 k1, rv = .slice A1 1 k1 ∧ Hid (wr.ownsRow w.heap.size 3 1 (.slice A1 1 k1) 1 [i64 0]) ∧ Hid (Below w.heap.size w wr))) (fun _ iv _ => 1 - (intOf iv).toNat)
    case atStart => exact .inl ⟨rfl, rfl, rfl⟩
    case round =>
    rcases hrel with ⟨rfl, rfl, rfl⟩ | ⟨rfl, A1, k1, rfl, HR, HB⟩
    · have HN1 := Lib.hid (show wr.ownsRow wr.heap.size 3 1 (.slice none 0 0) 0 [] from ⟨by simp, .inl ⟨rfl, rfl⟩⟩)
      go_wp2_with (at_builtin; refine wpList_growP rfl _ _ 84 rfl wr.heap.size 3 1 ii _ 8 Try.underlying84 HII.out.1 HII.out.2.1 HII.out.2.2.1 HII.out.2.2.2 rfl Nat.one_pos _ _ _ rfl HN1.out [i64 0] _ rfl rfl rfl (by intro u hu; rw [List.mem_singleton] at hu; subst hu; rfl) (by omega) (by omega) (Nat.le_refl _) ?_; intro v9 w9 h9 g9 f9; obtain ⟨A9, k9, rfl⟩ := row_form h9; have H9 := Lib.hid h9; have G9 := Lib.hid g9; clear h9 g9 f9)
      go_roundw
      case rel => exact .inr ⟨rfl, A9, k9, rfl, H9, Lib.hid ((Below.refl _ _).grown G9.out (Nat.le_refl _) (fun j hj => by cases hj))⟩
      case measure => simp [intOf]
    · clear n6
      go_wp2_with fail
      go_loopw [2] (fun rv wr2 => (∃ A1 k1, rv = .slice A1 1 k1 ∧ Hid (wr2.ownsRow w.heap.size 3 1 (.slice A1 1 k1) 1 [i64 0]) ∧ Hid (Below w.heap.size w wr2)) ∨ (∃ A1 k1, rv = .slice A1 0 k1 ∧ Hid (∃ vg' gr', St U wr2 base B 1 1 c S vi li vg' gr') ∧ Hid (Below base w wr2))) (fun rv _ => match rv with | .slice _ n _ => n | _ => 0)
      case atStart => exact .inl ⟨A1, k1, rfl, HR, HB⟩
      case round =>
      rcases hrel with ⟨A1, k1, rfl, HR, HB⟩ | ⟨A1, k1, rfl, HS, HB⟩
      · obtain ⟨b2, rfl, hb2, hb3⟩ := own_addr (k := 0) HR.out (by omega)
        have n0 := own_at HR.out (show [i64 0][0]? = some (i64 0) from rfl)
        have hst := HST.out.below HB.out
        have hcap : 1 ≤ k1 := by
          rcases HR.out.2 with ⟨e, _⟩ | ⟨g, cap, cur, e, _, _, h1, _⟩
          · cases e
          · cases e
            exact h1
        have HQ := Lib.hid (show Calls Try.prog 77 #[.pointer (some ⟨B, 0, none⟩)] wr _ from tell_any hU hst (Nat.le_trans hb HB.out.size) (i := 0) (by omega) HGU.out HGL.out)
        clear hst
        go_wp2_with fail
        refine HQ.out.mono ?_
        rintro e w5 ⟨v5, r5, rfl, hr5, ho5, hst5, hb5⟩
        obtain ⟨A5, k5, rfl⟩ := row_form ho5
        have n1 := (hst5.cell (i := 0) (by omega) (show 1 < 7 by omega)).trans (congrArg some (show FF 1 c vi (upd vg 0 (.slice none 0 0)) 0 1 = vi 1 from rfl))
        have hr1 := hst5.ri.own 1 (by omega)
        rw [HL.out] at hr1
        obtain ⟨A6, k6, hv6⟩ := row_form hr1
        rw [hv6] at n1
        simp only [Nat.zero_mul, Nat.zero_add, List.length_nil] at n1
        have HS5 := Lib.hid (show ∃ vg' gr', St U w5 base B 1 1 c S vi li vg' gr' from ⟨_, _, hst5⟩)
        have HB5 := Lib.hid (show Below base w w5 from (HB.out.mono hb).trans hb5)
        clear hr5 ho5 hst5 hb5 hr1 hv6
        go_wp2_with fail
        go_loopw [2, 49] (fun rv iv wr3 => rv = .slice (some ⟨b2, 0, none⟩) 0 k1 ∧ iv = .int .i64 0 ∧ wr3 = w5) (fun _ iv _ => 0)
        case atStart => exact ⟨rfl, rfl, rfl⟩
        case round =>
        obtain ⟨rfl, rfl, rfl⟩ := hrel
        go_wp2_with fail
        go_roundw
        case rel => exact .inr ⟨_, _, rfl, HS5, HB5⟩
        case measure => simp
      · go_wp2_with fail
        go_end0
        exact ⟨rfl, HS.out, HB.out⟩
set_option maxRecDepth 100000 in
set_option maxHeartbeats 8000000 in
theorem follow1_any {U : List Wd} (hU : UOk U) (lo hi : Nat) (w : World) (cs : List Value) (f : Api.Func) (b : Api.Block) (hf : FuncC lo hi w cs f) (hh : hi ≤ w.heap.size) (ho : OneB U f b) :
    Calls Try.prog 25 #[.agg cs.toArray] w fun e w' => ∃ B c S vi vg gr, e = .returned (.slice (some ⟨B, 0, none⟩) 1 1) ∧ St U w' w.heap.size B 1 1 c S vi (LI []) vg gr ∧ S 2 = (fun y => decide (y ∈ usesT b.fin)) ∧ Below w.heap.size w w' := by
  have hf0 := hf
  obtain ⟨u1, u2, u3, rfl, kp, kv, kb⟩ := hf
  obtain ⟨nm, rs, ps, vs, bl⟩ := f
  have hbl := ho.bl
  simp only at kp kv kb hbl
  subst hbl
  obtain ⟨A1, k1, rfl⟩ := kp.form
  obtain ⟨A2, k2, rfl⟩ := kv.form
  obtain ⟨A3, k3, rfl⟩ := kb.form
  obtain ⟨b3, o3, rfl, hb3, cs3, hcl3, hcs3, hbc⟩ := row_at kb (show [b][0]? = some b from rfl)
  have hE : edgesTo [b] 1 = [] := by
    simp [edgesTo, edgesOf, ho.dest]
  have hbx : Below w.heap.size w (w.alloc (.cells #[str nm, str rs, .slice A1 ps.length k1, .slice A2 vs.length k2, .slice (some ⟨b3, o3, none⟩) 1 k3] 25)) := (Below.refl _ _).alloc (Nat.le_refl _) _
  generalize hW0 : w.alloc (.cells #[str nm, str rs, .slice A1 ps.length k1, .slice A2 vs.length k2, .slice (some ⟨b3, o3, none⟩) 1 k3] 25) = W0 at hbx
  have hO0 : Mem.Own W0 w.heap.size 25 [str nm, str rs, .slice A1 ps.length k1, .slice A2 vs.length k2, .slice (some ⟨b3, o3, none⟩) 1 k3] := by rw [← hW0]; exact Mem.Own.made w _ _
  have HO0 := Lib.hid hO0
  have HBX := Lib.hid hbx
  have HW0 := Lib.hid hW0
  have HF := Lib.hid hf0
  have HBC := Lib.hid hbc
  have HC3 := Lib.hid hcs3
  have hlt0 := hO0.lt
  have HQ1 := Lib.hid (lplaces_any lo hi W0 _ _ (FuncC.move (Still.of_below (hbx.mono hh)) hf0) (Nat.le_trans hh hbx.size) (fun b' hb' => by rw [List.mem_singleton] at hb'; subst hb'; exact ho.nm))
  clear hf0 kp kv kb hcs3 hbc hO0 hbx hW0
  go_enter Try.func25, Try.ntmps25
  go_wp2_with fail
  rw [HW0.out]
  refine HQ1.out.mono ?_
  rintro e w1 ⟨gm, rfl, hgm1, hgm2, hb1⟩
  have HB1 := Lib.hid (HBX.out.trans (hb1.mono HBX.out.size))
  have HO1 := Lib.hid (HO0.out.below hb1 hlt0)
  have hh1 : hi ≤ w1.heap.size := Nat.le_trans hh HB1.out.size
  have HF1 := Lib.hid (FuncC.move (Still.of_below (HB1.out.mono hh)) HF.out)
  have HQ2 := Lib.hid (linked_any U lo hi w1 _ _ HF1.out hh1 (fun b' hb' x hx => by simp only [List.mem_singleton] at hb'; subst hb'; rw [ho.dest] at hx; cases hx) gm _ hgm2 (by simp) (by simp) (by show (edgesTo [b] 1).length ≤ _; rw [hE]; simp) (fun b' hb' x hx => by simp only [List.mem_singleton] at hb'; subst hb'; rw [ho.dest] at hx; cases hx))
  have f4 := HO1.out.cell 4
  have f0 := HO1.out.cell 0
  have f1 := HO1.out.cell 1
  have f2 := HO1.out.cell 2
  have f3 := HO1.out.cell 3
  simp only [List.getElem?_cons_zero, List.getElem?_cons_succ] at f0 f1 f2 f3 f4
  clear hb1 hgm2
  go_wp2_with fail
  refine HQ2.out.mono ?_
  rintro e w2 ⟨B, c, vi, rfl, hst2, hb2⟩
  simp only [List.length_singleton] at hst2
  rw [hE] at hst2
  have HST2 := Lib.hid hst2
  have HB2 := Lib.hid (HB1.out.trans (hb2.mono HB1.out.size))
  have HO2 := Lib.hid (HO1.out.below hb2 HO1.out.lt)
  have HF2 := Lib.hid (FuncC.move (Still.of_below (HB2.out.mono hh)) HF.out)
  have HQ3 := Lib.hid (layPhis1_any lo hi w2 _ _ b HF2.out (Nat.le_trans hh HB2.out.size) rfl ho.phis (.map (some gm)) (.slice (some ⟨B, 0, none⟩) 1 1))
  clear hst2 hb2 f0 f1 f2 f3 f4
  have f4 := HO2.out.cell 4
  have f0 := HO2.out.cell 0
  have f1 := HO2.out.cell 1
  have f2 := HO2.out.cell 2
  have f3 := HO2.out.cell 3
  simp only [List.getElem?_cons_zero, List.getElem?_cons_succ] at f0 f1 f2 f3 f4
  go_wp2_with fail
  refine HQ3.out.mono ?_
  rintro e w3 ⟨rfl, hb3'⟩
  have HST3 := Lib.hid (HST2.out.below hb3')
  have HB3 := Lib.hid (HB2.out.trans (hb3'.mono HB2.out.size))
  have HO3 := Lib.hid (HO2.out.below hb3' HO2.out.lt)
  have hb13 : w1.heap.size ≤ w3.heap.size := Nat.le_trans (by have := HST2.out.out.lt; have := HST2.out.ob; omega) hb3'.size
  clear hb3' f0 f1 f2 f3 f4
  have f4 := HO3.out.cell 4
  simp only [List.getElem?_cons_zero, List.getElem?_cons_succ] at f4
  have hbc3 := BlockC.move (Still.of_below (HB3.out.mono hh)) HBC.out
  have hc3 := cells_later HC3.out (HB3.out.mono hh) hb3
  have HQ4 := Lib.hid (show Calls Try.prog 46 #[.pointer (some ⟨B, 0, none⟩), .agg cs3.toArray] w3.drew _ from begin_any hU HST3.out.drew (by show w1.heap.size ≤ w3.heap.size; omega) (m := 0) (by omega) rfl rfl lo hi cs3 b (BlockC.move (Still.of_below (Below.refl hi w3).drew) hbc3) hh1 ho.uT ho.uI ho.cl)
  obtain ⟨y1, y2, cs4, rfl, _, _, y3, rfl, _⟩ := hbc3
  obtain ⟨m0, m1, m2, m3, m4, m5, m6, m7, m8⟩ := at9 hc3
  simp only [Nat.zero_mul, Nat.add_zero] at m0 m1 m2 m3 m4 m5 m6 m7 m8
  clear hc3
  go_wp2_with fail
  go_loopw [18] (fun iv wr => (iv = .int .i64 0 ∧ wr = w3) ∨ (iv = .int .i64 1 ∧ Hid (∃ c S vg gr, St U wr w1.heap.size B 1 1 c S vi (LI []) vg gr ∧ S 2 = (fun y => decide (y ∈ usesT b.fin)) ∧ (∀ x ∈ gr 0, x ∈ U) ∧ (gr 0).length ≤ 1000000000000 ∧ Below w.heap.size w wr))) (fun iv _ => 1 - (intOf iv).toNat)
  case atStart => exact .inl ⟨rfl, rfl⟩
  case round =>
  rcases hrel with ⟨rfl, rfl⟩ | ⟨rfl, HS⟩
  · go_wp2_with fail
    go_still_tail 8, (by kernel_rfl)
    change wpList _ _ _ _ _ wr.drew
    go_wp2_with fail
    refine HQ4.out.mono ?_
    rintro e w5 ⟨rfl, g, v, q, X, hst5, hX, hqn, hqm, hql, hb5⟩
    have HN := Lib.hid (show ∃ c S vg gr, St U w5 w1.heap.size B 1 1 c S vi (LI []) vg gr ∧ S 2 = (fun y => decide (y ∈ usesT b.fin)) ∧ (∀ x ∈ gr 0, x ∈ U) ∧ (gr 0).length ≤ 1000000000000 ∧ Below w.heap.size w w5 from by
      refine ⟨_, _, _, _, hst5, ?_, fun x hx => ?_, ?_, HB3.out.trans ((below_of_drew hb5).mono HB1.out.size)⟩
      · rw [upd_ne _ _ (by omega), upd_ne _ _ (by omega), upd_at]
        exact funext fun y => by simp [orS]
      · rw [upd_at] at hx
        have hs := hst5.ms.set 3 ⟨by omega, fun _ => by omega⟩
        rw [upd_ne _ _ (by omega : 3 ≠ 4 * 0 + 1), upd_at] at hs
        exact hs.2 x ((hqm x).1 hx)
      · rw [upd_at]
        have := hU.len
        omega)
    clear hst5 hX hqn hqm hql hb5
    go_wp2_with fail
    go_roundw
    case rel => exact .inr ⟨rfl, HN⟩
    case measure => simp [intOf]
  · obtain ⟨c5, S5, vg5, gr5, hst5, hS5, hg5, hl5, hb5⟩ := HS.out
    have HQ5 := Lib.hid (spread1_any hU hst5 (by have := hst5.out.lt; have := hst5.ob; omega) hg5 hl5 rfl)
    have HS5 := Lib.hid hS5
    have HB5 := Lib.hid hb5
    have h15 : w.heap.size ≤ w1.heap.size := HB1.out.size
    clear hst5 hS5 hg5 hl5 hb5 HS f4 m0 m1 m2 m3 m4 m5 m6 m7 m8
    go_wp2_with fail
    refine HQ5.out.mono ?_
    rintro e w6 ⟨rfl, ⟨vg6, gr6, hst6⟩, hb6⟩
    have HST6 := Lib.hid hst6
    have HB6 := Lib.hid (HB5.out.trans (hb6.mono h15))
    clear hst6 hb6
    go_wp2_with fail
    go_ret
    exact ⟨B, c5, S5, vi, vg6, gr6, rfl, HST6.out.lower h15, HS5.out, HB6.out⟩
end Go.Proofs.Ytaeklfljibjpiaa.Lv12
