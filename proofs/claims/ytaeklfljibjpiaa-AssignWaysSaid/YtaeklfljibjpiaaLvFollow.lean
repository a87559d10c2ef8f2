/-
  Layer 12: what is known of blocks when nothing grows any more.
-/
import Derived.Test.YtaeklfljibjpiaaLvSpread
import Derived.Test.YtaeklfljibjpiaaLvPhis
import Derived.Test.YtaeklfljibjpiaaLvPlaces
namespace Go.Proofs.Ytaeklfljibjpiaa.Lv12
open Go.RowKit Api Mem Sh8 Go.Maps

/-- what a function must be for its liveness to be told, its names being among U. -/
structure FOk (U : List Wd) (bl : List Api.Block) : Prop where
  pos : 0 < bl.length
  few : bl.length ≤ 1000000
  nU : bl.length * U.length ≤ 1000000000000
  nm : ∀ b ∈ bl, b.name.length ≤ 140737488351232
  dl : ∀ b ∈ bl, ∀ x ∈ b.fin.dest, x.length ≤ 140737488351232
  dn : ∀ b ∈ bl, ∀ x ∈ b.fin.dest, x ∈ names bl
  el : (edgesTo bl bl.length).length ≤ 1000000000000
  uT : ∀ b ∈ bl, ∀ x ∈ usesT b.fin, x ∈ U
  uI : ∀ b ∈ bl, ∀ i ∈ b.code, i.dst ∈ U ∧ ∀ x ∈ usesI i, x ∈ U
  cl : ∀ b ∈ bl, b.code.length ≤ 1000000000000
  ph : ∀ b ∈ bl, ∀ p ∈ b.phis, p.dst ∈ U ∧ ∀ q ∈ p.ins, q.name.length ≤ 140737488351232 ∧ ∀ x ∈ namesA [q.a], x ∈ U
abbrev EG (bl : List Api.Block) : List Edge := edgesTo bl bl.length
theorem edges_lt {bl : List Api.Block} (h0 : 0 < bl.length) : ∀ e ∈ EG bl, e.1 < bl.length ∧ e.2 < bl.length := by
  intro e he
  refine ⟨(edges_sorted bl bl.length).2 e he, ?_⟩
  unfold EG edgesTo at he
  obtain ⟨i, _, h2⟩ := List.mem_flatMap.1 he
  unfold edgesOf at h2
  split at h2
  · obtain ⟨x, _, rfl⟩ := List.mem_map.1 h2
    show (plc (names bl) x).getD 0 < _
    cases e : plc (names bl) x with
    | none => exact h0
    | some k => have := plc_lt e; rwa [names_len] at this
  · cases h2
/-- what is used at the end of block i, phis on the ways from it included. -/
def endS (bl : List Api.Block) (i : Nat) (b : Api.Block) : Wd → Bool := orS (fun y => decide ((i, y) ∈ usesPh bl (EG bl) bl.length)) (usesT b.fin)
/-- all sets, when so many blocks have been gone over. -/
def SF (bl : List Api.Block) (k x : Nat) : Wd → Bool := match bl[x / 4]? with
  | some b => if x / 4 < k then (if x % 4 = 0 then phS (setsPh bl bl.length) (usesPh bl (EG bl) bl.length) x else if x % 4 = 1 then orS (fun _ => false) (setsL b.code) else if x % 4 = 2 then endS bl (x / 4) b else backL b.code (endS bl (x / 4) b)) else phS (setsPh bl bl.length) (usesPh bl (EG bl) bl.length) x
  | none => phS (setsPh bl bl.length) (usesPh bl (EG bl) bl.length) x
theorem SF_zero (bl : List Api.Block) : SF bl 0 = phS (setsPh bl bl.length) (usesPh bl (EG bl) bl.length) := funext fun x => by
  unfold SF
  split
  · rw [if_neg (Nat.not_lt_zero _)]
  · rfl
theorem SF_out (bl : List Api.Block) {k x : Nat} (h : k ≤ x / 4) : SF bl k x = phS (setsPh bl bl.length) (usesPh bl (EG bl) bl.length) x := by
  unfold SF
  split
  · rw [if_neg (by omega)]
  · rfl
theorem SF_next {bl : List Api.Block} {k : Nat} {b : Api.Block} (hb : bl[k]? = some b) {X : Wd → Bool} (hX : ∀ y, X y = orS (SF bl k (4 * k + 1)) (setsL b.code) y) :
    upd (upd (upd (SF bl k) (4 * k + 2) (orS (SF bl k (4 * k + 2)) (usesT b.fin))) (4 * k + 3) (backL b.code (orS (SF bl k (4 * k + 2)) (usesT b.fin)))) (4 * k + 1) X = SF bl (k + 1) := by
  have h2 : orS (SF bl k (4 * k + 2)) (usesT b.fin) = endS bl k b := by
    rw [SF_out bl (by omega)]
    unfold endS
    congr 1
    funext y
    unfold phS
    rw [if_neg (by omega), if_pos (by omega), show (4 * k + 2) / 4 = k by omega]
  have h1 : X = orS (fun _ => false) (setsL b.code) := by
    funext y
    rw [hX y, SF_out bl (by omega)]
    unfold orS phS
    rw [if_neg (by omega), if_neg (by omega)]
  rw [h2, h1]
  funext x
  have hat : ∀ j, j < 4 → x = 4 * k + j → SF bl (k + 1) x = (if x % 4 = 0 then phS (setsPh bl bl.length) (usesPh bl (EG bl) bl.length) x else if x % 4 = 1 then orS (fun _ => false) (setsL b.code) else if x % 4 = 2 then endS bl (x / 4) b else backL b.code (endS bl (x / 4) b)) := by
    intro j hj e
    unfold SF
    rw [show x / 4 = k by omega, hb]
    simp only
    rw [if_pos (by omega)]
  by_cases e1 : x = 4 * k + 1
  · rw [hat 1 (by omega) e1, e1, upd_at, if_neg (by omega), if_pos (by omega)]
  · rw [upd_ne _ _ e1]
    by_cases e3 : x = 4 * k + 3
    · rw [hat 3 (by omega) e3, e3, upd_at, if_neg (by omega), if_neg (by omega), if_neg (by omega), show (4 * k + 3) / 4 = k by omega]
    · rw [upd_ne _ _ e3]
      by_cases e2 : x = 4 * k + 2
      · rw [hat 2 (by omega) e2, e2, upd_at, if_neg (by omega), if_neg (by omega), if_pos (by omega), show (4 * k + 2) / 4 = k by omega]
      · rw [upd_ne _ _ e2]
        by_cases e0 : x = 4 * k
        · rw [hat 0 (by omega) e0, if_pos (by omega), SF_out bl (by omega)]
        · unfold SF
          split
          · have : x / 4 ≠ k := by omega
            by_cases e : x / 4 < k
            · rw [if_pos e, if_pos (show x / 4 < k + 1 by omega)]
            · rw [if_neg e, if_neg (show ¬ x / 4 < k + 1 by omega)]
          · rfl
/-- what is live at the first place of block i. -/
abbrev LvB (bl : List Api.Block) : Nat → Wd → Prop := LvS (EG bl) bl.length (SF bl bl.length)
/-- what comes of it. -/
def FolP (U : List Wd) (bl : List Api.Block) (w : World) (e : Ending) (w' : World) : Prop := ∃ B c vi vg gr L, e = .returned (.slice (some ⟨B, 0, none⟩) bl.length bl.length) ∧ St U w' w.heap.size B bl.length bl.length c (mix (SF bl bl.length) L) vi (LI (EG bl)) vg gr ∧ (∀ i x, i < bl.length → (L i x = true ↔ LvB bl i x)) ∧ Below w.heap.size w w'
/-- between two blocks that are gone over. -/
def BgS (U : List Wd) (bl : List Api.Block) (base B : Nat) (vi : Nat → Value) (k : Nat) (wr : World) : Prop := ∃ c vg gr, St U wr base B bl.length k c (SF bl k) vi (LI (EG bl)) vg gr ∧ (∀ i, i < k → (gr i).Nodup ∧ ∀ x, x ∈ gr i ↔ SF bl k (4 * i + 3) x = true) ∧ (∀ i, k ≤ i → vg i = .slice none 0 0 ∧ gr i = [])
theorem SF_keep {bl : List Api.Block} {k i : Nat} (h : i < k) (hi : i < bl.length) : SF bl (k + 1) (4 * i + 3) = SF bl k (4 * i + 3) := by
  unfold SF
  rw [show (4 * i + 3) / 4 = i by omega, List.getElem?_eq_getElem hi]
  simp only
  rw [if_pos (by omega), if_pos h]
set_option maxRecDepth 100000 in
set_option maxHeartbeats 8000000 in
theorem follow_any {U : List Wd} (hU : UOk U) (lo hi : Nat) (w : World) (cs : List Value) (f : Api.Func) (hf : FuncC lo hi w cs f) (hh : hi ≤ w.heap.size) (ho : FOk U f.blocks) :
    Calls Try.prog 25 #[.agg cs.toArray] w (FolP U f.blocks w) := by
  have hf0 := hf
  obtain ⟨u1, u2, u3, rfl, kp, kv, kb⟩ := hf
  obtain ⟨nm, rs, ps, vs, bl⟩ := f
  simp only at kp kv kb ho ⊢
  obtain ⟨A1, k1, rfl⟩ := kp.form
  obtain ⟨A2, k2, rfl⟩ := kv.form
  obtain ⟨A3, k3, rfl⟩ := kb.form
  obtain ⟨W0, hW0⟩ : ∃ W0, w.alloc (.cells #[str nm, str rs, .slice A1 ps.length k1, .slice A2 vs.length k2, .slice A3 bl.length k3] 25) = W0 := ⟨_, rfl⟩
  obtain ⟨hO0, hbx, hz0⟩ := box8 (c := [str nm, str rs, .slice A1 ps.length k1, .slice A2 vs.length k2, .slice A3 bl.length k3]) hW0
  have HO0 := Lib.hid hO0
  have HBX := Lib.hid hbx
  have HW0 := Lib.hid hW0
  have HF := Lib.hid hf0
  have KB := Lib.hid kb
  have HOK := Lib.hid ho
  have hlt0 := hO0.lt
  have hn1 : bl.length ≤ 1000000 := ho.few
  have hn0 : 0 < bl.length := ho.pos
  have HQ1 := Lib.hid (lplaces_any lo hi W0 _ _ (FuncC.move (Still.of_below (hbx.mono hh)) hf0) (Nat.le_trans hh hbx.size) (fun b' hb' => ho.nm b' hb'))
  clear hf0 kp kv kb hO0 hbx hW0 ho
  go_enter Try.func25, Try.ntmps25
  go_wp2_with fail
  rw [HW0.out]
  refine HQ1.out.mono ?_
  rintro e w1 ⟨gm, rfl, hgm1, hgm2, hb1⟩
  have HB1 := Lib.hid (HBX.out.trans (hb1.mono HBX.out.size))
  have HO1 := Lib.hid (HO0.out.below hb1 hlt0)
  have hh1 : hi ≤ w1.heap.size := Nat.le_trans hh HB1.out.size
  have HF1 := Lib.hid (FuncC.move (Still.of_below (HB1.out.mono hh)) HF.out)
  have HM1 := Lib.hid hgm2
  have HQ2 := Lib.hid (linked_any U lo hi w1 _ _ HF1.out hh1 HOK.out.dl gm _ hgm2 hn0 hn1 HOK.out.el HOK.out.dn)
  have f4 := HO1.out.cell 4
  have f0 := HO1.out.cell 0
  have f1 := HO1.out.cell 1
  have f2 := HO1.out.cell 2
  have f3 := HO1.out.cell 3
  simp only [List.getElem?_cons_zero, List.getElem?_cons_succ] at f0 f1 f2 f3 f4
  clear hb1 hgm2
  go_wp2_with fail
  refine HQ2.out.mono ?_
  rintro e w2 ⟨B, c, vi, rfl, hst2, hb2⟩
  have HB2 := Lib.hid (HB1.out.trans (hb2.mono HB1.out.size))
  have HO2 := Lib.hid (HO1.out.below hb2 HO1.out.lt)
  have HF2 := Lib.hid (FuncC.move (Still.of_below (HB2.out.mono hh)) HF.out)
  have hb12 : w1.heap.size ≤ w2.heap.size := hb2.size
  have HQ3 := Lib.hid (layPhis_any hU lo hi _ _ HF2.out hh1 hst2 hb12 gm _ (own_belowM HM1.out hb2 HM1.out.lt) HM1.out.lt (edges_lt hn0) HOK.out.el (srcs_sorted _ _) HOK.out.ph)
  clear hst2 hb2 f0 f1 f2 f3 f4
  have f4 := HO2.out.cell 4
  have f0 := HO2.out.cell 0
  have f1 := HO2.out.cell 1
  have f2 := HO2.out.cell 2
  have f3 := HO2.out.cell 3
  simp only [List.getElem?_cons_zero, List.getElem?_cons_succ] at f0 f1 f2 f3 f4
  go_wp2_with fail
  refine HQ3.out.mono ?_
  rintro e w3 ⟨rfl, hst3, hb3⟩
  have HB3 := Lib.hid (HB2.out.trans (hb3.mono (HB1.out.size)))
  have hb13 : w1.heap.size ≤ w3.heap.size := by have := hb3.size; omega
  have hO3 : Mem.Own w3 w.heap.size 25 [str nm, str rs, .slice A1 ps.length k1, .slice A2 vs.length k2, .slice A3 bl.length k3] := HO2.out.below hb3 (by have := HO1.out.lt; omega)
  have HO3 := Lib.hid hO3
  have HS3 := Lib.hid (show BgS U bl w1.heap.size B vi 0 w3 from ⟨_, _, _, by rw [SF_zero]; exact hst3, fun i h => absurd h (Nat.not_lt_zero _), fun i _ => ⟨rfl, rfl⟩⟩)
  have HBr3 := Lib.hid (Below.refl w1.heap.size w3)
  have hlw : w.heap.size < w1.heap.size := HO1.out.lt
  clear f0 f1 f2 f3 f4 hO3 hst3 hb3 HQ1 HQ2 HQ3
  have f4' := HO3.out.cell 4
  simp only [List.getElem?_cons_zero, List.getElem?_cons_succ] at f4'
  go_wp2_with fail
  go_loopw [18] (fun iv wr => ∃ k : Nat, k ≤ bl.length ∧ iv = .int .i64 k ∧ Hid (BgS U bl w1.heap.size B vi k wr) ∧ Hid (Below w1.heap.size w3 wr)) (fun iv _ => bl.length - (intOf iv).toNat)
  case atStart => exact ⟨0, Nat.zero_le _, rfl, HS3, HBr3⟩
  case round =>
  clear f4' HS3 HBr3
  obtain ⟨k, hk, rfl, HS, HBr⟩ := hrel
  have hsz : w1.heap.size ≤ wr.heap.size := by have := HBr.out.size; omega
  by_cases hlt : k < bl.length
  · obtain ⟨b, hx⟩ : ∃ y, bl[k]? = some y := ⟨_, List.getElem?_eq_getElem hlt⟩
    obtain ⟨b3, o3, rfl, hb3, cs3, hcl3, hcs3, hbc⟩ := row_at KB.out hx
    have hbW : Below hi w wr := (HB3.out.mono hh).trans (HBr.out.mono hh1)
    have hO4 := HO3.out.below (HBr.out) hlw
    have f4 := hO4.cell 4
    simp only [List.getElem?_cons_zero, List.getElem?_cons_succ] at f4
    have hbc3 := BlockC.move (Still.of_below hbW) hbc
    have hc3 := cells_later hcs3 hbW hb3
    obtain ⟨c5, vg5, gr5, hst5, hg5, hn5⟩ := HS.out
    have hbm := List.mem_of_getElem? hx
    have HQ4 := Lib.hid (show Calls Try.prog 46 #[.pointer (some ⟨B, k * 7, none⟩), .agg cs3.toArray] wr.drew _ from begin_any hU hst5.drew hsz hlt (hn5 k (Nat.le_refl _)).1 (hn5 k (Nat.le_refl _)).2 lo hi cs3 b (BlockC.move (Still.of_below (Below.refl hi wr).drew) hbc3) hh1 (HOK.out.uT b hbm) (HOK.out.uI b hbm) (HOK.out.cl b hbm))
    have HX := Lib.hid hx
    have HG5 := Lib.hid hg5
    have HN5 := Lib.hid hn5
    obtain ⟨y1, y2, cs4, rfl, _, _, y3, rfl, _⟩ := hbc3
    obtain ⟨m0, m1, m2, m3, m4, m5, m6, m7, m8⟩ := at9 hc3
    clear hc3 hcs3 hbc hbW hO4 hst5 hg5 hn5 hbm hx HS
    go_wp2_with fail
    go_still_tail 8, (by kernel_rfl)
    change wpList _ _ _ _ _ wr.drew
    go_wp2_with fail
    refine HQ4.out.mono ?_
    rintro e w5 ⟨rfl, g, v, q, X, hst5, hX, hqn, hqm, hql, hb5⟩
    have HN := Lib.hid (show BgS U bl w1.heap.size B vi (k + 1) w5 from by
      rw [SF_next HX.out hX] at hst5
      refine ⟨_, _, _, hst5, fun i hi => ?_, fun i hi => ?_⟩
      · by_cases e : i = k
        · subst e
          rw [upd_at]
          refine ⟨hqn, fun x => ?_⟩
          rw [hqm x, ← SF_next HX.out hX, upd_ne _ _ (by omega), upd_at]
        · rw [upd_ne _ _ e, SF_keep (by omega) (by omega)]
          exact HG5.out i (by omega)
      · rw [upd_ne _ _ (by omega), upd_ne _ _ (by omega)]
        exact HN5.out i (by omega))
    have HB5 := Lib.hid (HBr.out.trans (below_of_drew hb5))
    clear hst5 hX hqn hqm hql hb5 f4 m0 m1 m2 m3 m4 m5 m6 m7 m8
    go_wp2_with fail
    go_roundw
    case rel => exact ⟨k + 1, by omega, by go_num, HN, HB5⟩
    case measure => simp [intOf]; omega
  · obtain rfl : k = bl.length := by omega
    obtain ⟨c5, vg5, gr5, hst5, hg5, hn5⟩ := HS.out
    have HQ5 := Lib.hid (spread_any hU hst5 hsz (edges_lt hn0) HOK.out.el (by omega) HOK.out.nU hg5)
    have h15 : w.heap.size ≤ w1.heap.size := HB1.out.size
    clear hst5 hg5 hn5 HS
    go_wp2_with fail
    refine HQ5.out.mono ?_
    rintro e w6 ⟨rfl, ⟨L, vg6, gr6, hst6, hL6⟩, hb6⟩
    have HST6 := Lib.hid hst6
    have HL6 := Lib.hid hL6
    have HB6 := Lib.hid ((HB3.out.trans (HBr.out.mono h15)).trans (hb6.mono h15))
    clear hst6 hb6 hL6
    go_wp2_with fail
    go_ret
    exact ⟨B, c5, vi, vg6, gr6, L, rfl, HST6.out.lower h15, HL6.out, HB6.out⟩
end Go.Proofs.Ytaeklfljibjpiaa.Lv12
