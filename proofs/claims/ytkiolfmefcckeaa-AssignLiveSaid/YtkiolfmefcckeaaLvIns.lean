/-
  Layer 12: what is live at blocks' first places.
-/
import Derived.Test.YtkiolfmefcckeaaLvAtG
namespace Go.Proofs.Ytkiolfmefcckeaa.Lv12
open Go.RowKit Go.Shelf Api Mem Sh8 Go.Maps

/-- rows of names, n of them: those at i are what Q i asks for, rising. -/
def RowsQ (Q : Nat → Wd → Prop) (w : World) (base Bv n k : Nat) : Prop := ∃ vs : List Value, Mem.Own w Bv 34 vs ∧ vs.length = n ∧ base ≤ Bv ∧ ∀ i, i < k → ∃ v r, vs[i]? = some v ∧ Rise r ∧ (∀ x, x ∈ r ↔ Q i x) ∧ w.ownsRow base 9 1 v r.length (r.map str)
theorem RowsQ.below {Q : Nat → Wd → Prop} {w w' : World} {base Bv n k : Nat} (h : RowsQ Q w base Bv n k) (hb : Below w.heap.size w w') : RowsQ Q w' base Bv n k := by
  obtain ⟨vs, h1, h2, h3, h4⟩ := h
  refine ⟨vs, h1.below hb h1.lt, h2, h3, fun i hi => ?_⟩
  obtain ⟨v, r, q1, q2, q3, q4⟩ := h4 i hi
  exact ⟨v, r, q1, q2, q3, own_below q4 hb⟩
theorem RowsQ.lt {Q : Nat → Wd → Prop} {w : World} {base Bv n k : Nat} (h : RowsQ Q w base Bv n k) : Bv < w.heap.size := by
  obtain ⟨vs, h1, _⟩ := h
  exact h1.lt
theorem RowsQ.thaw {Q : Nat → Wd → Prop} {w : World} {base Bv n k : Nat} (h : RowsQ Q w base Bv n k) (j : Nat) : w.frozen? ⟨Bv, j, none⟩ = false := by
  obtain ⟨vs, h1, _⟩ := h
  exact h1.thaw j
theorem RowsQ.there {Q : Nat → Wd → Prop} {w : World} {base Bv n k : Nat} (h : RowsQ Q w base Bv n k) {j : Nat} (hj : j < n) : ∃ u, w.cell? ⟨Bv, j, none⟩ = some u := by
  obtain ⟨vs, h1, h2, _⟩ := h
  exact ⟨_, (h1.cell j).trans (List.getElem?_eq_getElem (by omega))⟩
theorem RowsQ.store {Q : Nat → Wd → Prop} {w : World} {base Bv n k : Nat} (h : RowsQ Q w base Bv n k) (hk : k < n) {v : Value} {r : List Wd} (hr : Rise r) (hm : ∀ x, x ∈ r ↔ Q k x) (ho : w.ownsRow base 9 1 v r.length (r.map str)) : RowsQ Q (w.setCell ⟨Bv, k, none⟩ v) base Bv n (k + 1) := by
  obtain ⟨vs, h1, h2, h3, h4⟩ := h
  have gc := grown_cell w ⟨Bv, k, none⟩ v
  have hn := notT_own h1 (e := 9) (by decide)
  refine ⟨vs.set k v, h1.store k v, by rw [List.length_set]; exact h2, h3, fun i hi => ?_⟩
  by_cases e : i = k
  · subst e
    exact ⟨v, r, by rw [List.getElem?_set_self (by omega)], hr, hm, row_other ho gc hn⟩
  · obtain ⟨v', r', q1, q2, q3, q4⟩ := h4 i (by omega)
    exact ⟨v', r', by rw [List.getElem?_set_ne (Ne.symm e)]; exact q1, q2, q3, row_other q4 gc hn⟩
theorem RowsQ.at {Q : Nat → Wd → Prop} {w : World} {base Bv n : Nat} (h : RowsQ Q w base Bv n n) {i : Nat} (hi : i < n) : ∃ v r, w.cell? ⟨Bv, i, none⟩ = some v ∧ Rise r ∧ (∀ x, x ∈ r ↔ Q i x) ∧ w.ownsRow base 9 1 v r.length (r.map str) := by
  obtain ⟨vs, h1, h2, h3, h4⟩ := h
  obtain ⟨v, r, q1, q2, q3, q4⟩ := h4 i hi
  exact ⟨v, r, (h1.cell i).trans q1, q2, q3, q4⟩
theorem info_strs : (Try.prog.info? 34).map (fun i => (i.zero, i.size, i.bytes)) = some (some (.slice none 0 0), 1, 24) := by kernel_rfl
theorem RowsQ.made (Q : Nat → Wd → Prop) (w : World) (base n : Nat) (hb : base ≤ w.heap.size) : RowsQ Q (w.alloc (.cells (List.replicate n (.slice none 0 0)).toArray 34)) base w.heap.size n 0 :=
  ⟨_, Mem.Own.made w _ _, by simp, hb, fun i hi => absurd hi (Nat.not_lt_zero _)⟩
def InsP (bl : List Api.Block) (w : World) (e : Ending) (w' : World) : Prop := ∃ Bv, e = .returned (.slice (some ⟨Bv, 0, none⟩) bl.length bl.length) ∧ RowsQ (LvB bl) w' w.heap.size Bv bl.length bl.length ∧ Below w.heap.size w w'
set_option maxRecDepth 100000 in
set_option maxHeartbeats 8000000 in
theorem ins_any {U : List Wd} (hU : UOk U) (lo hi : Nat) (w : World) (cs : List Value) (f : Api.Func) (hf : FuncC lo hi w cs f) (hh : hi ≤ w.heap.size) (ho : FOk U f.blocks) :
    Calls Try.prog 13 #[.agg cs.toArray] w (InsP f.blocks w) := by
  have hf0 := hf
  obtain ⟨u1, u2, u3, rfl, kp, kv, kb⟩ := hf
  obtain ⟨nm, rs, ps, vs, bl⟩ := f
  simp only at kp kv kb ho ⊢
  obtain ⟨A1, k1, rfl⟩ := kp.form
  obtain ⟨A2, k2, rfl⟩ := kv.form
  obtain ⟨A3, k3, rfl⟩ := kb.form
  have hn1 : bl.length ≤ 1000000 := ho.few
  have hn0 : 0 < bl.length := ho.pos
  have HOK := Lib.hid ho
  obtain ⟨W0, hW0⟩ : ∃ W0, w.alloc (.cells #[str nm, str rs, .slice A1 ps.length k1, .slice A2 vs.length k2, .slice A3 bl.length k3] 40) = W0 := ⟨_, rfl⟩
  obtain ⟨hO0, hbx, hz0⟩ := box8 (c := [str nm, str rs, .slice A1 ps.length k1, .slice A2 vs.length k2, .slice A3 bl.length k3]) hW0
  have HW0 := Lib.hid hW0
  have HBX := Lib.hid hbx
  have HQ1 := Lib.hid (follow_any hU lo hi W0 _ _ (FuncC.move (Still.of_below (hbx.mono hh)) hf0) (Nat.le_trans hh hbx.size) ho)
  clear hf0 kp kv kb ho hW0 hO0 hbx
  go_enter Try.func13, Try.ntmps13
  go_wp2_with fail
  rw [HW0.out]
  refine HQ1.out.mono ?_
  rintro e w1 ⟨B, c, vi, vg, gr, L0, rfl, hst1, hL0, hb1⟩
  have HST := Lib.hid hst1
  have HL0 := Lib.hid hL0
  have HB1 := Lib.hid (HBX.out.trans (hb1.mono (by omega)))
  have hw1 : w.heap.size ≤ w1.heap.size := HB1.out.size
  clear hst1 hL0 hb1 HQ1
  have hmk := fun W => run_row (P := Try.prog) (t := 42) (e := 34) Try.underlying42 info_strs (by rfl) (by omega) bl.length (by omega) W
  go_wp2_with fail
  have HR0 := Lib.hid (RowsQ.made (LvB bl) w1 w.heap.size bl.length hw1)
  have HB0 := Lib.hid (show Below w1.heap.size w1 (w1.alloc (.cells (List.replicate bl.length (.slice none 0 0)).toArray 34)) from (Below.refl _ _).alloc (Nat.le_refl _) _)
  clear hmk
  go_loopw [13] (fun iv wr => ∃ k : Nat, k ≤ bl.length ∧ iv = .int .i64 k ∧ Hid (RowsQ (LvB bl) wr w.heap.size w1.heap.size bl.length k) ∧ Hid (Below w1.heap.size w1 wr)) (fun iv _ => bl.length - (intOf iv).toNat)
  case atStart => exact ⟨0, Nat.zero_le _, rfl, HR0, HB0⟩
  case round =>
  clear HR0 HB0
  obtain ⟨k, hk, rfl, HR, HBr⟩ := hrel
  by_cases hlt : k < bl.length
  · have hst := HST.out.below HBr.out
    have n5 := (hst.cell hlt (show 5 < 7 by omega)).trans (congrArg some (show FF bl.length c vi vg k 5 = .map (some (c (4 * k + 3))) from by simp [FF, hlt]))
    have hs5 := hst.ms.set (4 * k + 3) ⟨by omega, fun _ => by omega⟩
    rw [mix_at] at hs5
    have HQ2 := Lib.hid (rising_any hU hs5)
    have hszr : w.heap.size ≤ wr.heap.size := by have := HBr.out.size; omega
    clear hst hs5
    go_wp2_with fail
    refine HQ2.out.mono ?_
    rintro e w5 ⟨v5, r5, rfl, hr5, hm5, ho5, -, hb5⟩
    obtain ⟨A5, k5, rfl⟩ := row_form ho5
    have HR5 := Lib.hid (HR.out.below hb5)
    have HB5 := Lib.hid (show Below w1.heap.size w1 w5 from HBr.out.trans (hb5.mono HBr.out.size))
    have t5 := HR5.out.thaw k
    obtain ⟨u5, c5⟩ := HR5.out.there hlt
    have HO5 := Lib.hid (ownsRow_base_a ho5 hszr)
    have HM5 := Lib.hid (show ∀ x, x ∈ r5 ↔ LvB bl k x from fun x => (hm5 x).trans (HL0.out k x hlt))
    have HRR5 := Lib.hid hr5
    clear hr5 hm5 ho5 hb5 n5 HQ2
    go_wp2_with fail
    go_roundw
    case rel => exact ⟨k + 1, by omega, by go_num, Lib.hid (HR5.out.store hlt HRR5.out HM5.out HO5.out), Lib.hid (HB5.out.grown (grown_cell w5 ⟨w1.heap.size, k, none⟩ _) HB5.out.size (fun j hj => by cases hj; exact Nat.le_refl _))⟩
    case measure => simp [intOf]; omega
  · obtain rfl : k = bl.length := by omega
    go_wp2_with fail
    go_ret
    exact ⟨_, rfl, HR.out, HB1.out.trans (HBr.out.mono hw1)⟩
end Go.Proofs.Ytkiolfmefcckeaa.Lv12
