/-
  Layer 12: the document's list of what an instruction uses.
-/
import Derived.Test.YtkiolfmefcckeaaLvRef
namespace Go.Proofs.Ytkiolfmefcckeaa.Lv12
open Go.RowKit Api Mem Sh8 Go.Maps

def addV (r : List Wd) (a : Arg) : List Wd := if a.kind = 1 then putV r a.s else r
/-- r is the names of N, rising. -/
structure RS (r N : List Wd) : Prop where
  up : Rise r
  mem : ∀ x, x ∈ r ↔ x ∈ N
theorem RS.nil : RS [] [] := ⟨⟨List.nodup_nil, List.Pairwise.nil⟩, fun x => Iff.rfl⟩
theorem RS.add {r N : List Wd} (h : RS r N) (a : Arg) : RS (addV r a) (N ++ namesA [a]) := by
  unfold addV
  by_cases e : a.kind = 1
  · rw [if_pos e]
    refine ⟨putV_rise h.up _, fun x => ?_⟩
    rw [putV_mem, h.mem x, List.mem_append]
    simp [namesA, e]
  · rw [if_neg e]
    refine ⟨h.up, fun x => ?_⟩
    rw [h.mem x, List.mem_append]
    simp [namesA, e]
theorem RS.len {r N : List Wd} (h : RS r N) : r.length ≤ N.length := sub_len h.up.nd fun x hx => (h.mem x).1 hx
set_option maxRecDepth 100000 in
set_option maxHeartbeats 4000000 in
theorem add12_any {w : World} {base : Nat} (A : Option Addr) (c : Nat) (r : List Wd) (h : w.ownsRow base 9 1 (.slice A r.length c) r.length (r.map str)) (hb : base ≤ w.heap.size) (hl : r.length ≤ 1000000000000) (a : Arg) :
    Calls Try.prog 26 #[.slice A r.length c, .agg #[i64 a.kind, str a.s, i64 a.n]] w fun e w' => ∃ A' c', e = .returned (.slice A' (addV r a).length c') ∧ w'.ownsRow base 9 1 (.slice A' (addV r a).length c') (addV r a).length ((addV r a).map str) ∧ Below w.heap.size w w' := by
  have HR := Lib.hid h
  by_cases hk : a.kind = 1
  · have e0 : (a.kind == 1) = true := by simpa using hk
    have HV := Lib.hid (show addV r a = putV r a.s from if_pos hk)
    have HT := Lib.hid (texts_own (h.alloc (.cells #[i64 a.kind, str a.s, i64 a.n] 47)) rfl (by omega))
    clear hk h
    go_enter Try.func26, Try.ntmps26
    go_wp2_with fail
    refine (put12_any _ _ _ _ r a.s HT.out (Nat.le_refl _) hl).mono ?_
    rintro e w5 ⟨v5, rfl, h5, b5⟩
    obtain ⟨A5, c5, rfl⟩ := row_form h5
    have H5 := Lib.hid h5
    have B5 := Lib.hid b5
    clear h5 b5
    go_wp2_with fail
    go_ret
    refine ⟨A5, c5, ?_, ?_, ((Below.refl _ w).alloc (Nat.le_refl _) _).trans (B5.out.mono (by simp))⟩
    · rw [HV.out]; rfl
    · rw [HV.out]
      exact ownsRow_base_a H5.out (by simp; omega)
  · have e0 : (a.kind == 1) = false := by simpa using hk
    have HV := Lib.hid (show addV r a = r from if_neg hk)
    clear hk h
    go_enter Try.func26, Try.ntmps26
    go_wp2_with fail
    go_ret
    refine ⟨A, c, ?_, ?_, (Below.refl _ w).alloc (Nat.le_refl _) _⟩
    · rw [HV.out]; rfl
    · rw [HV.out]
      exact HR.out.alloc _
theorem take_mem {α : Type} {l : List α} {k : Nat} {x : α} (h : x ∈ l.take k) : x ∈ l := List.mem_of_mem_take h
theorem namesA_le (l : List Arg) (k : Nat) : (namesA (l.take k)).length ≤ (namesA l).length := by
  have : namesA l = namesA (l.take k) ++ namesA (l.drop k) := by rw [← namesA_app, List.take_append_drop]
  rw [this, List.length_append]
  omega
theorem namesB_le (l : List Bind) (k : Nat) : (namesB (l.take k)).length ≤ (namesB l).length := by
  unfold namesB
  rw [List.map_take]
  exact namesA_le _ _
theorem namesF_le (l : List Api.Frame) (k : Nat) : (namesF (l.take k)).length ≤ (namesF l).length := by
  have : namesF l = namesF (l.take k) ++ namesF (l.drop k) := by unfold namesF; rw [← List.flatMap_append, List.take_append_drop]
  rw [this, List.length_append]
  omega
theorem namesO_le (l : List Virt) (k : Nat) : (namesO (l.take k)).length ≤ (namesO l).length := by
  have : namesO l = namesO (l.take k) ++ namesO (l.drop k) := by unfold namesO; rw [← List.flatMap_append, List.take_append_drop]
  rw [this, List.length_append]
  omega
theorem names_le1 (x : Instr) (k : Nat) : (namesA (x.args.take k)).length ≤ (usesI x).length := by
  have := namesA_le x.args k
  unfold usesI
  simp only [List.length_append]
  omega
theorem names_le2 (x : Instr) {k : Nat} {y : Api.Frame} (hy : x.frames[k]? = some y) (j : Nat) : (namesA x.args ++ namesF (x.frames.take k) ++ namesB (y.vars.take j)).length ≤ (usesI x).length := by
  have h1 := namesB_le y.vars j
  have h2 := namesF_le x.frames (k + 1)
  rw [namesF_next hy] at h2
  unfold usesI
  simp only [List.length_append] at *
  omega
theorem names_le3 (x : Instr) {k : Nat} {y : Virt} (hy : x.objs[k]? = some y) (j : Nat) : (namesA x.args ++ namesF x.frames ++ namesO (x.objs.take k) ++ namesA (y.vals.take j)).length ≤ (usesI x).length := by
  have h1 := namesA_le y.vals j
  have h2 := namesO_le x.objs (k + 1)
  rw [namesO_next hy] at h2
  unfold usesI
  simp only [List.length_append] at *
  omega
set_option maxRecDepth 100000 in
set_option maxHeartbeats 8000000 in
theorem uses12_any (lo hi : Nat) {w : World} (cs : List Value) (x : Instr) (hc : InstrC lo hi w cs x) (hh : hi ≤ w.heap.size) (hu : (usesI x).length ≤ 1000000000000) :
    Calls Try.prog 11 #[.agg cs.toArray] w fun e w' => ∃ A c r, e = .returned (.slice A r.length c) ∧ RS r (usesI x) ∧ w'.ownsRow w.heap.size 9 1 (.slice A r.length c) r.length (r.map str) ∧ Below w.heap.size w w' := by
  obtain ⟨v1, v2, v3, rfl, h1, h2, h3⟩ := hc
  obtain ⟨A1, k1, rfl⟩ := Row.form h1
  obtain ⟨A2, k2, rfl⟩ := Row.form h2
  obtain ⟨A3, k3, rfl⟩ := Row.form h3
  have hl1 : x.args.length ≤ 4611686018427387903 := by obtain ⟨_, _, _, h, _⟩ := Row.get h1; exact h
  have hl2 : x.frames.length ≤ 4611686018427387903 := by obtain ⟨_, _, _, h, _⟩ := Row.get h2; exact h
  have hl3 : x.objs.length ≤ 4611686018427387903 := by obtain ⟨_, _, _, h, _⟩ := Row.get h3; exact h
  obtain ⟨W, hW⟩ : ∃ W, w.alloc (.cells #[i64 x.op, str x.dst, str x.name, .slice A1 x.args.length k1, .slice A2 x.frames.length k2, .slice A3 x.objs.length k3] 26) = W := ⟨_, rfl⟩
  have HW := Lib.hid hW
  have HBX := Lib.hid (show Below w.heap.size w W by rw [← hW]; exact (Below.refl _ _).alloc (Nat.le_refl _) _)
  have HZ := Lib.hid (show W.heap.size = w.heap.size + 1 by rw [← hW]; simp)
  have HO := Lib.hid (show Mem.Own W w.heap.size 26 [i64 x.op, str x.dst, str x.name, .slice A1 x.args.length k1, .slice A2 x.frames.length k2, .slice A3 x.objs.length k3] by rw [← hW]; exact Mem.Own.made w _ _)
  have H1 := Lib.hid h1
  have H2 := Lib.hid h2
  have H3 := Lib.hid h3
  have HU := Lib.hid hu
  have HN0 := Lib.hid (show W.ownsRow W.heap.size 9 1 (.slice none 0 0) 0 [] from ⟨by simp, .inl ⟨rfl, rfl⟩⟩)
  clear h1 h2 h3 hu hW
  go_enter Try.func11, Try.ntmps11
  go_wp2_with fail
  rw [HW.out]
  have hlt0 : w.heap.size < W.heap.size := by have := HZ.out; omega
  have hhW : hi ≤ W.heap.size := by omega
  go_loopw [3, 4] (fun ov iv wr => ∃ k : Nat, k ≤ x.args.length ∧ iv = .int .i64 k ∧ ∃ r A c, ov = .slice A r.length c ∧ Hid (RS r (namesA (x.args.take k))) ∧ Hid (wr.ownsRow W.heap.size 9 1 (.slice A r.length c) r.length (r.map str)) ∧ Hid (Below W.heap.size W wr)) (fun _ iv _ => x.args.length - (intOf iv).toNat)
  case atStart => exact ⟨0, Nat.zero_le _, rfl, [], none, 0, rfl, Lib.hid RS.nil, HN0, Lib.hid (Below.refl _ _)⟩
  case round =>
  clear HN0
  obtain ⟨k, hk, rfl, r, A, c, rfl, HR, HOW, HB⟩ := hrel
  have q3 := (HO.out.below HB.out hlt0).cell 3
  have q4 := (HO.out.below HB.out hlt0).cell 4
  have q5 := (HO.out.below HB.out hlt0).cell 5
  simp only [List.getElem?_cons_zero, List.getElem?_cons_succ] at q3 q4 q5
  by_cases hlt : k < x.args.length
  · obtain ⟨y, hy⟩ : ∃ y, x.args[k]? = some y := ⟨_, List.getElem?_eq_getElem hlt⟩
    obtain ⟨b1, o1, rfl, hb1, cs1, hcl1, hcs1, rfl⟩ := row_at H1.out hy
    obtain ⟨m0, m1, m2⟩ := at3 (cells_later hcs1 ((HBX.out.trans (HB.out.mono (by omega))).mono hh) hb1)
    have hrl : r.length ≤ 1000000000000 := by
      have h1 := HR.out.len
      have h2 := HU.out
      have h3 : (namesA (x.args.take k)).length ≤ (usesI x).length := names_le1 x k
      omega
    have HQ := Lib.hid (add12_any A c r HOW.out HB.out.size hrl y)
    have HN := Lib.hid (namesA_next hy)
    clear hy hcs1
    go_wp2_with fail
    refine HQ.out.mono ?_
    rintro e w5 ⟨A6, c6, rfl, h6, b6⟩
    have H6 := Lib.hid h6
    have HB6 := Lib.hid (HB.out.trans (b6.mono HB.out.size))
    clear h6 b6
    go_wp2_with fail
    go_roundw
    case rel => exact ⟨k + 1, by omega, by go_num, addV r y, A6, c6, rfl, Lib.hid (by rw [HN.out]; exact HR.out.add y), H6, HB6⟩
    case measure => simp [intOf]; omega
  · obtain rfl : k = x.args.length := by omega
    rw [List.take_length] at HR
    have HR1 := Lib.hid (show RS r (namesA x.args ++ namesF (x.frames.take 0)) from by rw [show namesF (x.frames.take 0) = [] from rfl, List.append_nil]; exact HR.out)
    go_wp2_with fail
    go_loopw [3, 5] (fun ov iv wr => ∃ k : Nat, k ≤ x.frames.length ∧ iv = .int .i64 k ∧ ∃ r A c, ov = .slice A r.length c ∧ Hid (RS r (namesA x.args ++ namesF (x.frames.take k))) ∧ Hid (wr.ownsRow W.heap.size 9 1 (.slice A r.length c) r.length (r.map str)) ∧ Hid (Below W.heap.size W wr)) (fun _ iv _ => x.frames.length - (intOf iv).toNat)
    case atStart => exact ⟨0, Nat.zero_le _, rfl, r, A, c, rfl, HR1, HOW, HB⟩
    case round =>
    clear HR HR1 HOW HB q3 q4 q5
    obtain ⟨k, hk, rfl, r, A, c, rfl, HR, HOW, HB⟩ := hrel
    have q3 := (HO.out.below HB.out hlt0).cell 3
    have q4 := (HO.out.below HB.out hlt0).cell 4
    have q5 := (HO.out.below HB.out hlt0).cell 5
    simp only [List.getElem?_cons_zero, List.getElem?_cons_succ] at q3 q4 q5
    by_cases hlt : k < x.frames.length
    · obtain ⟨y, hy⟩ : ∃ y, x.frames[k]? = some y := ⟨_, List.getElem?_eq_getElem hlt⟩
      obtain ⟨b, o, rfl, hb, cs, hcl, hcs, u, rfl, hbi⟩ := row_at H2.out hy
      obtain ⟨m0, m1, m2, m3⟩ := at4 (cells_later hcs ((HBX.out.trans (HB.out.mono (by omega))).mono hh) hb)
      obtain ⟨A4, k4, rfl⟩ := Row.form hbi
      have hl4 : y.vars.length ≤ 4611686018427387903 := by obtain ⟨_, _, _, h, _⟩ := Row.get hbi; exact h
      have HBI := Lib.hid hbi
      have HY := Lib.hid hy
      have HCS := Lib.hid hcs
      have HR1 := Lib.hid (show RS r (namesA x.args ++ namesF (x.frames.take k) ++ namesB (y.vars.take 0)) from by rw [show namesB (y.vars.take 0) = [] from rfl, List.append_nil]; exact HR.out)
      clear hy hcs hbi
      go_wp2_with fail
      go_loopw [3, 6] (fun ov iv wr => ∃ j : Nat, j ≤ y.vars.length ∧ iv = .int .i64 j ∧ ∃ r A c, ov = .slice A r.length c ∧ Hid (RS r (namesA x.args ++ namesF (x.frames.take k) ++ namesB (y.vars.take j))) ∧ Hid (wr.ownsRow W.heap.size 9 1 (.slice A r.length c) r.length (r.map str)) ∧ Hid (Below W.heap.size W wr)) (fun _ iv _ => y.vars.length - (intOf iv).toNat)
      case atStart => exact ⟨0, Nat.zero_le _, rfl, r, A, c, rfl, HR1, HOW, HB⟩
      case round =>
      clear HR HR1 HOW HB q3 q4 q5 m0 m1 m2 m3
      obtain ⟨j, hj, rfl, r, A, c, rfl, HR, HOW, HB⟩ := hrel
      have q3 := (HO.out.below HB.out hlt0).cell 3
      have q4 := (HO.out.below HB.out hlt0).cell 4
      have q5 := (HO.out.below HB.out hlt0).cell 5
      simp only [List.getElem?_cons_zero, List.getElem?_cons_succ] at q3 q4 q5
      obtain ⟨m0, m1, m2, m3⟩ := at4 (cells_later HCS.out ((HBX.out.trans (HB.out.mono (by omega))).mono hh) hb)
      by_cases hlj : j < y.vars.length
      · obtain ⟨z, hz⟩ : ∃ z, y.vars[j]? = some z := ⟨_, List.getElem?_eq_getElem hlj⟩
        obtain ⟨b4, o4, rfl, hb4, cs4, hcl4, hcs4, rfl⟩ := row_at HBI.out hz
        obtain ⟨p0, p1, p2, p3⟩ := at4 (cells_later hcs4 ((HBX.out.trans (HB.out.mono (by omega))).mono hh) hb4)
        have hrl : r.length ≤ 1000000000000 := by
          have h1 := HR.out.len
          have h2 := HU.out
          have h3 : (namesA x.args ++ namesF (x.frames.take k) ++ namesB (y.vars.take j)).length ≤ (usesI x).length := names_le2 x HY.out j
          omega
        have HQ := Lib.hid (add12_any A c r HOW.out HB.out.size hrl z.a)
        have HN := Lib.hid (namesB_next hz)
        clear hz hcs4
        go_wp2_with fail
        refine HQ.out.mono ?_
        rintro e w5 ⟨A6, c6, rfl, h6, b6⟩
        have H6 := Lib.hid h6
        have HB6 := Lib.hid (HB.out.trans (b6.mono HB.out.size))
        clear h6 b6
        go_wp2_with fail
        go_roundw
        case rel => exact ⟨j + 1, by omega, by go_num, addV r z.a, A6, c6, rfl, Lib.hid (by rw [HN.out, ← List.append_assoc]; exact HR.out.add z.a), H6, HB6⟩
        case measure => simp [intOf]; omega
      · obtain rfl : j = y.vars.length := by omega
        rw [List.take_length] at HR
        have HR2 := Lib.hid (show RS r (namesA x.args ++ namesF (x.frames.take (k + 1))) from by rw [namesF_next HY.out, ← List.append_assoc]; exact HR.out)
        go_wp2_with fail
        go_roundw
        case rel => exact ⟨k + 1, by omega, by go_num, r, A, c, rfl, HR2, HOW, HB⟩
        case measure => simp [intOf]; omega
    · obtain rfl : k = x.frames.length := by omega
      rw [List.take_length] at HR
      have HR1 := Lib.hid (show RS r (namesA x.args ++ namesF x.frames ++ namesO (x.objs.take 0)) from by rw [show namesO (x.objs.take 0) = [] from rfl, List.append_nil]; exact HR.out)
      go_wp2_with fail
      go_loopw [3, 7] (fun ov iv wr => ∃ k : Nat, k ≤ x.objs.length ∧ iv = .int .i64 k ∧ ∃ r A c, ov = .slice A r.length c ∧ Hid (RS r (namesA x.args ++ namesF x.frames ++ namesO (x.objs.take k))) ∧ Hid (wr.ownsRow W.heap.size 9 1 (.slice A r.length c) r.length (r.map str)) ∧ Hid (Below W.heap.size W wr)) (fun _ iv _ => x.objs.length - (intOf iv).toNat)
      case atStart => exact ⟨0, Nat.zero_le _, rfl, r, A, c, rfl, HR1, HOW, HB⟩
      case round =>
      clear HR HR1 HOW HB q3 q4 q5
      obtain ⟨k, hk, rfl, r, A, c, rfl, HR, HOW, HB⟩ := hrel
      have q3 := (HO.out.below HB.out hlt0).cell 3
      have q4 := (HO.out.below HB.out hlt0).cell 4
      have q5 := (HO.out.below HB.out hlt0).cell 5
      simp only [List.getElem?_cons_zero, List.getElem?_cons_succ] at q3 q4 q5
      by_cases hlt : k < x.objs.length
      · obtain ⟨y, hy⟩ : ∃ y, x.objs[k]? = some y := ⟨_, List.getElem?_eq_getElem hlt⟩
        obtain ⟨b, o, rfl, hb, cs, hcl, hcs, u, rfl, hbi⟩ := row_at H3.out hy
        obtain ⟨m0, m1⟩ := at2 (cells_later hcs ((HBX.out.trans (HB.out.mono (by omega))).mono hh) hb)
        obtain ⟨A4, k4, rfl⟩ := Row.form hbi
        have hl4 : y.vals.length ≤ 4611686018427387903 := by obtain ⟨_, _, _, h, _⟩ := Row.get hbi; exact h
        have HBI := Lib.hid hbi
        have HY := Lib.hid hy
        have HCS := Lib.hid hcs
        have HR1 := Lib.hid (show RS r (namesA x.args ++ namesF x.frames ++ namesO (x.objs.take k) ++ namesA (y.vals.take 0)) from by rw [show namesA (y.vals.take 0) = [] from rfl, List.append_nil]; exact HR.out)
        clear hy hcs hbi
        go_wp2_with fail
        go_loopw [3, 8] (fun ov iv wr => ∃ j : Nat, j ≤ y.vals.length ∧ iv = .int .i64 j ∧ ∃ r A c, ov = .slice A r.length c ∧ Hid (RS r (namesA x.args ++ namesF x.frames ++ namesO (x.objs.take k) ++ namesA (y.vals.take j))) ∧ Hid (wr.ownsRow W.heap.size 9 1 (.slice A r.length c) r.length (r.map str)) ∧ Hid (Below W.heap.size W wr)) (fun _ iv _ => y.vals.length - (intOf iv).toNat)
        case atStart => exact ⟨0, Nat.zero_le _, rfl, r, A, c, rfl, HR1, HOW, HB⟩
        case round =>
        clear HR HR1 HOW HB q3 q4 q5 m0 m1
        obtain ⟨j, hj, rfl, r, A, c, rfl, HR, HOW, HB⟩ := hrel
        have q3 := (HO.out.below HB.out hlt0).cell 3
        have q4 := (HO.out.below HB.out hlt0).cell 4
        have q5 := (HO.out.below HB.out hlt0).cell 5
        simp only [List.getElem?_cons_zero, List.getElem?_cons_succ] at q3 q4 q5
        obtain ⟨m0, m1⟩ := at2 (cells_later HCS.out ((HBX.out.trans (HB.out.mono (by omega))).mono hh) hb)
        by_cases hlj : j < y.vals.length
        · obtain ⟨z, hz⟩ : ∃ z, y.vals[j]? = some z := ⟨_, List.getElem?_eq_getElem hlj⟩
          obtain ⟨b4, o4, rfl, hb4, cs4, hcl4, hcs4, rfl⟩ := row_at HBI.out hz
          obtain ⟨p0, p1, p2⟩ := at3 (cells_later hcs4 ((HBX.out.trans (HB.out.mono (by omega))).mono hh) hb4)
          have hrl : r.length ≤ 1000000000000 := by
            have h1 := HR.out.len
            have h2 := HU.out
            have h3 : (namesA x.args ++ namesF x.frames ++ namesO (x.objs.take k) ++ namesA (y.vals.take j)).length ≤ (usesI x).length := names_le3 x HY.out j
            omega
          have HQ := Lib.hid (add12_any A c r HOW.out HB.out.size hrl z)
          have HN := Lib.hid (namesA_next hz)
          clear hz hcs4
          go_wp2_with fail
          refine HQ.out.mono ?_
          rintro e w5 ⟨A6, c6, rfl, h6, b6⟩
          have H6 := Lib.hid h6
          have HB6 := Lib.hid (HB.out.trans (b6.mono HB.out.size))
          clear h6 b6
          go_wp2_with fail
          go_roundw
          case rel => exact ⟨j + 1, by omega, by go_num, addV r z, A6, c6, rfl, Lib.hid (by rw [HN.out, ← List.append_assoc]; exact HR.out.add z), H6, HB6⟩
          case measure => simp [intOf]; omega
        · obtain rfl : j = y.vals.length := by omega
          rw [List.take_length] at HR
          have HR2 := Lib.hid (show RS r (namesA x.args ++ namesF x.frames ++ namesO (x.objs.take (k + 1))) from by rw [namesO_next HY.out, ← List.append_assoc]; exact HR.out)
          go_wp2_with fail
          go_roundw
          case rel => exact ⟨k + 1, by omega, by go_num, r, A, c, rfl, HR2, HOW, HB⟩
          case measure => simp [intOf]; omega
      · obtain rfl : k = x.objs.length := by omega
        rw [List.take_length] at HR
        have HRR := Lib.hid (show RS r (usesI x) from by
          have h := HR.out
          unfold usesI
          rw [← List.append_assoc]
          exact h)
        go_wp2_with fail
        go_ret
        exact ⟨A, c, r, rfl, HRR.out, ownsRow_base_a HOW.out (by omega), HBX.out.trans (HB.out.mono (by omega))⟩
end Go.Proofs.Ytkiolfmefcckeaa.Lv12
