/-
  Layer 12: blocks of which no more is known than which lead to which.
-/
import Derived.Test.YtaeklfljibjpiaaLvMem
import Derived.Test.YtaeklfljibjpiaaShPlaces
namespace Go.Proofs.Ytaeklfljibjpiaa.Lv12
open Go.RowKit Api Mem Sh8 Go.Maps

abbrev Edge := Nat × Nat
/-- what leads to what out of block i. -/
def edgesOf (bl : List Api.Block) (i : Nat) : List Edge := match bl[i]? with
  | some b => b.fin.dest.map fun x => (i, (plc (names bl) x).getD 0)
  | none => []
def edgesTo (bl : List Api.Block) (k : Nat) : List Edge := (List.range k).flatMap (edgesOf bl)
/-- rows of where each leads, and of what leads to each. -/
def LI (E : List Edge) (x : Nat) : List Int := if x % 2 = 0 then (E.filter fun e => decide (e.1 = x / 2)).map (fun e => (e.2 : Int)) else (E.filter fun e => decide (e.2 = x / 2)).map (fun e => (e.1 : Int))
theorem LI_snoc (E : List Edge) (a t : Nat) : LI (E ++ [(a, t)]) = upd (upd (LI E) (2 * a) (LI E (2 * a) ++ [(t : Int)])) (2 * t + 1) (LI E (2 * t + 1) ++ [(a : Int)]) := funext fun x => by
  unfold upd
  by_cases e1 : x = 2 * t + 1
  · subst e1
    rw [if_pos rfl]
    have hd : decide (t = (2 * t + 1) / 2) = true := decide_eq_true (by omega)
    unfold LI
    rw [if_neg (by omega), if_neg (by omega), List.filter_append, List.map_append]
    simp [hd]
  · rw [if_neg e1]
    by_cases e2 : x = 2 * a
    · subst e2
      rw [if_pos rfl]
      unfold LI
      rw [if_pos (by omega), if_pos (by omega), List.filter_append, List.map_append]
      simp
    · rw [if_neg e2]
      unfold LI
      by_cases e3 : x % 2 = 0
      · rw [if_pos e3, if_pos e3, List.filter_append]
        have : decide (a = x / 2) = false := decide_eq_false (by omega)
        simp [this]
      · rw [if_neg e3, if_neg e3, List.filter_append]
        have : decide (t = x / 2) = false := decide_eq_false (by omega)
        simp [this]
theorem LI_len (E : List Edge) (x : Nat) : (LI E x).length ≤ E.length := by
  unfold LI
  split
  · rw [List.length_map]; exact List.length_filter_le _ _
  · rw [List.length_map]; exact List.length_filter_le _ _
theorem edgesTo_next (bl : List Api.Block) (k : Nat) : edgesTo bl (k + 1) = edgesTo bl k ++ edgesOf bl k := by
  unfold edgesTo
  rw [List.range_succ, List.flatMap_append]
  simp
theorem edges_le (bl : List Api.Block) {a b : Nat} (h : a ≤ b) : (edgesTo bl a).length ≤ (edgesTo bl b).length := by
  induction b with
  | zero => obtain rfl : a = 0 := by omega
            exact Nat.le_refl _
  | succ b ih =>
    by_cases e : a = b + 1
    · subst e; exact Nat.le_refl _
    · rw [edgesTo_next, List.length_append]
      have := ih (by omega)
      omega
theorem own_belowM {P : Program} {k : TypeId} {R : Value → Option (DataW Unit × List MemPlace)} {w w' : World} {g n B : Nat} {D : DataW Unit} (h : w.ownsMap P k R g n D) (hb : Below B w w') (hg : g < B) : w'.ownsMap P k R g n D := by
  obtain ⟨es, clock, h1, r⟩ := h
  exact ⟨es, clock, (hb.block g hg).trans h1, r⟩
theorem info_int12 : (Try.prog.info? 3).map (fun i => (i.zero, i.size, i.bytes)) = some (some (.int .i64 0), 1, 8) := by kernel_rfl
theorem info_blk : (Try.prog.info? 95).map (fun i => (i.zero, i.size, i.bytes)) = some (some (.agg #[.slice none 0 0, .slice none 0 0, .map none, .map none, .map none, .map none, .slice none 0 0]), 7, 104) := by kernel_rfl
/-- seven cells laid one by one. -/
def laid7 (w : World) (B k : Nat) (u0 u1 u2 u3 u4 u5 u6 : Value) : World := ((((((w.setCell ⟨B, k * 7, none⟩ u0).setCell ⟨B, k * 7 + 1, none⟩ u1).setCell ⟨B, k * 7 + 2, none⟩ u2).setCell ⟨B, k * 7 + 3, none⟩ u3).setCell ⟨B, k * 7 + 4, none⟩ u4).setCell ⟨B, k * 7 + 5, none⟩ u5).setCell ⟨B, k * 7 + 6, none⟩ u6
theorem laid7_grown (w : World) (B k : Nat) (u0 u1 u2 u3 u4 u5 u6 : Value) : w.grownBy (laid7 w B k u0 u1 u2 u3 u4 u5 u6) (some B) :=
  grown_trans (grown_trans (grown_trans (grown_trans (grown_trans (grown_trans (grown_cell w _ _) (grown_cell _ ⟨B, k * 7 + 1, none⟩ _)) (grown_cell _ ⟨B, k * 7 + 2, none⟩ _)) (grown_cell _ ⟨B, k * 7 + 3, none⟩ _)) (grown_cell _ ⟨B, k * 7 + 4, none⟩ _)) (grown_cell _ ⟨B, k * 7 + 5, none⟩ _)) (grown_cell _ ⟨B, k * 7 + 6, none⟩ _)
theorem laid7_out {w : World} {B n k : Nat} {F : Nat → Nat → Value} (h : OutC w B n F) (u0 u1 u2 u3 u4 u5 u6 : Value) {F' : Nat → Nat → Value} (he : ∀ i j, i < n → j < 7 → i ≠ k → F i j = F' i j) (e0 : u0 = F' k 0) (e1 : u1 = F' k 1) (e2 : u2 = F' k 2) (e3 : u3 = F' k 3) (e4 : u4 = F' k 4) (e5 : u5 = F' k 5) (e6 : u6 = F' k 6) : OutC (laid7 w B k u0 u1 u2 u3 u4 u5 u6) B n F' := by
  have h0 := h.store (i := k) (j := 0) (by omega) u0
  have h1 := h0.store (i := k) (j := 1) (by omega) u1
  have h2 := h1.store (i := k) (j := 2) (by omega) u2
  have h3 := h2.store (i := k) (j := 3) (by omega) u3
  have h4 := h3.store (i := k) (j := 4) (by omega) u4
  have h5 := h4.store (i := k) (j := 5) (by omega) u5
  have h6 := h5.store (i := k) (j := 6) (by omega) u6
  refine h6.same fun i j hi hj => ?_
  unfold upd2
  by_cases e : i = k
  · subst e
    simp only [true_and]
    rcases (by omega : j = 0 ∨ j = 1 ∨ j = 2 ∨ j = 3 ∨ j = 4 ∨ j = 5 ∨ j = 6) with r | r | r | r | r | r | r <;> subst r <;> simp [*]
  · simp only [e, false_and, if_false]
    exact he i j hi hj e
/-- one more block, with three new maps. -/
theorem laid_next {U : List Wd} {w wr : World} {B n k : Nat} {c : Nat → Nat} (hk : k < n) (hB : w.heap.size ≤ B)
    (hO : OutC wr B n (fun i j => if i < k then FF 0 c (fun _ => .slice none 0 0) (fun _ => .slice none 0 0) i j else ([Value.slice none 0 0, .slice none 0 0, .map none, .map none, .map none, .map none, .slice none 0 0] : List Value).getD j default)) (hM : MS U wr k 0 c (fun _ _ => false)) (hc : ∀ x, OkM k 0 x → w.heap.size ≤ c x) (hb : Below w.heap.size w wr) :
    ∃ c' : Nat → Nat, OutC ((((laid7 wr B k (.slice none 0 0) (.slice none 0 0) (.map (some wr.heap.size)) (.map (some (wr.heap.size + 1))) (.map (some (wr.heap.size + 1 + 1))) (.map none) (.slice none 0 0)).alloc (.map #[] 0)).alloc (.map #[] 0)).alloc (.map #[] 0)) B n (fun i j => if i < k + 1 then FF 0 c' (fun _ => .slice none 0 0) (fun _ => .slice none 0 0) i j else ([Value.slice none 0 0, .slice none 0 0, .map none, .map none, .map none, .map none, .slice none 0 0] : List Value).getD j default) ∧
      MS U ((((laid7 wr B k (.slice none 0 0) (.slice none 0 0) (.map (some wr.heap.size)) (.map (some (wr.heap.size + 1))) (.map (some (wr.heap.size + 1 + 1))) (.map none) (.slice none 0 0)).alloc (.map #[] 0)).alloc (.map #[] 0)).alloc (.map #[] 0)) (k + 1) 0 c' (fun _ _ => false) ∧ (∀ x, OkM (k + 1) 0 x → w.heap.size ≤ c' x) ∧
      Below w.heap.size w ((((laid7 wr B k (.slice none 0 0) (.slice none 0 0) (.map (some wr.heap.size)) (.map (some (wr.heap.size + 1))) (.map (some (wr.heap.size + 1 + 1))) (.map none) (.slice none 0 0)).alloc (.map #[] 0)).alloc (.map #[] 0)).alloc (.map #[] 0)) := by
  have hBl := hO.lt
  have g7 := laid7_grown wr B k (.slice none 0 0) (.slice none 0 0) (.map (some wr.heap.size)) (.map (some (wr.heap.size + 1))) (.map (some (wr.heap.size + 1 + 1))) (.map none) (.slice none 0 0)
  have o7 := laid7_out hO (k := k) (.slice none 0 0) (.slice none 0 0) (.map (some wr.heap.size)) (.map (some (wr.heap.size + 1))) (.map (some (wr.heap.size + 1 + 1))) (.map none) (.slice none 0 0) (F' := fun i j => if i < k + 1 then FF 0 (upd (upd (upd c (4 * k) wr.heap.size) (4 * k + 1) (wr.heap.size + 1)) (4 * k + 2) (wr.heap.size + 1 + 1)) (fun _ => .slice none 0 0) (fun _ => .slice none 0 0) i j else ([Value.slice none 0 0, .slice none 0 0, .map none, .map none, .map none, .map none, .slice none 0 0] : List Value).getD j default)
    (fun i j _ _ hne => by
      by_cases e : i < k
      · rw [if_pos e, if_pos (by omega)]
        unfold FF
        have q : ∀ z, z < 4 * k → upd (upd (upd c (4 * k) wr.heap.size) (4 * k + 1) (wr.heap.size + 1)) (4 * k + 2) (wr.heap.size + 1 + 1) z = c z := fun z hz => by rw [upd_ne _ _ (by omega), upd_ne _ _ (by omega), upd_ne _ _ (by omega)]
        rw [q _ (by omega), q _ (by omega), q _ (by omega), q _ (by omega)]
      · rw [if_neg e, if_neg (by omega)])
    (by rw [if_pos (by omega)]; rfl) (by rw [if_pos (by omega)]; rfl)
    (by rw [if_pos (by omega)]; simp only [FF]; rw [upd_ne _ _ (by omega : 4 * k ≠ 4 * k + 2), upd_ne _ _ (by omega : 4 * k ≠ 4 * k + 1), upd_at]; rfl)
    (by rw [if_pos (by omega)]; simp only [FF]; rw [upd_ne _ _ (by omega : 4 * k + 1 ≠ 4 * k + 2), upd_at]; rfl)
    (by rw [if_pos (by omega)]; simp only [FF]; rw [upd_at]; rfl)
    (by rw [if_pos (by omega)]; simp [FF]) (by rw [if_pos (by omega)]; rfl)
  have hs7 : (laid7 wr B k (.slice none 0 0) (.slice none 0 0) (.map (some wr.heap.size)) (.map (some (wr.heap.size + 1))) (.map (some (wr.heap.size + 1 + 1))) (.map none) (.slice none 0 0)).heap.size = wr.heap.size := by simp [laid7]
  generalize laid7 wr B k (.slice none 0 0) (.slice none 0 0) (.map (some wr.heap.size)) (.map (some (wr.heap.size + 1))) (.map (some (wr.heap.size + 1 + 1))) (.map none) (.slice none 0 0) = w2 at *
  have m7 := hM.row g7 fun b e => by cases e; exact hO.isRow
  have ba : Below w2.heap.size w2 (((w2.alloc (.map #[] 0)).alloc (.map #[] 0)).alloc (.map #[] 0)) := (((Below.refl _ _).alloc (Nat.le_refl _) _).alloc (by simp) _).alloc (by simp; omega) _
  have s1 := ((SetO.made U w2).alloc (.map #[] 0)).alloc (.map #[] 0)
  have s2 := (SetO.made U (w2.alloc (.map #[] 0))).alloc (.map #[] 0)
  have s3 := SetO.made U ((w2.alloc (.map #[] 0)).alloc (.map #[] 0))
  have e2 : (w2.alloc (.map #[] 0)).heap.size = wr.heap.size + 1 := by simp [hs7]
  have e3 : ((w2.alloc (.map #[] 0)).alloc (.map #[] 0)).heap.size = wr.heap.size + 1 + 1 := by simp [hs7]
  rw [hs7] at s1
  rw [e2] at s2
  rw [e3] at s3
  have hM2 := (m7.three ba (a := wr.heap.size) (b := wr.heap.size + 1) (d := wr.heap.size + 1 + 1) (by omega) (by omega) (by omega) (by omega) (by omega) (by omega) s1 s2 s3)
  refine ⟨_, o7.below ba, hM2.same (fun _ _ => rfl) (fun x _ => ?_), fun x hx => ?_, (hb.grown g7 hb.size (fun j e => by cases e; exact hB)).trans (ba.mono (by rw [hs7]; exact hb.size))⟩
  · funext y
    unfold upd
    repeat (split; rfl)
    rfl
  · have hbs := hb.size
    unfold upd
    split
    · omega
    · split
      · omega
      · split
        · omega
        · exact hc x ⟨by have := hx.1; have := fun h3 => hx.2 h3; omega, hx.2⟩
/-- what linked answers. -/
def LinkP (U : List Wd) (bl : List Api.Block) (w : World) (e : Ending) (w' : World) : Prop := ∃ B c vi, e = .returned (.slice (some ⟨B, 0, none⟩) bl.length bl.length) ∧ St U w' w.heap.size B bl.length 0 c (fun _ _ => false) vi (LI (edgesTo bl bl.length)) (fun _ => .slice none 0 0) (fun _ => []) ∧ Below w.heap.size w w'
set_option maxRecDepth 100000 in
set_option maxHeartbeats 8000000 in
theorem linked_any (U : List Wd) (lo hi : Nat) (w : World) (cs : List Value) (f : Api.Func) (hf : FuncC lo hi w cs f) (hh : hi ≤ w.heap.size) (hG : ∀ b ∈ f.blocks, ∀ x ∈ b.fin.dest, x.length ≤ 140737488351232) (gm nm9 : Nat) (hgm : w.ownsMap Try.prog 9 (plainElem Try.prog 3) gm nm9 (tab 0 (names f.blocks))) (hn0 : 0 < f.blocks.length) (hn : f.blocks.length ≤ 1000000) (htot : (edgesTo f.blocks f.blocks.length).length ≤ 1000000000000)
    (hR : ∀ b ∈ f.blocks, ∀ x ∈ b.fin.dest, x ∈ names f.blocks) :
    Calls Try.prog 44 #[.agg cs.toArray, .map (some gm)] w (LinkP U f.blocks w) := by
  obtain ⟨u1, u2, u3, rfl, kp, kv, kb⟩ := hf
  obtain ⟨nm, rs, ps, vs, bl⟩ := f
  simp only at kp kv kb hG hgm hn0 hn htot hR ⊢
  obtain ⟨A1, k1, rfl⟩ := kp.form
  obtain ⟨A2, k2, rfl⟩ := kv.form
  obtain ⟨A3, k3, rfl⟩ := kb.form
  obtain ⟨W, hW⟩ : ∃ W, w.alloc (.cells #[str nm, str rs, .slice A1 ps.length k1, .slice A2 vs.length k2, .slice A3 bl.length k3] 25) = W := ⟨_, rfl⟩
  obtain ⟨o1, b1, z1⟩ := box8 (c := [str nm, str rs, .slice A1 ps.length k1, .slice A2 vs.length k2, .slice A3 bl.length k3]) hW
  have KB := Lib.hid kb
  have HO := Lib.hid o1
  have HB := Lib.hid b1
  have HW := Lib.hid hW
  have GB := Lib.hid hG
  have HR := Lib.hid hR
  have HM := Lib.hid hgm
  have hgl := hgm.lt
  have zlt := o1.lt
  have HZ1 := Lib.hid z1
  obtain ⟨ib, hib, hz0, hz1, hz2⟩ := info_parts info_blk
  obtain ⟨M, hM⟩ : ∃ M, M = madeCells (Value.agg #[.slice none 0 0, .slice none 0 0, .map none, .map none, .map none, .map none, .slice none 0 0]).cells (((bl.length : Nat) : Int).toNat * ib.size) := ⟨_, rfl⟩
  have hmk : ∀ W : World, (Instr.makeSlice 71 (.int .i64 (bl.length : Int)) (.int .i64 (bl.length : Int))).run Try.prog W = .ok (.slice (some ⟨W.heap.size, 0, none⟩) bl.length bl.length) (W.alloc (.cells M 95)) := fun W => by
    have h := run_make (P := Try.prog) W 71 95 ib _ Try.underlying71 hib hz0 .i64 .i64 (bl.length : Int) (bl.length : Int) (by omega) (by omega) (by rw [hz2]; omega) (by omega)
    rw [← hM] at h
    simpa using h
  have HMM := Lib.hid (show M.size = bl.length * 7 ∧ ∀ i j, i < bl.length → j < 7 → M.toList[i * 7 + j]? = some (([Value.slice none 0 0, .slice none 0 0, .map none, .map none, .map none, .map none, .slice none 0 0] : List Value).getD j default) from by
    have hM2 : M = madeCells #[.slice none 0 0, .slice none 0 0, .map none, .map none, .map none, .map none, .slice none 0 0] (((bl.length : Nat) : Int).toNat * ib.size) := hM
    rw [hM2, hz1]
    refine ⟨by rw [size_madeCells]; simp, fun i j hi hj => ?_⟩
    have h7 : (i * 7 + j) % 7 = j := by omega
    have hl : i * 7 + j < bl.length * 7 := by omega
    rcases (by omega : j = 0 ∨ j = 1 ∨ j = 2 ∨ j = 3 ∨ j = 4 ∨ j = 5 ∨ j = 6) with r | r | r | r | r | r | r <;> subst r <;> (rw [Array.getElem?_toList]; simp [madeCells, hl, h7, hi, Array.getElem?_range, Nat.mul_mod_left]))
  clear o1 b1 hW kp kv kb hG hR hgm hM z1
  go_enter Try.func44, Try.ntmps44
  go_wp2_with fail
  rw [HW.out]
  have f4 := HO.out.cell 4
  simp only [List.getElem?_cons_succ, List.getElem?_cons_zero] at f4
  go_wp2_with fail
  have hbW : Below W.heap.size W (W.alloc (.cells M 95)) := (Below.refl _ _).alloc (Nat.le_refl _) _
  have HL0 := Lib.hid (show ∃ c : Nat → Nat, OutC (W.alloc (.cells M 95)) (w.heap.size + 1) bl.length (fun i j => if i < 0 then FF 0 c (fun _ => .slice none 0 0) (fun _ => .slice none 0 0) i j else ([Value.slice none 0 0, .slice none 0 0, .map none, .map none, .map none, .map none, .slice none 0 0] : List Value).getD j default) ∧ MS U (W.alloc (.cells M 95)) 0 0 c (fun _ _ => false) ∧ (∀ x, OkM 0 0 x → W.heap.size ≤ c x) ∧ Below W.heap.size W (W.alloc (.cells M 95)) from
    ⟨fun _ => 0, by rw [← HZ1.out]; exact ⟨M.toList, by have := Mem.Own.made W 95 M.toList; simpa using this, by rw [Array.length_toList]; exact HMM.out.1, fun i j hi hj => by show _ = some (if i < 0 then _ else _); rw [if_neg (by omega)]; exact HMM.out.2 i j hi hj⟩, ⟨fun x hx => (by have := hx.1; omega), fun x y hx => (by have := hx.1; omega)⟩, fun x hx => (by have := hx.1; omega), hbW⟩)
  have hWB : w.heap.size + 1 < (W.alloc (.cells M 95)).heap.size := by have := HZ1.out; simp; omega
  clear hbW f4
  have hmm := @run_makeMap Try.prog
  go_loopw [18] (fun iv wr => ∃ k : Nat, k ≤ bl.length ∧ iv = .int .i64 k ∧ Hid (∃ c : Nat → Nat, OutC wr (w.heap.size + 1) bl.length (fun i j => if i < k then FF 0 c (fun _ => .slice none 0 0) (fun _ => .slice none 0 0) i j else ([Value.slice none 0 0, .slice none 0 0, .map none, .map none, .map none, .map none, .slice none 0 0] : List Value).getD j default) ∧ MS U wr k 0 c (fun _ _ => false) ∧ (∀ x, OkM k 0 x → W.heap.size ≤ c x) ∧ Below W.heap.size W wr)) (fun iv _ => bl.length - (intOf iv).toNat)
  case atStart => exact ⟨0, Nat.zero_le _, rfl, HL0⟩
  case round =>
  clear HL0 hWB
  obtain ⟨k, hk, rfl, HL⟩ := hrel
  by_cases hlt : k < bl.length
  · obtain ⟨c, hO, hM9, hc9, hbw⟩ := HL.out
    have hz := fun j (hj : j < 7) => (hO.cell hlt hj).trans (congrArg some (if_neg (Nat.lt_irrefl k)))
    have y0 := hz 0 (by omega)
    have y1 := hz 1 (by omega)
    have y2 := hz 2 (by omega)
    have y3 := hz 3 (by omega)
    have y4 := hz 4 (by omega)
    have y5 := hz 5 (by omega)
    have y6 := hz 6 (by omega)
    have z0 := hO.thaw (k * 7)
    have z1' := hO.thaw (k * 7 + 1)
    have z2 := hO.thaw (k * 7 + 2)
    have z3 := hO.thaw (k * 7 + 3)
    have z4 := hO.thaw (k * 7 + 4)
    have z5 := hO.thaw (k * 7 + 5)
    have z6 := hO.thaw (k * 7 + 6)
    simp only [List.getD_cons_zero, List.getD_cons_succ, Nat.add_zero] at y0 y1 y2 y3 y4 y5 y6
    have hBl := hO.lt
    have hBl1 : w.heap.size + 1 < wr.heap.size + 1 := by omega
    have hBl2 : w.heap.size + 1 < wr.heap.size + 1 + 1 := by omega
    have HHO := Lib.hid hO
    have HMS := Lib.hid hM9
    have HCC := Lib.hid hc9
    have HBW := Lib.hid hbw
    clear hz hO hM9 hc9 hbw
    go_wp2_with fail
    go_roundw
    case rel =>
      obtain ⟨c', q1, q2, q3, q4⟩ := laid_next hlt (by have := HZ1.out; omega) HHO.out HMS.out HCC.out HBW.out
      exact ⟨k + 1, by omega, by go_num, Lib.hid ⟨c', q1, q2, q3, q4⟩⟩
    case measure => simp [intOf]; omega
  · obtain rfl : k = bl.length := by omega
    obtain ⟨c, hO, hM9, hc9, hbw⟩ := HL.out
    have hst : St U wr W.heap.size (w.heap.size + 1) bl.length 0 c (fun _ _ => false) (fun _ => .slice none 0 0) (LI []) (fun _ => .slice none 0 0) (fun _ => []) :=
      ⟨by have := HZ1.out; omega, hO.same fun i j hi _ => if_pos hi, hM9, hc9, (Fam.nil _ _ _ _ _).same (fun _ _ => rfl) (fun x _ => by unfold LI; split <;> rfl), Fam.nil _ _ _ _ _⟩
    obtain ⟨ii, hii, hi0, hi1, hi2⟩ := info_parts info_int12
    have HII := Lib.hid (show _ ∧ _ ∧ _ ∧ _ from ⟨hii, hi0, hi1, hi2⟩)
    clear hii hi0 hi1 hi2
    have HL2 := Lib.hid (show ∃ vi, St U wr W.heap.size (w.heap.size + 1) bl.length 0 c (fun _ _ => false) vi (LI (edgesTo bl 0)) (fun _ => .slice none 0 0) (fun _ => []) ∧ Below W.heap.size W wr from ⟨_, hst, hbw⟩)
    have HTOT := Lib.hid htot
    clear HL hO hM9 hc9 hbw hst htot
    go_wp2_with fail
    go_loopw [31] (fun iv wr => ∃ k : Nat, k ≤ bl.length ∧ iv = .int .i64 k ∧ Hid (∃ vi, St U wr W.heap.size (w.heap.size + 1) bl.length 0 c (fun _ _ => false) vi (LI (edgesTo bl k)) (fun _ => .slice none 0 0) (fun _ => []) ∧ Below W.heap.size W wr)) (fun iv _ => bl.length - (intOf iv).toNat)
    case atStart => exact ⟨0, Nat.zero_le _, rfl, HL2⟩
    case round =>
    clear HL2
    obtain ⟨k, hk, rfl, HL⟩ := hrel
    by_cases hlt : k < bl.length
    · obtain ⟨vi, hst, hbw⟩ := HL.out
      obtain ⟨b, hb⟩ : ∃ b, bl[k]? = some b := ⟨_, List.getElem?_eq_getElem hlt⟩
      obtain ⟨b3, o3, rfl, hb3, cs3, hcl3, hcs3, x1, x2, cs4, e4, kph, kco, x4, e5, kto⟩ := row_at KB.out hb
      subst e5
      subst e4
      obtain ⟨A5, k5, rfl⟩ := Row.form kto
      obtain ⟨m0, m1, m2, m3, m4, m5, m6, m7, m8⟩ := at9 (cells_later hcs3 (((HB.out.trans (hbw.mono (by have := HZ1.out; omega)))).mono hh) hb3)
      have f4 := (HO.out.below hbw zlt).cell 4
      simp only [List.getElem?_cons_succ, List.getElem?_cons_zero] at f4
      have hE0 : edgesOf bl k = b.fin.dest.map fun x => (k, (plc (names bl) x).getD 0) := by unfold edgesOf; rw [hb]
      have hld : b.fin.dest.length ≤ 1000000000000 := by
        have h1 : (edgesOf bl k).length ≤ (edgesTo bl bl.length).length := by
          have := edgesTo_next bl k
          have h2 : (edgesTo bl (k + 1)).length ≤ (edgesTo bl bl.length).length := edges_le bl (by omega)
          rw [this, List.length_append] at h2
          omega
        rw [hE0, List.length_map] at h1
        have := HTOT.out
        omega
      have HL3 := Lib.hid (show ∃ vi, St U wr W.heap.size (w.heap.size + 1) bl.length 0 c (fun _ _ => false) vi (LI (edgesTo bl k ++ (edgesOf bl k).take 0)) (fun _ => .slice none 0 0) (fun _ => []) ∧ Below W.heap.size W wr from ⟨vi, by rw [List.take_zero, List.append_nil]; exact hst, hbw⟩)
      have HE0 := Lib.hid hE0
      have HBK := Lib.hid (List.mem_of_getElem? hb)
      have HTO := Lib.hid (Texts.move (Still.of_below (Below.refl _ w)) kto)
      clear hst hbw HL hE0 hb kph kco kto hcs3
      go_wp2_with fail
      go_loopw [42] (fun iv wr => ∃ j : Nat, j ≤ b.fin.dest.length ∧ iv = .int .i64 j ∧ Hid (∃ vi, St U wr W.heap.size (w.heap.size + 1) bl.length 0 c (fun _ _ => false) vi (LI (edgesTo bl k ++ (edgesOf bl k).take j)) (fun _ => .slice none 0 0) (fun _ => []) ∧ Below W.heap.size W wr)) (fun iv _ => b.fin.dest.length - (intOf iv).toNat)
      case atStart => exact ⟨0, Nat.zero_le _, rfl, HL3⟩
      case round =>
      clear HL3 m0 m1 m2 m3 m4 m5 m6 m7 m8 f4
      obtain ⟨j, hj, rfl, HL⟩ := hrel
      by_cases hlj : j < b.fin.dest.length
      · obtain ⟨vi, hst, hbw⟩ := HL.out
        obtain ⟨x, hx⟩ : ∃ x, b.fin.dest[j]? = some x := ⟨_, List.getElem?_eq_getElem hlj⟩
        obtain ⟨b6, o6, rfl, hb6, cs6, hcl6, hcs6, rfl⟩ := row_at HTO.out hx
        have hbwf : Below hi w wr := (HB.out.trans (hbw.mono (by have := HZ1.out; omega))).mono hh
        have n0 := cells_later hcs6 hbwf hb6 0 _ rfl
        simp only [Nat.mul_one, Nat.add_zero] at n0
        have hxm := List.mem_of_getElem? hx
        obtain ⟨t, ht⟩ : ∃ t, plc (names bl) x = some t := by
          cases e : plc (names bl) x with
          | none => exact absurd (HR.out b HBK.out x hxm) (plc_none.1 e)
          | some t => exact ⟨t, rfl⟩
        have htl : t < bl.length := by have := plc_lt ht; rwa [names_len] at this
        have HKEY := Lib.hid (key_at (GB.out b HBK.out x hxm))
        have HT := Lib.hid (show (tab 0 (names bl)).atKey (kS x) (dI 0) = dI ((t : Nat) : Int) ∧ has (tab 0 (names bl)) (kS x) = true from by
          rw [tab_at, tab_has, ht]
          simp)
        have HMW := Lib.hid (own_belowM HM.out (HB.out.trans (hbw.mono (by have := HZ1.out; omega))) hgl)
        have hnx : (edgesOf bl k).take (j + 1) = (edgesOf bl k).take j ++ [(k, t)] := take_at (by rw [HE0.out, List.getElem?_map, hx]; simp [ht])
        have hgr1 := hst.ri.own (2 * k) (by omega)
        obtain ⟨A7, k7, hv7⟩ := row_form hgr1
        rw [hv7] at hgr1
        obtain ⟨E, hE⟩ : ∃ E, edgesTo bl k ++ (edgesOf bl k).take j = E := ⟨_, rfl⟩
        rw [hE] at hst hgr1 hv7
        have hEl : E.length ≤ 1000000000000 := by
          have h1 : (edgesTo bl k ++ (edgesOf bl k).take j).length ≤ (edgesTo bl (k + 1)).length := by
            rw [edgesTo_next, List.length_append, List.length_append]
            have := List.length_take_le j (edgesOf bl k)
            have := List.length_take_le' j (edgesOf bl k)
            omega
          have h2 := edges_le bl (show k + 1 ≤ bl.length by omega)
          have := HTOT.out
          rw [← hE]
          omega
        obtain ⟨q1, hq1⟩ : ∃ q, LI E (2 * k) = q := ⟨_, rfl⟩
        obtain ⟨q2, hq2⟩ : ∃ q, LI E (2 * t + 1) = q := ⟨_, rfl⟩
        have hql1 : q1.length ≤ 1000000000000 := by rw [← hq1]; exact Nat.le_trans (LI_len _ _) hEl
        have hql2 : q2.length ≤ 1000000000000 := by rw [← hq2]; exact Nat.le_trans (LI_len _ _) hEl
        rw [hq1] at hgr1 hv7
        have hgr2 := hst.ri.own (2 * t + 1) (by omega)
        rw [hq2] at hgr2
        obtain ⟨A8, k8, hv8⟩ := row_form hgr2
        have n7 := (hst.cell (i := k) hlt (show 0 < 7 by omega)).trans (congrArg some (show FF 0 c vi (fun _ => .slice none 0 0) k 0 = .slice A7 q1.length k7 from hv7))
        have n8 := (hst.cell (i := t) htl (show 1 < 7 by omega)).trans (congrArg some (show FF 0 c vi (fun _ => .slice none 0 0) t 1 = .slice A8 q2.length k8 from hv8))
        simp only [Nat.add_zero] at n7
        have HST := Lib.hid hst
        have HBW := Lib.hid hbw
        have HQ1 := Lib.hid hq1
        have HQ2 := Lib.hid hq2
        have HV7 := Lib.hid hv7
        have HV8 := Lib.hid hv8
        have HG1 := Lib.hid hgr1
        have HEE := Lib.hid hE
        have HNX := Lib.hid hnx
        have hW1 := hbw.size
        have hne1 : ¬ (t * 7 + 1 = k * 7) := by omega
        have hne2 : ¬ (k * 7 = t * 7 + 1) := by omega
        clear hx hst hbw hbwf hE hq1 hq2 hv7 hv8 hgr1 hgr2 hnx HL hcs6 hEl
        have HARM := Lib.hid (show ∀ (A9 : Option Addr) (k9 : Nat) (w9 : World), w9.ownsRow W.heap.size 3 1 (.slice A9 (q1.length + 1) k9) (q1.length + 1) (q1.map i64 ++ [i64 (t : Int)]) → wr.grownBy w9 (Value.slice A7 q1.length k7).ownBlock → ((Value.slice A9 (q1.length + 1) k9).ownBlock = (Value.slice A7 q1.length k7).ownBlock ∨ ∀ k, (Value.slice A9 (q1.length + 1) k9).ownBlock = some k → wr.heap.size ≤ k) →
            w9.cell? ⟨w.heap.size + 1, k * 7, none⟩ = some (.slice A7 q1.length k7) ∧ w9.frozen? ⟨w.heap.size + 1, k * 7, none⟩ = false ∧ w9.cell? ⟨w.heap.size + 1, t * 7 + 1, none⟩ = some (.slice A8 q2.length k8) ∧ (w9.setCell ⟨w.heap.size + 1, k * 7, none⟩ (.slice A9 (q1.length + 1) k9)).cell? ⟨w.heap.size + 1, t * 7 + 1, none⟩ = some (.slice A8 q2.length k8) ∧
            Hid (St U (w9.setCell ⟨w.heap.size + 1, k * 7, none⟩ (.slice A9 (q1.length + 1) k9)) W.heap.size (w.heap.size + 1) bl.length 0 c (fun _ _ => false) (upd vi (2 * k) (.slice A9 (q1.length + 1) k9)) (upd (LI E) (2 * k) (q1 ++ [(t : Int)])) (fun _ => .slice none 0 0) (fun _ => [])) ∧
            Hid ((w9.setCell ⟨w.heap.size + 1, k * 7, none⟩ (.slice A9 (q1.length + 1) k9)).ownsRow W.heap.size 3 1 (.slice A8 q2.length k8) q2.length (q2.map i64)) ∧ W.heap.size ≤ (w9.setCell ⟨w.heap.size + 1, k * 7, none⟩ (.slice A9 (q1.length + 1) k9)).heap.size ∧ Hid (Below W.heap.size W (w9.setCell ⟨w.heap.size + 1, k * 7, none⟩ (.slice A9 (q1.length + 1) k9))) from by
          intro A9 k9 w9 h9 g9 f9
          have hg9 : wr.grownBy w9 (vi (2 * k)).ownBlock := by rw [HV7.out]; exact g9
          have o9 := HST.out.outI (x := 2 * k) (by omega) hg9
          have n9 := (o9.cell hlt (show 0 < 7 by omega)).trans (congrArg some (show FF 0 c vi (fun _ => .slice none 0 0) k 0 = .slice A7 q1.length k7 from HV7.out))
          have st1 := HST.out.pushi (x := 2 * k) (by omega) hg9 (v' := .slice A9 (q1.length + 1) k9) (l' := q1 ++ [(t : Int)]) (by simpa using h9) (by rw [HV7.out]; exact f9)
          rw [show 2 * k / 2 * 7 + 2 * k % 2 = k * 7 by omega] at st1
          have n10 := (st1.cell htl (show 1 < 7 by omega)).trans (congrArg some (show FF 0 c (upd vi (2 * k) (.slice A9 (q1.length + 1) k9)) (fun _ => .slice none 0 0) t 1 = .slice A8 q2.length k8 from (upd_ne _ _ (by omega)).trans HV8.out))
          have n11 := (o9.cell htl (show 1 < 7 by omega)).trans (congrArg some (show FF 0 c vi (fun _ => .slice none 0 0) t 1 = .slice A8 q2.length k8 from HV8.out))
          have hg2 := st1.ri.own (2 * t + 1) (by omega)
          rw [upd_ne _ _ (by omega), upd_ne _ _ (by omega), HV8.out, HQ2.out] at hg2
          have gs := g9.size
          exact ⟨n9, o9.thaw _, n11, n10, Lib.hid st1, Lib.hid hg2, by simp; omega, Lib.hid ((HBW.out.grown g9 hW1 (fun j hj => (HG1.out.lt j hj).1)).grown (grown_cell w9 ⟨w.heap.size + 1, k * 7, none⟩ (.slice A9 (q1.length + 1) k9)) (by omega) (fun j hj => by cases hj; have := HZ1.out; simp only; omega))⟩)
        go_wp2_with (first
          | (at_lookup; refine look_ok _ rfl _ _ 97 rfl 9 3 lawS Try.underlying97 Try.underlying3 (zeroI _) gm _ _ rfl HMW.out _ _ rfl HKEY.out _ HT.out.1 _ HT.out.2 ?_)
          | (at_builtin; refine wpList_growP rfl _ _ 84 rfl W.heap.size 3 1 ii _ 8 Try.underlying84 HII.out.1 HII.out.2.1 HII.out.2.2.1 HII.out.2.2.2 rfl Nat.one_pos _ _ _ rfl HG1.out [i64 (t : Int)] _ rfl rfl rfl (by intro u hu; rw [List.mem_singleton] at hu; subst hu; rfl) (by omega) (by omega) hW1 ?_; intro v9 w9 h9 g9 f9; obtain ⟨A9, k9, rfl⟩ := row_form h9; obtain ⟨n9, t9, n11, n10, HS1, HG2, hW9, HB9⟩ := HARM.out A9 k9 w9 h9 g9 f9; clear h9 g9 f9)
          | (at_builtin; refine wpList_growP rfl _ _ 84 rfl W.heap.size 3 1 ii _ 8 Try.underlying84 HII.out.1 HII.out.2.1 HII.out.2.2.1 HII.out.2.2.2 rfl Nat.one_pos _ _ _ rfl HG2.out [i64 (k : Int)] _ (by simp) rfl rfl (by intro u hu; rw [List.mem_singleton] at hu; subst hu; rfl) (by omega) (by omega) hW9 ?_; intro v12 w12 h12 g12 f12; obtain ⟨A12, k12, rfl⟩ := row_form h12; have hg12 := (show (w9.setCell ⟨w.heap.size + 1, k * 7, none⟩ (.slice A9 (q1.length + 1) k9)).grownBy w12 (upd vi (2 * k) (.slice A9 (q1.length + 1) k9) (2 * t + 1)).ownBlock from (by rw [upd_ne _ _ (by omega), HV8.out]; exact g12)); have o12 := HS1.out.outI (x := 2 * t + 1) (by omega) hg12; have n12 := (o12.cell htl (show 1 < 7 by omega)).trans (congrArg some (show FF 0 c (upd vi (2 * k) (.slice A9 (q1.length + 1) k9)) (fun _ => .slice none 0 0) t 1 = .slice A8 q2.length k8 from (upd_ne _ _ (by omega)).trans HV8.out)); have t12 := o12.thaw (t * 7 + 1); have H12 := Lib.hid h12; have G12 := Lib.hid g12; have GG12 := Lib.hid hg12; have F12 := Lib.hid f12; have O12 := Lib.hid o12; clear h12 g12 f12 hg12 o12)
          | go_in)
        go_roundw
        case rel =>
          have st2 := HS1.out.pushi (x := 2 * t + 1) (by omega) GG12.out (v' := .slice A12 (q2.length + 1) k12) (l' := q2 ++ [(k : Int)]) (by simpa using H12.out) (by rw [upd_ne _ _ (by omega), HV8.out]; exact F12.out)
          rw [show (2 * t + 1) / 2 * 7 + (2 * t + 1) % 2 = t * 7 + 1 by omega] at st2
          have hb12 := HB9.out.grown G12.out hW9 (fun j hj => (HG2.out.lt j hj).1)
          refine ⟨j + 1, by omega, by go_num, Lib.hid ⟨upd (upd vi (2 * k) (.slice A9 (q1.length + 1) k9)) (2 * t + 1) (.slice A12 (q2.length + 1) k12), ?_, hb12.grown (grown_cell w12 ⟨w.heap.size + 1, t * 7 + 1, none⟩ (.slice A12 (q2.length + 1) k12)) (Nat.le_trans hW9 G12.out.size) (fun j hj => by cases hj; have := HZ1.out; simp only; omega)⟩⟩
          rw [HNX.out, ← List.append_assoc, HEE.out, LI_snoc, HQ1.out, HQ2.out]
          exact st2
        case measure => simp [intOf]; omega
      · obtain rfl : j = b.fin.dest.length := by omega
        have HL9 := Lib.hid (show ∃ vi, St U wr W.heap.size (w.heap.size + 1) bl.length 0 c (fun _ _ => false) vi (LI (edgesTo bl (k + 1))) (fun _ => .slice none 0 0) (fun _ => []) ∧ Below W.heap.size W wr from by
          obtain ⟨vi, q1, q2⟩ := HL.out
          refine ⟨vi, ?_, q2⟩
          rw [edgesTo_next, ← List.take_of_length_le (show (edgesOf bl k).length ≤ b.fin.dest.length by rw [HE0.out, List.length_map]; exact Nat.le_refl _)]
          exact q1)
        go_wp2_with fail
        go_roundw
        case rel => exact ⟨k + 1, by omega, by go_num, HL9⟩
        case measure => simp [intOf]; omega
    · obtain rfl : k = bl.length := by omega
      obtain ⟨vi, hst, hbw⟩ := HL.out
      have HST := Lib.hid hst
      have HBW := Lib.hid hbw
      clear hst hbw HL
      go_wp2_with fail
      go_ret
      exact ⟨_, c, vi, rfl, HST.out.lower (by have := HZ1.out; omega), HB.out.trans (HBW.out.mono (by have := HZ1.out; omega))⟩
end Go.Proofs.Ytaeklfljibjpiaa.Lv12
