/-
  Layer 12: what phis set, and what they use on the ways from which blocks.
-/
import Derived.Shelf.Slices.SearchI
import Derived.Shelf.Slices.Empties
import Derived.Shelf.Lay
import Derived.StillTailTactics
import Derived.Test.YtaeklfljibjpiaaLvSol
import Derived.Test.YtaeklfljibjpiaaLvBegin
namespace Go.Proofs
open Go.Shelf
shelf_lay Lays2.n25 Nm2 25 at Try as Try.lays2_25
end Go.Proofs
namespace Go.Proofs.Ytaeklfljibjpiaa.Lv12
open Go.RowKit Go.Shelf Api Mem Sh8 Go.Maps

theorem search_any {w : World} {base : Nat} {A : Option Addr} {c : Nat} (zs : List Int) (x : Int) (h : w.ownsRow base 3 1 (.slice A zs.length c) zs.length (zs.map i64)) (hl : zs.length ≤ 1000000000000) (hs : zs.Pairwise (· ≤ ·)) :
    Calls Try.prog 73 #[.slice A zs.length c, .int .i64 x] w fun e w' => (∃ p : Nat, e = .returned (.tuple #[.int .i64 (p : Int), .bool (zs.contains x)])) ∧ Below w.heap.size w w' := by
  by_cases h0 : zs.length = 0
  · obtain rfl := List.eq_nil_of_length_eq_zero h0
    refine (Any.slices_BinarySearch_int_empty Try.lays2_25 A c x w).mono ?_
    rintro e w' ⟨rfl, rfl⟩
    exact ⟨⟨0, rfl⟩, Below.refl _ _⟩
  · obtain ⟨b, rfl, hb, hbl⟩ := own_addr h (k := 0) (by omega)
    refine (Any.slices_BinarySearch_int Try.lays2_25 b 0 zs.length c zs x w (Nat.le_refl _) (by omega) (fun j hj => ?_) (by rw [List.take_length]; exact hs)).mono ?_
    · rw [Nat.zero_add]
      exact own_at h (by rw [List.getElem?_map, List.getElem?_eq_getElem hj, List.getD_eq_getElem?_getD, List.getElem?_eq_getElem hj]; rfl)
    · rintro e w' ⟨rfl, q, rfl⟩
      rw [List.take_length]
      exact ⟨⟨_, rfl⟩, ⟨rfl, rfl, rfl, Nat.le_refl _, fun _ _ => rfl⟩⟩
/-! ### what phis say -/
def pairsIn (bl : List Api.Block) (E : List Edge) (t : Nat) (q : Bind) : List (Nat × Wd) := match plc (names bl) q.name with
  | some a => if (a, t) ∈ E then (namesA [q.a]).map fun y => (a, y) else []
  | none => []
def usesB (bl : List Api.Block) (E : List Edge) (t : Nat) (b : Api.Block) : List (Nat × Wd) := b.phis.flatMap fun p => p.ins.flatMap (pairsIn bl E t)
def usesPh (bl : List Api.Block) (E : List Edge) (k : Nat) : List (Nat × Wd) := (List.range k).flatMap fun t => match bl[t]? with
  | some b => usesB bl E t b
  | none => []
def setsB (t : Nat) (b : Api.Block) : List (Nat × Wd) := b.phis.map fun p => (t, p.dst)
def setsPh (bl : List Api.Block) (k : Nat) : List (Nat × Wd) := (List.range k).flatMap fun t => match bl[t]? with
  | some b => setsB t b
  | none => []
theorem usesPh_next {bl : List Api.Block} {E : List Edge} {k : Nat} {b : Api.Block} (h : bl[k]? = some b) : usesPh bl E (k + 1) = usesPh bl E k ++ usesB bl E k b := by
  unfold usesPh
  rw [List.range_succ, List.flatMap_append]
  simp [h]
theorem setsPh_next {bl : List Api.Block} {k : Nat} {b : Api.Block} (h : bl[k]? = some b) : setsPh bl (k + 1) = setsPh bl k ++ setsB k b := by
  unfold setsPh
  rw [List.range_succ, List.flatMap_append]
  simp [h]
/-- all sets: what phis set, and what is used at blocks' ends. -/
def phS (D Us : List (Nat × Wd)) (x : Nat) (y : Wd) : Bool := if x % 4 = 0 then decide ((x / 4, y) ∈ D) else if x % 4 = 2 then decide ((x / 4, y) ∈ Us) else false
theorem phS_nil : phS [] [] = fun _ _ => false := funext fun x => funext fun y => by
  unfold phS
  split
  · simp
  · split <;> simp
theorem phS_set (D Us : List (Nat × Wd)) (t : Nat) (d : Wd) : upd (phS D Us) (4 * t) (addS (phS D Us (4 * t)) d) = phS (D ++ [(t, d)]) Us := funext fun x => funext fun y => by
  by_cases e : x = 4 * t
  · subst e
    rw [upd_at]
    unfold addS phS
    rw [if_pos (by omega), if_pos (by omega), show 4 * t / 4 = t by omega]
    simp
  · rw [upd_ne _ _ e]
    unfold phS
    by_cases e1 : x % 4 = 0
    · rw [if_pos e1, if_pos e1]
      have : x / 4 ≠ t := by omega
      simp [this]
    · rw [if_neg e1, if_neg e1]
theorem phS_use (D Us : List (Nat × Wd)) (a : Nat) (l : List Wd) : upd (phS D Us) (4 * a + 2) (orS (phS D Us (4 * a + 2)) l) = phS D (Us ++ l.map fun y => (a, y)) := funext fun x => funext fun y => by
  by_cases e : x = 4 * a + 2
  · subst e
    rw [upd_at]
    unfold orS phS
    rw [if_neg (by omega), if_pos (by omega), if_neg (by omega), if_pos (by omega), show (4 * a + 2) / 4 = a by omega]
    simp
  · rw [upd_ne _ _ e]
    unfold phS
    by_cases e1 : x % 4 = 0
    · rw [if_pos e1, if_pos e1]
    · rw [if_neg e1, if_neg e1]
      by_cases e2 : x % 4 = 2
      · rw [if_pos e2, if_pos e2]
        have : ¬ a = x / 4 := by omega
        simp [this]
      · rw [if_neg e2, if_neg e2]
theorem flat_next {α β : Type} {g : α → List β} {l : List α} {k : Nat} {x : α} (h : l[k]? = some x) : (l.take (k + 1)).flatMap g = (l.take k).flatMap g ++ g x := by
  rw [take_at h, List.flatMap_append]
  simp
theorem map_next {α β : Type} {g : α → β} {l : List α} {k : Nat} {x : α} (h : l[k]? = some x) : (l.take (k + 1)).map g = (l.take k).map g ++ [g x] := by
  rw [take_at h, List.map_append]
  rfl
theorem edges_sorted (bl : List Api.Block) : ∀ k : Nat, ((edgesTo bl k).map (·.1)).Pairwise (· ≤ ·) ∧ ∀ e ∈ edgesTo bl k, e.1 < k
  | 0 => ⟨by simp [edgesTo], by simp [edgesTo]⟩
  | k + 1 => by
    obtain ⟨h1, h2⟩ := edges_sorted bl k
    have h3 : ∀ e ∈ edgesOf bl k, e.1 = k := fun e he => by
      unfold edgesOf at he
      split at he
      · obtain ⟨x, _, rfl⟩ := List.mem_map.1 he
        rfl
      · cases he
    rw [edgesTo_next]
    refine ⟨?_, fun e he => ?_⟩
    · rw [List.map_append, List.pairwise_append]
      refine ⟨h1, ?_, fun a ha b hb => ?_⟩
      · refine List.pairwise_iff_forall_sublist.2 fun {a b} hab => ?_
        have ha : a ∈ (edgesOf bl k).map (·.1) := hab.subset (by simp)
        have hb : b ∈ (edgesOf bl k).map (·.1) := hab.subset (by simp)
        obtain ⟨x, hx, rfl⟩ := List.mem_map.1 ha
        obtain ⟨y, hy, rfl⟩ := List.mem_map.1 hb
        rw [h3 x hx, h3 y hy]
        exact Nat.le_refl _
      · obtain ⟨x, hx, rfl⟩ := List.mem_map.1 ha
        obtain ⟨y, hy, rfl⟩ := List.mem_map.1 hb
        rw [h3 y hy]
        exact Nat.le_of_lt (h2 x hx)
    · rcases List.mem_append.1 he with q | q
      · exact Nat.lt_succ_of_lt (h2 e q)
      · rw [h3 e q]
        exact Nat.lt_succ_self _
theorem srcs_sorted (bl : List Api.Block) (k a : Nat) : ((srcs (edgesTo bl k) a).map fun x : Nat => (x : Int)).Pairwise (· ≤ ·) := by
  refine List.pairwise_map.2 ?_
  have h := (edges_sorted bl k).1
  have hs : (srcs (edgesTo bl k) a).Sublist ((edgesTo bl k).map (·.1)) := by
    unfold srcs
    exact List.Sublist.map _ List.filter_sublist
  exact (h.sublist hs).imp fun h => by omega
set_option maxRecDepth 100000 in
set_option maxHeartbeats 8000000 in
theorem layPhis_any {U : List Wd} (hU : UOk U) (lo hi : Nat) {w : World} {base B : Nat} {c : Nat → Nat} {vi : Nat → Value} {E : List Edge} {vg : Nat → Value} {gr : Nat → List Wd} (cs : List Value) (f : Api.Func) (hf : FuncC lo hi w cs f) (hhb : hi ≤ base) (h : St U w base B f.blocks.length 0 c (fun _ _ => false) vi (LI E) vg gr) (hb : base ≤ w.heap.size)
    (gm m : Nat) (hM : w.ownsMap Try.prog 9 (plainElem Try.prog 3) gm m (tab 0 (names f.blocks))) (hgm : gm < base) (hE : ∀ e ∈ E, e.1 < f.blocks.length ∧ e.2 < f.blocks.length) (hEl : E.length ≤ 1000000000000) (hs : ∀ a, ((srcs E a).map fun x : Nat => (x : Int)).Pairwise (· ≤ ·))
    (hP : ∀ b ∈ f.blocks, ∀ p ∈ b.phis, p.dst ∈ U ∧ ∀ q ∈ p.ins, q.name.length ≤ 140737488351232 ∧ ∀ x ∈ namesA [q.a], x ∈ U) :
    Calls Try.prog 45 #[.agg cs.toArray, .map (some gm), .slice (some ⟨B, 0, none⟩) f.blocks.length f.blocks.length] w fun e w' => e = .returned (.tuple #[]) ∧ St U w' base B f.blocks.length 0 c (phS (setsPh f.blocks f.blocks.length) (usesPh f.blocks E f.blocks.length)) vi (LI E) vg gr ∧ Below base w w' := by
  obtain ⟨u1, u2, u3, rfl, kp, kv, kb⟩ := hf
  obtain ⟨nm, rs, ps, vs, bl⟩ := f
  simp only at kp kv kb h hM hE hP ⊢
  obtain ⟨A1, k1, rfl⟩ := kp.form
  obtain ⟨A2, k2, rfl⟩ := kv.form
  obtain ⟨A3, k3, rfl⟩ := kb.form
  have hh : hi ≤ w.heap.size := Nat.le_trans hhb hb
  have hlb : bl.length ≤ 4611686018427387903 := by obtain ⟨_, _, _, h, _⟩ := kb.get; exact h
  obtain ⟨W, hW⟩ : ∃ W, w.alloc (.cells #[str nm, str rs, .slice A1 ps.length k1, .slice A2 vs.length k2, .slice A3 bl.length k3] 25) = W := ⟨_, rfl⟩
  obtain ⟨o1, b1, z1⟩ := box8 (c := [str nm, str rs, .slice A1 ps.length k1, .slice A2 vs.length k2, .slice A3 bl.length k3]) hW
  have KB := Lib.hid kb
  have HO := Lib.hid o1
  have HB := Lib.hid (b1.mono hb)
  have HW := Lib.hid hW
  have zlt := o1.lt
  have HWS : w.heap.size < W.heap.size := zlt
  have HST := Lib.hid (show St U W base B bl.length 0 c (phS [] []) vi (LI E) vg gr by rw [phS_nil]; exact h.below b1)
  have HM := Lib.hid hM
  have HE := Lib.hid hE
  have HEL := Lib.hid hEl
  have HS := Lib.hid hs
  have HP := Lib.hid hP
  clear o1 b1 hW kp kv kb h hM hE hEl hs hP
  go_enter Try.func45, Try.ntmps45
  go_wp2_with fail
  rw [HW.out]
  have f4' := HO.out.cell 4
  simp only [List.getElem?_cons_succ, List.getElem?_cons_zero] at f4'
  have HOB := Lib.hid (show w.heap.size ≠ B ∧ ∀ x, OkM bl.length 0 x → c x ≠ w.heap.size from ⟨fun e => by
    obtain ⟨cs, q1, _⟩ := HST.out.out
    have := notT_own HO.out (e := 95) (by decide)
    rw [← e] at q1
    exact this _ _ q1, fun x hx e => set_ne_row (HST.out.ms.set x hx) (isRow_own HO.out) e⟩)
  have HB0 := Lib.hid (Below.refl base W)
  have HO0 := HO
  go_loopw [18] (fun i wr => ∃ k : Nat, k ≤ bl.length ∧ i = .int .i64 k ∧ Hid (St U wr base B bl.length 0 c (phS (setsPh bl k) (usesPh bl E k)) vi (LI E) vg gr) ∧ Hid (Mem.Own wr w.heap.size 25 [str nm, str rs, .slice A1 ps.length k1, .slice A2 vs.length k2, .slice A3 bl.length k3]) ∧ Hid (Below base W wr)) (fun i _ => bl.length - (intOf i).toNat)
  case atStart => exact ⟨0, Nat.zero_le _, rfl, HST, HO0, HB0⟩
  case round =>
  clear f4'
  obtain ⟨k, hk, rfl, HSr, HOr, HBr⟩ := hrel
  by_cases hlt : k < bl.length
  · obtain ⟨b, hx⟩ : ∃ y, bl[k]? = some y := ⟨_, List.getElem?_eq_getElem hlt⟩
    obtain ⟨b3, o3, rfl, hb3, cs3, hcl3, hcs3, x1, x2, cs4, e4, kph, kco, x4, e5, kto⟩ := row_at KB.out hx
    subst e5
    subst e4
    obtain ⟨A5, k5, rfl⟩ := Row.form kph
    have f4 := HOr.out.cell 4
    simp only [List.getElem?_cons_succ, List.getElem?_cons_zero] at f4
    have hbW : Below hi w wr := (HB.out.trans HBr.out).mono hhb
    obtain ⟨m0, m1, m2, m3, m4, m5, m6, m7, m8⟩ := at9 (cells_later hcs3 hbW hb3)
    have HX := Lib.hid hx
    have KPH := Lib.hid kph
    have hpl : b.phis.length ≤ 4611686018427387903 := by obtain ⟨_, _, _, h, _⟩ := kph.get; exact h
    have HS0 := Lib.hid (show St U wr base B bl.length 0 c (phS (setsPh bl k ++ (setsB k b).take 0) (usesPh bl E k ++ (b.phis.take 0).flatMap fun p => p.ins.flatMap (pairsIn bl E k))) vi (LI E) vg gr from by simpa using HSr.out)
    clear hcs3 hx kph kco kto hbW
    go_wp2_with fail
    go_loopw [28] (fun i wr => ∃ j : Nat, j ≤ b.phis.length ∧ i = .int .i64 j ∧ Hid (St U wr base B bl.length 0 c (phS (setsPh bl k ++ (setsB k b).take j) (usesPh bl E k ++ (b.phis.take j).flatMap fun p => p.ins.flatMap (pairsIn bl E k))) vi (LI E) vg gr) ∧ Hid (Mem.Own wr w.heap.size 25 [str nm, str rs, .slice A1 ps.length k1, .slice A2 vs.length k2, .slice (some ⟨b3, o3, none⟩) bl.length k3]) ∧ Hid (Below base W wr)) (fun i _ => b.phis.length - (intOf i).toNat)
    case atStart => exact ⟨0, Nat.zero_le _, rfl, HS0, HOr, HBr⟩
    case round =>
    clear HS0 HSr HOr HBr f4 m0 m1 m2 m3 m4 m5 m6 m7 m8
    obtain ⟨j, hj, rfl, HSr, HOr, HBr⟩ := hrel
    by_cases hlj : j < b.phis.length
    · obtain ⟨p, hxp⟩ : ∃ y, b.phis[j]? = some y := ⟨_, List.getElem?_eq_getElem hlj⟩
      obtain ⟨b6, o6, rfl, hb6, cs6, hcl6, hcs6, x6, rfl, kin⟩ := row_at KPH.out hxp
      obtain ⟨A7, k7, rfl⟩ := Row.form kin
      have hbW : Below hi w wr := (HB.out.trans HBr.out).mono hhb
      obtain ⟨n0, n1⟩ := at2 (cells_later hcs6 hbW hb6)
      have hil : p.ins.length ≤ 4611686018427387903 := by obtain ⟨_, _, _, h, _⟩ := kin.get; exact h
      have KIN := Lib.hid kin
      have HXP := Lib.hid hxp
      have c2 := (HSr.out.cell hlt (show 2 < 7 by omega)).trans (congrArg some (show FF 0 c vi vg k 2 = .map (some (c (4 * k))) from rfl))
      have hPb := HP.out b (List.mem_of_getElem? HX.out) p (List.mem_of_getElem? hxp)
      have HOK := Lib.hid (show OkM bl.length 0 (4 * k) from ⟨by omega, fun h => by omega⟩)
      have HPB := Lib.hid hPb
      obtain ⟨bp, hbp⟩ : ∃ bp, wr.heap.size = bp := ⟨_, rfl⟩
      have HBPE := Lib.hid hbp
      obtain ⟨Wp, hWp⟩ : ∃ Wp, wr.alloc (.cells #[str p.dst, .slice A7 p.ins.length k7] 45) = Wp := ⟨_, rfl⟩
      have HOP := Lib.hid (show Mem.Own Wp bp 45 [str p.dst, .slice A7 p.ins.length k7] by rw [← hWp, ← hbp]; exact Mem.Own.made wr _ _)
      have HBp := Lib.hid (show Below wr.heap.size wr Wp by rw [← hWp]; exact (Below.refl _ _).alloc (Nat.le_refl _) _)
      have HSp := Lib.hid (HSr.out.below HBp.out)
      have HOp := Lib.hid (HOr.out.below HBp.out HOr.out.lt)
      have HBWp := Lib.hid (show Below base W Wp from HBr.out.trans (HBp.out.mono (by have := HBr.out.size; omega)))
      have hCp : c (4 * k) ≠ bp := by have := (HSr.out.ms.set (4 * k) HOK.out).lt; omega
      have HCP := Lib.hid (show (∀ x, OkM bl.length 0 x → c x ≠ bp) ∧ bp ≠ B from ⟨fun x hx => by have := (HSr.out.ms.set x hx).lt; omega, by have := HSr.out.out.lt; omega⟩)
      have c2 := (HSp.out.cell hlt (show 2 < 7 by omega)).trans (congrArg some (show FF 0 c vi vg k 2 = .map (some (c (4 * k))) from rfl))
      have p0 := HOP.out.cell 0
      have p1 := HOP.out.cell 1
      simp only [List.getElem?_cons_succ, List.getElem?_cons_zero] at p0 p1
      have HQ := Lib.hid (add_any hU (show SetO U Wp.drew (c (4 * k)) _ from (HSp.out.ms.set (4 * k) HOK.out).drew) p.dst hPb.1)
      have HWP := Lib.hid hWp
      have hszp : base ≤ bp := by have := HBr.out.size; omega
      clear hcs6 kin hxp hbW hPb hWp hbp
      go_wp2_with fail
      rw [HWP.out, HBPE.out]
      go_still_tail 7, (by kernel_rfl)
      change wpList _ _ _ _ _ Wp.drew
      go_wp2_with fail
      refine HQ.out.mono ?_
      rintro e w5 ⟨rfl, h5, g5⟩
      have g5' := grown_of_drew g5
      have hst5 := HSp.out.putm HOK.out g5' h5
      rw [phS_set] at hst5
      have HO5 := Lib.hid (own_kept HOp.out g5' (Ne.symm (HOB.out.2 _ HOK.out)))
      have HP5 := Lib.hid (own_kept HOP.out g5' (Ne.symm hCp))
      have HB5 := Lib.hid (show Below base W w5 from HBWp.out.grown g5' (by have := HBWp.out.size; omega) (fun j e => by cases e; exact HSr.out.mb _ HOK.out))
      have HS5 := Lib.hid (show St U w5 base B bl.length 0 c (phS (setsPh bl k ++ (setsB k b).take (j + 1)) (usesPh bl E k ++ (b.phis.take j).flatMap (fun p => p.ins.flatMap (pairsIn bl E k)) ++ (p.ins.take 0).flatMap (pairsIn bl E k))) vi (LI E) vg gr from by
        have e1 : (setsB k b).take (j + 1) = (setsB k b).take j ++ [(k, p.dst)] := take_at (by unfold setsB; rw [List.getElem?_map, HXP.out]; rfl)
        rw [e1, ← List.append_assoc]
        simpa using hst5)
      have p1 := HP5.out.cell 1
      simp only [List.getElem?_cons_succ, List.getElem?_cons_zero] at p1
      clear n0 n1 c2 HQ h5 g5 g5' hst5 HSr HOr HBr HSp HOp HBWp HBp HWP HOP p0 HBPE
      go_wp2_with fail
      go_loopw [43] (fun i wr => ∃ z : Nat, z ≤ p.ins.length ∧ i = .int .i64 z ∧ Hid (St U wr base B bl.length 0 c (phS (setsPh bl k ++ (setsB k b).take (j + 1)) (usesPh bl E k ++ (b.phis.take j).flatMap (fun p => p.ins.flatMap (pairsIn bl E k)) ++ (p.ins.take z).flatMap (pairsIn bl E k))) vi (LI E) vg gr) ∧ Hid (Mem.Own wr w.heap.size 25 [str nm, str rs, .slice A1 ps.length k1, .slice A2 vs.length k2, .slice (some ⟨b3, o3, none⟩) bl.length k3]) ∧ Hid (Mem.Own wr bp 45 [str p.dst, .slice A7 p.ins.length k7]) ∧ Hid (Below base W wr)) (fun i _ => p.ins.length - (intOf i).toNat)
      case atStart => exact ⟨0, Nat.zero_le _, rfl, HS5, HO5, HP5, HB5⟩
      case round =>
      clear HS5 HO5 HP5 HB5 p1
      obtain ⟨z, hz, rfl, HSr, HOr, HPr, HBr⟩ := hrel
      by_cases hlz : z < p.ins.length
      · obtain ⟨q, hxq⟩ : ∃ y, p.ins[z]? = some y := ⟨_, List.getElem?_eq_getElem hlz⟩
        obtain ⟨b8, o8, rfl, hb8, cs8, hcl8, hcs8, rfl⟩ := row_at KIN.out hxq
        have hbW : Below hi w wr := (HB.out.trans HBr.out).mono hhb
        obtain ⟨n0, n1, n2, n3⟩ := at4 (cells_later hcs8 hbW hb8)
        have hPq := HPB.out.2 q (List.mem_of_getElem? hxq)
        have HKEY := Lib.hid (key_at hPq.1)
        have HQU := Lib.hid hPq.2
        have HXQ := Lib.hid (flat_next (g := pairsIn bl E k) hxq)
        obtain ⟨tc, td, htc⟩ : ∃ (tc : Nat) (td : Bool), ((tab 0 (names bl)).atKey (kS q.name) (dI 0) = dI ((tc : Nat) : Int) ∧ has (tab 0 (names bl)) (kS q.name) = td) ∧ ((td = true ∧ plc (names bl) q.name = some tc) ∨ (td = false ∧ plc (names bl) q.name = none)) := by
          rw [tab_at, tab_has]
          cases e : plc (names bl) q.name with
          | none => exact ⟨0, false, ⟨rfl, rfl⟩, .inr ⟨rfl, rfl⟩⟩
          | some t => exact ⟨t, true, ⟨by simp, rfl⟩, .inl ⟨rfl, rfl⟩⟩
        have HT := Lib.hid htc.1
        have HPL := Lib.hid htc.2
        obtain ⟨bq, hbq⟩ : ∃ bq, wr.heap.size = bq := ⟨_, rfl⟩
        have HBQE := Lib.hid hbq
        obtain ⟨Wq, hWq⟩ : ∃ Wq, wr.alloc (.cells #[str q.name, i64 q.a.kind, str q.a.s, i64 q.a.n] 109) = Wq := ⟨_, rfl⟩
        have HOQ := Lib.hid (show Mem.Own Wq bq 109 [str q.name, i64 q.a.kind, str q.a.s, i64 q.a.n] by rw [← hWq, ← hbq]; exact Mem.Own.made wr _ _)
        have HBq := Lib.hid (show Below wr.heap.size wr Wq by rw [← hWq]; exact (Below.refl _ _).alloc (Nat.le_refl _) _)
        have HSq := Lib.hid (HSr.out.below HBq.out)
        have HOq := Lib.hid (HOr.out.below HBq.out HOr.out.lt)
        have HPq := Lib.hid (HPr.out.below HBq.out HPr.out.lt)
        have HBWq := Lib.hid (show Below base W Wq from HBr.out.trans (HBq.out.mono (by have := HBr.out.size; omega)))
        have HMW := Lib.hid (show (wr.alloc (.cells #[str q.name, i64 q.a.kind, str q.a.s, i64 q.a.n] 109)).ownsMap Try.prog 9 (plainElem Try.prog 3) gm m (tab 0 (names bl)) from by rw [hWq]; exact own_belowM HM.out (HB.out.trans HBWq.out) hgm)
        have q0 := HOQ.out.cell 0
        simp only [List.getElem?_cons_succ, List.getElem?_cons_zero] at q0
        have HWQ := Lib.hid hWq
        obtain ⟨zs, hzs⟩ : ∃ zs, ((srcs E k).map fun x : Nat => (x : Int)) = zs := ⟨_, rfl⟩
        have hzl : zs.length ≤ 1000000000000 := by
          rw [← hzs, List.length_map]
          unfold srcs
          rw [List.length_map]
          exact Nat.le_trans (List.length_filter_le _ _) HEL.out
        have hri := HSq.out.ri.own (2 * k + 1) (by omega)
        rw [LI_odd, hzs] at hri
        obtain ⟨A9, k9, hv9⟩ := row_form hri
        rw [hv9] at hri
        have c1 := (HSr.out.cell hlt (show 1 < 7 by omega)).trans (congrArg some (show FF 0 c vi vg k 1 = .slice A9 zs.length k9 from hv9))
        have hBlt : B < wr.heap.size := HSr.out.out.lt
        have hBne : ¬ B = wr.heap.size := by omega
        obtain ⟨ld, hld⟩ : ∃ ld, zs.contains (tc : Int) = ld := ⟨_, rfl⟩
        have hqs := search_any zs (tc : Int) hri hzl (by rw [← hzs]; exact HS.out k)
        rw [hld] at hqs
        have HQS := Lib.hid hqs
        have HLD := Lib.hid (show ld = true ↔ (tc, k) ∈ E from by
          rw [← hld, ← hzs, List.contains_iff_mem, List.mem_map, ← mem_srcs]
          exact ⟨fun ⟨a, h1, h2⟩ => by rw [← show a = tc by omega]; exact h1, fun h => ⟨tc, h, rfl⟩⟩)
        have HZS := Lib.hid hzs
        clear hcs8 hxq hbW hPq hWq hbq htc hri hv9 hzs hqs hld
        go_wp2_with (at_lookup; refine look_ok _ rfl _ _ 97 rfl 9 3 lawS Try.underlying97 Try.underlying3 (zeroI _) gm _ _ rfl HMW.out _ _ rfl HKEY.out _ HT.out.1 _ HT.out.2 ?_)
        rw [HWQ.out, HBQE.out]
        refine HQS.out.mono ?_
        rintro e w6 ⟨⟨pp, rfl⟩, hb6⟩
        have HS6 := Lib.hid (HSq.out.below hb6)
        have HO6 := Lib.hid (HOq.out.below hb6 HOq.out.lt)
        have HP6 := Lib.hid (HPq.out.below hb6 HPq.out.lt)
        have HQ6 := Lib.hid (HOQ.out.below hb6 HOQ.out.lt)
        have HB6 := Lib.hid (show Below base W w6 from HBWq.out.trans (hb6.mono (by have := HBWq.out.size; omega)))
        have hNo : ¬ (td = true ∧ ld = true) → pairsIn bl E k q = [] := fun hn => by
          unfold pairsIn
          rcases HPL.out with ⟨h1, h2⟩ | ⟨h1, h2⟩
          · rw [h2]
            simp only
            rw [if_neg fun h => hn ⟨h1, HLD.out.2 h⟩]
          · rw [h2]
        have hYes : td = true ∧ ld = true → pairsIn bl E k q = (namesA [q.a]).map fun y => (tc, y) := fun hn => by
          unfold pairsIn
          rcases HPL.out with ⟨h1, h2⟩ | ⟨h1, h2⟩
          · rw [h2]
            simp only
            rw [if_pos (HLD.out.1 hn.2)]
          · rw [h1] at hn
            cases hn.1
        have HNO := Lib.hid hNo
        have HYES := Lib.hid hYes
        have HBQ := Lib.hid (show (∀ x, OkM bl.length 0 x → c x ≠ bq) from fun x hx => by have := (HSr.out.ms.set x hx).lt; have := HBQE.out; omega)
        have hszq : base ≤ wr.heap.size := by have := HBr.out.size; omega
        have hszw : wr.heap.size ≤ w6.heap.size := Nat.le_trans HBq.out.size hb6.size
        clear hb6 c1 q0 n0 n1 n2 n3 hNo hYes HSq HOq HPq HBWq HQS
        have hgo : (td = true ∧ ld = true) ∨ ¬ (td = true ∧ ld = true) := Classical.em _
        rcases hgo with ⟨rfl, rfl⟩ | hgo
        · have htl : tc < bl.length := (HE.out _ (HLD.out.1 rfl)).1
          have c4 := (HS6.out.cell htl (show 4 < 7 by omega)).trans (congrArg some (show FF 0 c vi vg tc 4 = .map (some (c (4 * tc + 2))) from rfl))
          have q1 := HQ6.out.cell 1
          have q2 := HQ6.out.cell 2
          have q3 := HQ6.out.cell 3
          simp only [List.getElem?_cons_succ, List.getElem?_cons_zero] at q1 q2 q3
          have HOK2 := Lib.hid (show OkM bl.length 0 (4 * tc + 2) from ⟨by omega, fun h => by omega⟩)
          have HQ2 := Lib.hid (use_any hU (show SetO U w6.drew (c (4 * tc + 2)) _ from (HS6.out.ms.set _ HOK2.out).drew) q.a HQU.out)
          go_wp2_with fail
          go_still_tail 7, (by kernel_rfl)
          change wpList _ _ _ _ _ w6.drew
          go_wp2_with fail
          refine HQ2.out.mono ?_
          rintro e w7 ⟨rfl, h7, g7⟩
          have g7' := grown_of_drew g7
          have hst7 := HS6.out.putm HOK2.out g7' h7
          rw [phS_use] at hst7
          have HE7 := Lib.hid (show St U w7 base B bl.length 0 c (phS (setsPh bl k ++ (setsB k b).take (j + 1)) (usesPh bl E k ++ (b.phis.take j).flatMap (fun p => p.ins.flatMap (pairsIn bl E k)) ++ (p.ins.take (z + 1)).flatMap (pairsIn bl E k))) vi (LI E) vg gr from by
            rw [HXQ.out, HYES.out ⟨trivial, trivial⟩, ← List.append_assoc]
            exact hst7)
          have HO7 := Lib.hid (own_kept HO6.out g7' (Ne.symm (HOB.out.2 _ HOK2.out)))
          have HP7 := Lib.hid (own_kept HP6.out g7' (Ne.symm (HCP.out.1 _ HOK2.out)))
          have HB7 := Lib.hid (show Below base W w7 from HB6.out.grown g7' (by omega) (fun j e => by cases e; exact HSr.out.mb _ HOK2.out))
          clear h7 g7 g7' hst7 q1 q2 q3 c4
          go_wp2_with fail
          go_roundw
          case rel => exact ⟨z + 1, by omega, by go_num, HE7, HO7, HP7, HB7⟩
          case measure => simp [intOf]; omega
        · have HE7 := Lib.hid (show St U w6 base B bl.length 0 c (phS (setsPh bl k ++ (setsB k b).take (j + 1)) (usesPh bl E k ++ (b.phis.take j).flatMap (fun p => p.ins.flatMap (pairsIn bl E k)) ++ (p.ins.take (z + 1)).flatMap (pairsIn bl E k))) vi (LI E) vg gr from by
            rw [HXQ.out, HNO.out hgo, List.append_nil]
            exact HS6.out)
          cases td <;> cases ld
          all_goals try exact absurd ⟨rfl, rfl⟩ hgo
          all_goals go_wp2_with fail
          all_goals go_roundw
          all_goals first | exact ⟨z + 1, by omega, by go_num, HE7, HO6, HP6, HB6⟩ | (simp [intOf]; omega)
      · obtain rfl : z = p.ins.length := by omega
        have HE8 := Lib.hid (show St U wr base B bl.length 0 c (phS (setsPh bl k ++ (setsB k b).take (j + 1)) (usesPh bl E k ++ (b.phis.take (j + 1)).flatMap (fun p => p.ins.flatMap (pairsIn bl E k)))) vi (LI E) vg gr from by
          rw [flat_next HXP.out, ← List.append_assoc]
          have := HSr.out
          rw [List.take_length] at this
          exact this)
        go_wp2_with fail
        go_roundw
        case rel => exact ⟨j + 1, by omega, by go_num, HE8, HOr, HBr⟩
        case measure => simp [intOf]; omega
    · obtain rfl : j = b.phis.length := by omega
      have HE9 := Lib.hid (show St U wr base B bl.length 0 c (phS (setsPh bl (k + 1)) (usesPh bl E (k + 1))) vi (LI E) vg gr from by
        rw [setsPh_next HX.out, usesPh_next HX.out]
        have := HSr.out
        rw [List.take_length, List.take_of_length_le (by unfold setsB; rw [List.length_map]; exact Nat.le_refl _)] at this
        exact this)
      go_wp2_with fail
      go_roundw
      case rel => exact ⟨k + 1, by omega, by go_num, HE9, HOr, HBr⟩
      case measure => simp [intOf]; omega
  · obtain rfl : k = bl.length := by omega
    go_wp2_with fail
    go_end0
    exact ⟨rfl, HSr.out, HB.out.trans HBr.out⟩
end Go.Proofs.Ytaeklfljibjpiaa.Lv12
