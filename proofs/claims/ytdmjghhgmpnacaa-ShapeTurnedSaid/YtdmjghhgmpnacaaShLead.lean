/-
  Layer 8: which blocks lead to each one.
-/
import Derived.Test.YtdmjghhgmpnacaaShOne
namespace Go.Proofs.Ytdmjghhgmpnacaa.Sh8
open Go.RowKit Api Mem Go.Maps

theorem info_names : (Try.prog.info? 60).map (fun i => (i.zero, i.size, i.bytes)) = some (some (.map none), 1, 8) := by kernel_rfl
/-- the names of those that lead to x, of so many blocks and their ends. -/
def led (done : List (Wd × List Wd)) (x : Wd) : List Wd := (done.filter fun d => decide (x ∈ d.2)).map (·.1)
def whole (bl : List Bl) : List (Wd × List Wd) := bl.map fun b => (b.name, b.fin.dest)
theorem led_snoc (d : List (Wd × List Wd)) (e : Wd × List Wd) (x : Wd) : led (d ++ [e]) x = led d x ++ (if x ∈ e.2 then [e.1] else []) := by
  unfold led
  rw [List.filter_append, List.map_append]
  by_cases h : x ∈ e.2
  · simp [h]
  · simp [h]
theorem led_step (d : List (Wd × List Wd)) (n : Wd) (to : List Wd) (y x : Wd) (hy : y ∉ to) : led (d ++ [(n, to ++ [y])]) x = if x = y then led (d ++ [(n, to)]) x ++ [n] else led (d ++ [(n, to)]) x := by
  rw [led_snoc, led_snoc]
  by_cases e : x = y
  · subst e
    simp [hy]
  · simp [e]
theorem led_len (d : List (Wd × List Wd)) (x : Wd) : (led d x).length ≤ d.length := by
  unfold led
  rw [List.length_map]
  exact List.length_filter_le _ _
theorem led_empty (d : List (Wd × List Wd)) (n : Wd) (x : Wd) : led (d ++ [(n, [])]) x = led d x := by
  rw [led_snoc]
  simp
/-- the maps: for each place the names of those that lead there. -/
def Sets (w : World) (gf : Nat) (L : List Nat) (ns : List Wd) (d : List (Wd × List Wd)) : Prop :=
  L.length = ns.length ∧ L.Nodup ∧ ∀ (i : Nat) (g : Nat) (x : Wd), L[i]? = some g → ns[i]? = some x → gf < g ∧ w.ownsMap Try.prog 9 unitElem g (led d x).length (setD (led d x))
theorem Sets.alloc {w : World} {gf : Nat} {L : List Nat} {ns : List Wd} {d : List (Wd × List Wd)} (h : Sets w gf L ns d) (o : Obj) : Sets (w.alloc o) gf L ns d :=
  ⟨h.1, h.2.1, fun i g x h1 h2 => ⟨(h.2.2 i g x h1 h2).1, (h.2.2 i g x h1 h2).2.alloc o⟩⟩
theorem Sets.drew {w : World} {gf : Nat} {L : List Nat} {ns : List Wd} {d : List (Wd × List Wd)} (h : Sets w gf L ns d) : Sets w.drew gf L ns d :=
  ⟨h.1, h.2.1, fun i g x h1 h2 => ⟨(h.2.2 i g x h1 h2).1, (h.2.2 i g x h1 h2).2.drew⟩⟩
theorem owns_size {P : Program} {k : TypeId} {R : Value → Option (DataW Unit × List MemPlace)} {w : World} {b n : Nat} {D : DataW Unit} (h : w.ownsMap P k R b n D) : w.ownsMap P k R b (Go.Maps.size D) D := by
  obtain ⟨es, clock, h1, h2, h3, h4⟩ := h
  refine ⟨es, clock, h1, h2, ?_, h4⟩
  rw [h4]
  simp [Go.Maps.size, length_sorted]
theorem Sets.put {w w' : World} {gf : Nat} {L : List Nat} {ns : List Wd} {d : List (Wd × List Wd)} {n : Wd} {to : List Wd} {y : Wd} {p g : Nat} (h : Sets w gf L ns (d ++ [(n, to)])) (hn : ns.Nodup) (hy : y ∉ to) (hp : ns[p]? = some y) (hg : L[p]? = some g)
    (ho : w'.ownsMap Try.prog 9 unitElem g ((led (d ++ [(n, to)]) y).length + 1) ((setD (led (d ++ [(n, to)]) y)).put (kS n) (.agg []))) (hw : w.grownBy w' (some g)) : Sets w' gf L ns (d ++ [(n, to ++ [y])]) := by
  refine ⟨h.1, h.2.1, fun i g2 x h1 h2 => ?_⟩
  obtain ⟨hp1, hp2⟩ := List.getElem?_eq_some_iff.1 hp
  by_cases e : i = p
  · subst e
    rw [hp] at h2
    cases h2
    rw [hg] at h1
    cases h1
    refine ⟨(h.2.2 i g y hg hp).1, ?_⟩
    rw [led_step _ _ _ _ _ hy, if_pos rfl, setD_snoc, List.length_append, List.length_singleton]
    exact ho
  · have hne : x ≠ y := by
      intro e2
      subst e2
      have := (plc_nodup hn h2).symm.trans (plc_nodup hn hp)
      cases this
      exact e rfl
    have hg2 : g2 ≠ g := by
      intro e2
      subst e2
      obtain ⟨q1, q2⟩ := List.getElem?_eq_some_iff.1 h1
      obtain ⟨q3, q4⟩ := List.getElem?_eq_some_iff.1 hg
      have hpw := List.nodup_iff_pairwise_ne.1 h.2.1
      rcases Nat.lt_or_gt_of_ne e with hlt | hlt
      · exact (List.pairwise_iff_getElem.1 hpw i p q1 q3 hlt) (q2.trans q4.symm)
      · exact (List.pairwise_iff_getElem.1 hpw p i q3 q1 hlt) (q4.trans q2.symm)
    rw [led_step _ _ _ _ _ hy, if_neg hne]
    obtain ⟨r1, r2⟩ := h.2.2 i g2 x h1 h2
    exact ⟨r1, r2.kept hw (fun e3 => hg2 (by injection e3))⟩
theorem whole_take {bl : List Bl} {k : Nat} {b : Bl} (hx : bl[k]? = some b) : whole (bl.take (k + 1)) = whole (bl.take k) ++ [(b.name, b.fin.dest)] := by
  obtain ⟨hk, e⟩ := List.getElem?_eq_some_iff.1 hx
  rw [List.take_succ_eq_append_getElem hk, e]
  simp [whole]
/-- so many maps are made, none of which has a name. -/
def Fresh (w : World) (gf n k : Nat) (L : List Nat) : Prop :=
  Own w gf 60 ((L.map fun g => .map (some g)) ++ List.replicate (n - k) (.map none)) ∧ L.length = k ∧ L.Nodup ∧ ∀ g ∈ L, gf < g ∧ g < w.heap.size ∧ w.ownsMap Try.prog 9 unitElem g 0 (setD [])
theorem fresh_start (w : World) (n : Nat) : Fresh (w.alloc (.cells (Array.replicate n (.map none)) 60)) w.heap.size n 0 [] := by
  refine ⟨?_, rfl, List.nodup_nil, fun g hg => by cases hg⟩
  have := Own.made w 60 (List.replicate n (.map none))
  simpa using this
theorem Fresh.here {w : World} {gf n k : Nat} {L : List Nat} (h : Fresh w gf n k L) (hk : k < n) : w.cell? ⟨gf, k, none⟩ = some (.map none) := by
  obtain ⟨h1, h2, h3, h4⟩ := h
  rw [h1.cell, List.getElem?_append_right (by simp [h2]), List.length_map, h2, Nat.sub_self, List.getElem?_replicate, if_pos (by omega)]
theorem Fresh.next {w : World} {gf n k : Nat} {L : List Nat} (h : Fresh w gf n k L) (hk : k < n) : Fresh ((w.setCell ⟨gf, k, none⟩ (.map (some w.heap.size))).alloc (.map #[] 0)) gf n (k + 1) (L ++ [w.heap.size]) := by
  obtain ⟨h1, h2, h3, h4⟩ := h
  have hlt := h1.lt
  have hsz : (w.setCell ⟨gf, k, none⟩ (.map (some w.heap.size))).heap.size = w.heap.size := by simp
  refine ⟨?_, by simp [h2], List.nodup_append.2 ⟨h3, by simp, fun a ha b hb e => ?_⟩, fun g hg => ?_⟩
  · have := (h1.store k (.map (some w.heap.size))).alloc (.map #[] 0)
    have e : n - k = (n - (k + 1)) + 1 := by omega
    rw [e, List.replicate_succ, List.set_append_right _ _ (by simp [h2])] at this
    simp only [List.length_map, h2, Nat.sub_self, List.set_cons_zero] at this
    simpa using this
  · simp at hb
    subst hb
    have := (h4 a ha).2.1
    omega
  · rcases List.mem_append.1 hg with hg | hg
    · obtain ⟨q1, q2, q3⟩ := h4 g hg
      exact ⟨q1, by simp; omega, (q3.setCell (show g ≠ gf by omega) _).alloc _⟩
    · simp at hg
      subst hg
      refine ⟨hlt, by simp, ?_⟩
      have := World.ownsMap_made (H := Unit) (w.setCell ⟨gf, k, none⟩ (.map (some w.heap.size))) Try.prog 9 unitElem
      rw [hsz] at this
      exact this
theorem Fresh.sets {w : World} {gf n : Nat} {L : List Nat} {ns : List Wd} (h : Fresh w gf n n L) (hn : ns.length = n) : Own w gf 60 (L.map fun g => .map (some g)) ∧ Sets w gf L ns [] := by
  obtain ⟨h1, h2, h3, h4⟩ := h
  rw [Nat.sub_self, List.replicate_zero, List.append_nil] at h1
  exact ⟨h1, by omega, h3, fun i g x hg _ => ⟨(h4 g (List.mem_of_getElem? hg)).1, (h4 g (List.mem_of_getElem? hg)).2.2⟩⟩
set_option maxRecDepth 100000 in
set_option maxHeartbeats 8000000 in
theorem lead_any (lo hi : Nat) (w : World) (cs : List Value) (f : Api.Func) (hf : FuncC lo hi w cs f) (hh : hi ≤ w.heap.size) (hn : f.blocks.length ≤ 1099511627776) (hG1 : nmG f.blocks) (hG : toG f.blocks) (hR : RightP f.blocks) :
    Calls Try.prog 22 #[.agg cs.toArray] w fun e w' => ∃ (gf : Nat) (L : List Nat), e = .returned (.slice (some ⟨gf, 0, none⟩) f.blocks.length f.blocks.length) ∧ w.heap.size ≤ gf ∧ Own w' gf 60 (L.map fun g => .map (some g)) ∧ Sets w' gf L (names f.blocks) (whole f.blocks) ∧ Below w.heap.size w w' := by
  have hfc := hf
  obtain ⟨u1, u2, u3, rfl, kp, kv, kb⟩ := hf
  obtain ⟨nm, rs, ps, vs, bl⟩ := f
  simp only at kp kv kb hG hG1 hn hfc hR ⊢
  obtain ⟨A1, k1, rfl⟩ := kp.form
  obtain ⟨A2, k2, rfl⟩ := kv.form
  obtain ⟨A3, k3, rfl⟩ := kb.form
  obtain ⟨W, hW⟩ : ∃ W, w.alloc (.cells #[str nm, str rs, .slice A1 ps.length k1, .slice A2 vs.length k2, .slice A3 bl.length k3] 25) = W := ⟨_, rfl⟩
  obtain ⟨o1, b1, z1⟩ := box8 (c := [str nm, str rs, .slice A1 ps.length k1, .slice A2 vs.length k2, .slice A3 bl.length k3]) hW
  have hlb : bl.length ≤ 4611686018427387903 := by obtain ⟨_, _, _, h, _⟩ := kb.get; exact h
  have KB := Lib.hid (Blocks.move (Still.of_below (b1.mono hh)) kb)
  have HO := Lib.hid o1
  have HB := Lib.hid b1
  have HW := Lib.hid hW
  have HHW : Hid (hi ≤ W.heap.size) := Lib.hid (by omega)
  have GB := Lib.hid hG
  have zlt := o1.lt
  clear o1 b1 hW kp kv kb hG
  have HF := Lib.hid (FuncC.move (Still.of_below (HB.out.mono hh)) hfc)
  have HN := Lib.hid hn
  have HG1 := Lib.hid hG1
  have HRT := Lib.hid hR
  have hlb2 := hn
  have QP := Lib.hid (places_any lo hi W _ _ HF.out HHW.out HG1.out)
  have hmm := fun (w : World) => run_row (P := Try.prog) (t := 56) Try.underlying56 info_names rfl (by decide) bl.length hn w
  have hmk := @run_makeMap Try.prog
  clear hfc hn hG1 hR
  go_enter Try.func22, Try.ntmps22
  go_wp2_with fail
  rw [HW.out]
  have f0 := HO.out.cell 0
  have f1 := HO.out.cell 1
  have f2 := HO.out.cell 2
  have f3 := HO.out.cell 3
  have f4 := HO.out.cell 4
  simp only [List.getElem?_cons_succ, List.getElem?_cons_zero] at f0 f1 f2 f3 f4
  go_wp2_with fail
  refine QP.out.mono ?_
  rintro e w5 ⟨ga, rfl, hga, hm5, hb5⟩
  have HM := Lib.hid hm5
  have HB5 := Lib.hid hb5
  have HO5 := Lib.hid (HO.out.below hb5 HO.out.lt)
  clear f0 f1 f2 f3 f4 hm5 hb5
  have f4' := HO5.out.cell 4
  simp only [List.getElem?_cons_succ, List.getElem?_cons_zero] at f4'
  have zl5 := HO5.out.lt
  go_wp2_with fail
  go_loopw [21] (fun i wr => ∃ (k : Nat) (L : List Nat), k ≤ bl.length ∧ i = .int .i64 k ∧ Hid (Fresh wr w5.heap.size bl.length k L) ∧ Hid (Below w5.heap.size w5 wr)) (fun i _ => bl.length - (intOf i).toNat)
  case atStart => exact ⟨0, [], Nat.zero_le _, rfl, Lib.hid (fresh_start w5 _), Lib.hid ((Below.refl _ _).alloc (Nat.le_refl _) _)⟩
  case round =>
  obtain ⟨k, L, hk, rfl, HFR, HBr⟩ := hrel
  clear f4'
  by_cases hlt : k < bl.length
  · have ylt := HFR.out.1.lt
    have t0 := HFR.out.1.thaw k
    have c0 := HFR.out.here hlt
    have HNX := Lib.hid (HFR.out.next hlt)
    have HB9 : Hid (Below w5.heap.size w5 ((wr.setCell ⟨w5.heap.size, k, none⟩ (.map (some wr.heap.size))).alloc (.map #[] 0))) := Lib.hid ((HBr.out.setCell (p := ⟨w5.heap.size, k, none⟩) (Nat.le_refl _) _).alloc (by simpa using HBr.out.size) _)
    go_wp2_with fail
    go_roundw
    case rel => exact ⟨k + 1, L ++ [wr.heap.size], by omega, by go_num, HNX, HB9⟩
    case measure => simp [intOf]; omega
  · obtain rfl : k = bl.length := by omega
    obtain ⟨hs1, hs2⟩ := HFR.out.sets (names_len bl)
    have HS1 := Lib.hid hs1
    have HS2 := Lib.hid hs2
    have f4 := (HO5.out.below HBr.out HO5.out.lt).cell 4
    simp only [List.getElem?_cons_succ, List.getElem?_cons_zero] at f4
    clear hs1 hs2
    go_wp2_with fail
    have HFRB := Lib.hid HBr.out
    go_loopw [32] (fun i wr => ∃ (k : Nat), k ≤ bl.length ∧ i = .int .i64 k ∧ Hid (Own wr w5.heap.size 60 (L.map fun g => .map (some g))) ∧ Hid (Sets wr w5.heap.size L (names bl) (whole (bl.take k))) ∧ Hid (Below w5.heap.size w5 wr)) (fun i _ => bl.length - (intOf i).toNat)
    case atStart => exact ⟨0, Nat.zero_le _, rfl, HS1, Lib.hid (by simpa [whole] using HS2.out), HBr⟩
    case round =>
    clear HFRB HS1 HS2 HBr HFR f4 hlt hk
    obtain ⟨k, hk, rfl, HR, HS, HBr⟩ := hrel
    by_cases hlt : k < bl.length
    · have HBW := Lib.hid (HB5.out.trans (HBr.out.mono HB5.out.size))
      obtain ⟨⟨bn, phs, cod, ⟨tk, ⟨ak, as_, an⟩, td, tn⟩⟩, hx⟩ : ∃ y, bl[k]? = some y := ⟨_, List.getElem?_eq_getElem (by omega)⟩
      obtain ⟨b3, of3, hn3, hm3, a3, j3⟩ := KB.out.get
      obtain ⟨rfl, _, hb3⟩ := a3 (by omega)
      obtain ⟨cs3, _, q3, hu⟩ := j3 k _ hx
      obtain ⟨x1, x2, x3, e1', kph, kco, x4, e2', kto⟩ := hu
      subst e2'
      subst e1'
      obtain ⟨m0, m1, m2, m3, m4, m5, m6, m7, m8⟩ := at9 (cells_later q3 HBW.out (by have := HHW.out; omega))
      obtain ⟨At, kt, rfl⟩ := Row.form kto
      obtain ⟨A5, k5, rfl⟩ := Row.form kph
      obtain ⟨A6, k6, rfl⟩ := Row.form kco
      have htl : td.length ≤ 4611686018427387903 := by obtain ⟨_, _, _, h, _⟩ := kto.get; exact h
      have HX := Lib.hid hx
      have KT := Lib.hid kto
      have HKN := Lib.hid (key_at (HG1.out _ (List.mem_of_getElem? hx)))
      have HEN := Lib.hid (HRT.out.2.2.1 _ (List.mem_of_getElem? hx))
      clear q3 j3 a3 hx kph kco kto
      have HBX := Lib.hid (Own.made wr 40 [str bn, .slice A5 phs.length k5, .slice A6 cod.length k6, i64 tk, i64 ak, str as_, i64 an, .slice At td.length kt, i64 tn])
      have HRX := Lib.hid (HR.out.alloc (.cells #[str bn, .slice A5 phs.length k5, .slice A6 cod.length k6, i64 tk, i64 ak, str as_, i64 an, .slice At td.length kt, i64 tn] 40))
      have HSX := Lib.hid (HS.out.alloc (.cells #[str bn, .slice A5 phs.length k5, .slice A6 cod.length k6, i64 tk, i64 ak, str as_, i64 an, .slice At td.length kt, i64 tn] 40))
      have HBZ := Lib.hid (HBr.out.alloc HBr.out.size (.cells #[str bn, .slice A5 phs.length k5, .slice A6 cod.length k6, i64 tk, i64 ak, str as_, i64 an, .slice At td.length kt, i64 tn] 40))
      have c0 := HBX.out.cell 0
      have c7 := HBX.out.cell 7
      simp only [List.getElem?_cons_succ, List.getElem?_cons_zero] at c0 c7
      go_wp2_with fail
      obtain ⟨gb, hgb⟩ : ∃ gb, wr.heap.size = gb := ⟨_, rfl⟩
      have hgf : w5.heap.size < gb := by rw [← hgb]; exact HR.out.lt
      rw [hgb] at HBX c0 c7
      simp only [hgb]
      go_loopw [40] (fun i wr2 => ∃ (j : Nat), j ≤ td.length ∧ i = .int .i64 j ∧ Hid (Own wr2 w5.heap.size 60 (L.map fun g => .map (some g))) ∧ Hid (Own wr2 gb 40 [str bn, .slice A5 phs.length k5, .slice A6 cod.length k6, i64 tk, i64 ak, str as_, i64 an, .slice At td.length kt, i64 tn]) ∧ Hid (Sets wr2 w5.heap.size L (names bl) (whole (bl.take k) ++ [(bn, td.take j)])) ∧ Hid (Below w5.heap.size w5 wr2)) (fun i _ => td.length - (intOf i).toNat)
      case atStart => exact ⟨0, Nat.zero_le _, rfl, HRX, HBX, Lib.hid (by
        obtain ⟨q1, q2, q3⟩ := HSX.out
        refine ⟨q1, q2, fun i g x h1 h2 => ?_⟩
        rw [List.take_zero, led_empty]
        exact q3 i g x h1 h2), HBZ⟩
      case round =>
      obtain ⟨j, hj, rfl, HR2, HX2, HS2, HBr2⟩ := hrel
      clear c0 c7 HRX HSX HBX HBZ m0 m1 m2 m3 m4 m5 m6 m7 m8
      by_cases hlt2 : j < td.length
      · obtain ⟨x, hxj⟩ : ∃ y, td[j]? = some y := ⟨_, List.getElem?_eq_getElem hlt2⟩
        have HBW2 := Lib.hid (HB5.out.trans (HBr2.out.mono HB5.out.size))
        have kt2 := KT.out
        obtain ⟨b5, of5, hn5, hm5, a5, j5⟩ := Row.get kt2
        obtain ⟨rfl, _, hb5⟩ := a5 (by omega)
        obtain ⟨cs5, _, q5, hu5⟩ := j5 j _ hxj
        subst hu5
        have n0 := cells_later q5 HBW2.out (by have := HHW.out; omega) 0 _ rfl
        simp only [Nat.mul_one, Nat.add_zero] at n0
        clear q5 j5 a5 kt2
        have HKEY := Lib.hid (key_at (GB.out _ (List.mem_of_getElem? HX.out) _ (List.mem_of_getElem? hxj)))
        have HMW := Lib.hid (owns_below HM.out HBr2.out HM.out.lt)
        obtain ⟨p, hp⟩ := plc_mem ((HEN.out).2 x (List.mem_of_getElem? hxj)).1
        obtain ⟨g, hg⟩ : ∃ g, L[p]? = some g := ⟨_, List.getElem?_eq_getElem (by rw [HS2.out.1]; exact plc_lt hp)⟩
        have hpl : p < bl.length := by have := plc_lt hp; rwa [names_len] at this
        have HT := Lib.hid (tab_found hp)
        have hnot : x ∉ td.take j := fun hm => end_bad (ns := names bl) hxj (.inr (.inr hm)) HEN.out
        have hown := (HS2.out.2.2 p g x hg (plc_at hp)).2
        have hll := led_len (whole (bl.take k) ++ [(bn, td.take j)]) x
        have hwl : (whole (bl.take k) ++ [(bn, td.take j)]).length = k + 1 := by simp [whole]; omega
        obtain ⟨w9, hrun, hown9, hg9⟩ := (hown.drew).update (t := 60) lawS Try.underlying60 (by unfold maxLen; omega) HKN.out unitElem_mk
        have hne : g ≠ gb := by
          obtain ⟨es, clock, h1, _⟩ := hown
          intro e
          subst e
          have h2 := HX2.out
          unfold Own at h2
          rw [h1] at h2
          cases h2
        have hne2 : g ≠ w5.heap.size := by have := (HS2.out.2.2 p g x hg (plc_at hp)).1; omega
        have cg := (HR2.out.cell p).trans (show _ = some (Value.map (some g)) by rw [List.getElem?_map, hg]; rfl)
        have c0 := HX2.out.cell 0
        simp only [List.getElem?_cons_zero] at c0
        have xlt := HX2.out.lt
        have HNX := Lib.hid (HS2.out.drew.put HRT.out.2.1 hnot (plc_at hp) hg hown9 hg9)
        have HR3 := Lib.hid (own_grown HR2.out.drew hg9 (fun e => hne2 (by injection e)))
        have HX3 := Lib.hid (own_grown HX2.out.drew hg9 (fun e => hne (by injection e)))
        have HB3 := Lib.hid ((HBr2.out.drew).grown hg9 HBr2.out.size (fun q hq => by cases hq; have := (HS2.out.2.2 p g x hg (plc_at hp)).1; omega))
        have HTK : Hid (td.take (j + 1) = td.take j ++ [x]) := Lib.hid (by
          obtain ⟨hj9, e9⟩ := List.getElem?_eq_some_iff.1 hxj
          rw [List.take_succ_eq_append_getElem hj9, e9])
        clear hxj hp hg hnot hown hll hwl hown9 hg9 hne hne2
        go_wp2_with (first | (at_lookup; refine look_ok _ rfl _ _ 52 rfl 9 3 lawS Try.underlying52 Try.underlying3 (zeroI _) ga bl.length _ rfl HMW.out _ _ rfl HKEY.out _ HT.out.1 _ HT.out.2 ?_) | go_in)
        go_region
        clear hrun cg c0 n0
        go_wp2_with fail
        go_roundw
        case rel => exact ⟨j + 1, by omega, by go_num, HR3, HX3, Lib.hid (by rw [HTK.out]; exact HNX.out), HB3⟩
        case measure => simp [intOf]; omega
      · have HNX := Lib.hid (show Sets wr w5.heap.size L (names bl) (whole (bl.take (k + 1))) by
          have := HS2.out
          rw [show td.take j = td from List.take_of_length_le (by omega)] at this
          rw [whole_take HX.out]
          exact this)
        go_wp2_with fail
        go_roundw
        case rel => exact ⟨k + 1, by omega, by go_num, HR2, HNX, HBr2⟩
        case measure => simp [intOf]; omega
    · have HNX := Lib.hid (show Sets wr w5.heap.size L (names bl) (whole bl) by
        have := HS.out
        rwa [List.take_of_length_le (by omega)] at this)
      go_wp2_with fail
      go_ret
      exact ⟨w5.heap.size, L, rfl, Nat.le_trans HB.out.size HB5.out.size, HR.out, HNX.out, HB.out.trans ((HB5.out.trans (HBr.out.mono HB5.out.size)).mono HB.out.size)⟩
end Go.Proofs.Ytdmjghhgmpnacaa.Sh8
