/-
  Layer 9: package flow's Of, and the document's.
-/
import Derived.Test.YtnonbkaanplcjaaFlPlaces
import Derived.Test.YtnonbkaanplcjaaShRef
import Derived.Test.YtnonbkaanplcjaaShEnds
namespace Go.Proofs.Ytnonbkaanplcjaa.Fl9
open Go.RowKit Api Mem Go.Maps Sh8

/-- the places of the names in one end. -/
def toL (ns : List Wd) (l : List Wd) : List Int := l.map fun x => ((plN (plc ns x) : Nat) : Int)
def ofV (bl : List Bl) : List (List Int) := bl.map fun b => toL (names bl) b.fin.dest
/-- the first k of them, and nothing of the others. -/
def ofK (bl : List Bl) (k : Nat) : List (List Int) := (ofV bl).take k ++ List.replicate (bl.length - k) []
theorem ofV_len (bl : List Bl) : (ofV bl).length = bl.length := by simp [ofV]
theorem ofK_len {bl : List Bl} {k : Nat} (h : k ≤ bl.length) : (ofK bl k).length = bl.length := by simp [ofK, ofV_len]; omega
theorem ofK_zero (bl : List Bl) : ofK bl 0 = List.replicate bl.length [] := by simp [ofK]
theorem ofK_end (bl : List Bl) : ofK bl bl.length = ofV bl := by simp [ofK, List.take_of_length_le (Nat.le_of_eq (ofV_len bl))]
theorem ofV_at {bl : List Bl} {k : Nat} {b : Bl} (h : bl[k]? = some b) : (ofV bl)[k]? = some (toL (names bl) b.fin.dest) := by simp [ofV, h]
theorem ofK_at {bl : List Bl} {k : Nat} (h : k < bl.length) : (ofK bl k)[k]? = some [] := by
  unfold ofK
  have hl : ((ofV bl).take k).length = k := by rw [List.length_take, ofV_len]; omega
  rw [List.getElem?_append_right (by omega), hl, Nat.sub_self, List.getElem?_replicate, if_pos (by omega)]
theorem ofK_next {bl : List Bl} {k : Nat} {b : Bl} (h : bl[k]? = some b) : (ofK bl k).set k (toL (names bl) b.fin.dest) = ofK bl (k + 1) := by
  obtain ⟨hk, e⟩ := List.getElem?_eq_some_iff.1 h
  obtain ⟨hk2, e2⟩ := List.getElem?_eq_some_iff.1 (ofV_at h)
  have hl : ((ofV bl).take k).length = k := by rw [List.length_take, ofV_len]; omega
  unfold ofK
  rw [List.set_append_right _ _ (by omega), hl, Nat.sub_self, show bl.length - k = (bl.length - (k + 1)) + 1 by omega, List.replicate_succ, List.set_cons_zero, List.take_succ_eq_append_getElem hk2, e2, List.append_assoc]
  rfl
theorem toL_next {ns l : List Wd} {j : Nat} {x : Wd} (h : l[j]? = some x) : toL ns (l.take (j + 1)) = toL ns (l.take j) ++ [((plN (plc ns x) : Nat) : Int)] := by
  obtain ⟨h1, h2⟩ := List.getElem?_eq_some_iff.1 h
  unfold toL
  rw [List.take_succ_eq_append_getElem h1, h2, List.map_append]
  rfl
theorem plc_some : ∀ {ns : List Wd} {x : Wd}, x ∈ ns → ∃ k, plc ns x = some k
  | [], _, h => by cases h
  | y :: r, x, h => by
    unfold plc
    by_cases e : y = x
    · exact ⟨0, by rw [if_pos e]⟩
    · rw [if_neg e]
      obtain ⟨k, hk⟩ := plc_some (ns := r) ((List.mem_cons.1 h).resolve_left (fun e2 => e e2.symm))
      exact ⟨k + 1, by rw [hk]; rfl⟩
theorem take_next9 {α : Type} {l : List α} {k : Nat} {x : α} (h : l[k]? = some x) : l.take k ++ [x] = l.take (k + 1) := by
  obtain ⟨h1, h2⟩ := List.getElem?_eq_some_iff.1 h
  rw [List.take_succ_eq_append_getElem h1, h2]
abbrev allG (bl : List Bl) : Prop := ∀ b ∈ bl, ∀ x ∈ b.fin.dest, x ∈ names bl
abbrev fewT (bl : List Bl) : Prop := ∀ b ∈ bl, b.fin.dest.length ≤ 8
set_option maxRecDepth 100000 in
set_option maxHeartbeats 8000000 in
theorem of_any9 (lo hi : Nat) (w : World) (cs : List Value) (f : Api.Func) (hf : FuncC lo hi w cs f) (hh : hi ≤ w.heap.size) (hn : f.blocks.length ≤ 60) (hG : nmG f.blocks) (hTG : toG f.blocks) (hA : allG f.blocks) (hT : fewT f.blocks) :
    Calls Try.prog 12 #[.agg cs.toArray] w (GP (ofV f.blocks) w) := by
  have hf0 := hf
  obtain ⟨u1, u2, u3, rfl, kp, kv, kb⟩ := hf
  obtain ⟨nm, rs, ps, vs, bl⟩ := f
  simp only at hn kp kv kb hG hTG hA hT ⊢
  obtain ⟨A1, k1, rfl⟩ := kp.form
  obtain ⟨A2, k2, rfl⟩ := kv.form
  obtain ⟨A3, k3, rfl⟩ := kb.form
  obtain ⟨W, hW⟩ : ∃ W, w.alloc (.cells #[str nm, str rs, .slice A1 ps.length k1, .slice A2 vs.length k2, .slice A3 bl.length k3] 25) = W := ⟨_, rfl⟩
  obtain ⟨o1, b1, z1⟩ := box8 (c := [str nm, str rs, .slice A1 ps.length k1, .slice A2 vs.length k2, .slice A3 bl.length k3]) hW
  have hlb : bl.length ≤ 4611686018427387903 := by obtain ⟨_, _, _, h, _⟩ := kb.get; exact h
  have KB := Lib.hid (Blocks.move (Still.of_below (b1.mono hh)) kb)
  have HO := Lib.hid o1
  have HB := Lib.hid b1
  have HW := Lib.hid hW
  have HHW : Hid (hi ≤ W.heap.size) := Lib.hid (by omega)
  have GB := Lib.hid hG
  have zlt := o1.lt
  clear o1 b1 hW kp kv kb hG
  have HF := Lib.hid hf0
  have HA := Lib.hid hA
  have HT := Lib.hid hT
  have HTG := Lib.hid hTG
  clear hf0 hA hT hTG
  have QP := Lib.hid (fplaces_any lo hi W _ _ (FuncC.move (Still.of_below (HB.out.mono hh)) HF.out) HHW.out GB.out)
  go_enter Try.func12, Try.ntmps12
  go_wp2_with fail
  rw [HW.out]
  have f0 := HO.out.cell 0
  have f1 := HO.out.cell 1
  have f2 := HO.out.cell 2
  have f3 := HO.out.cell 3
  have f4 := HO.out.cell 4
  simp only [List.getElem?_cons_succ, List.getElem?_cons_zero] at f0 f1 f2 f3 f4
  go_wp2_with fail
  refine QP.out.mono ?_
  rintro e w1 ⟨gm, rfl, hgm, hom, hb⟩
  have HM1 := Lib.hid hom
  have HU1 := Lib.hid hb
  have HO1 := Lib.hid (HO.out.below hb HO.out.lt)
  have HGM := Lib.hid (show gm < w1.heap.size by obtain ⟨_, _, h1, _⟩ := hom; exact (Array.getElem?_eq_some_iff.1 h1).1)
  clear hb hom f0 f1 f2 f3 f4
  have f0 := HO1.out.cell 0
  have f1 := HO1.out.cell 1
  have f2 := HO1.out.cell 2
  have f3 := HO1.out.cell 3
  have f4 := HO1.out.cell 4
  simp only [List.getElem?_cons_succ, List.getElem?_cons_zero] at f0 f1 f2 f3 f4
  have hmm := fun (w : World) => run_row9 (P := Try.prog) (t := 29) Try.underlying29 info_row9 rfl (by decide) bl.length (by omega) w
  obtain ⟨W2, hW2⟩ : ∃ W, w1.alloc (.cells (List.replicate bl.length (.slice none 0 0)).toArray 33) = W := ⟨_, rfl⟩
  have HGO := Lib.hid (show GOwn W2 w1.heap.size (.slice (some ⟨w1.heap.size, 0, none⟩) bl.length bl.length) (List.replicate bl.length []) by rw [← hW2]; exact gown_made bl.length w1.heap.size rfl (by omega))
  have HU2 := Lib.hid (show Below w1.heap.size w1 W2 by rw [← hW2]; exact (Below.refl _ _).alloc (Nat.le_refl _) _)
  have hW3 : w1.alloc (.cells (Array.replicate bl.length (.slice none 0 0)) 33) = W2 := by rw [← hW2]; simp
  have f5 : (w1.alloc (.cells (Array.replicate bl.length (.slice none 0 0)) 33)).cell? ⟨w.heap.size, 4, none⟩ = some (.slice A3 bl.length k3) := by
    have := (HO1.out.below (hW3 ▸ HU2.out) HO1.out.lt).cell 4
    exact this
  have HW3 := Lib.hid hW3
  clear hW2 hW3
  go_wp2_with fail
  rw [HW3.out]
  clear f0 f1 f2 f3 f4 f5
  go_loopw [19] (fun i wr => ∃ k : Nat, k ≤ bl.length ∧ i = .int .i64 k ∧ Hid (GOwn wr w1.heap.size (.slice (some ⟨w1.heap.size, 0, none⟩) bl.length bl.length) (ofK bl k)) ∧ Hid (Below w1.heap.size w1 wr)) (fun i _ => bl.length - (intOf i).toNat)
  case atStart => exact ⟨0, Nat.zero_le _, rfl, by rw [ofK_zero]; exact HGO, HU2⟩
  case round =>
  obtain ⟨k, hk, rfl, HGO, HUr⟩ := hrel
  have HBr := Lib.hid (HU1.out.trans (HUr.out.mono HU1.out.size))
  by_cases hlt : k < bl.length
  · obtain ⟨⟨bn, phs, cod, ⟨tk, ⟨ak, as_, an⟩, td, tn⟩⟩, hx⟩ : ∃ y, bl[k]? = some y := ⟨_, List.getElem?_eq_getElem hlt⟩
    obtain ⟨b3, of3, hn3, hm3, a3, j3⟩ := KB.out.get
    obtain ⟨rfl, _, hb3⟩ := a3 (by omega)
    obtain ⟨cs3, _, q3, hu⟩ := j3 k _ hx
    obtain ⟨x1, x2, x3, e1', kph, kco, x4, e2', kto⟩ := hu
    subst e2'
    subst e1'
    obtain ⟨m0, m1, m2, m3, m4, m5, m6, m7, m8⟩ := at9 (cells_later q3 HBr.out (by have := HHW.out; omega))
    obtain ⟨A5, k5, rfl⟩ := kto.form
    have KT := Lib.hid kto
    have HX := Lib.hid hx
    have htd : td.length ≤ 8 := HT.out _ (List.mem_of_getElem? hx)
    have HIN := Lib.hid (show ∀ x ∈ td, x ∈ names bl from HA.out _ (List.mem_of_getElem? hx))
    have f4 := (HO1.out.below HUr.out HO1.out.lt).cell 4
    simp only [List.getElem?_cons_succ, List.getElem?_cons_zero] at f4
    clear q3 j3 a3 hx kph kco kto
    go_wp2_with fail
    go_loopw [30] (fun i wr => ∃ j : Nat, j ≤ td.length ∧ i = .int .i64 j ∧ Hid (GOwn wr w1.heap.size (.slice (some ⟨w1.heap.size, 0, none⟩) bl.length bl.length) ((ofK bl k).set k (toL (names bl) (td.take j)))) ∧ Hid (Below w1.heap.size w1 wr)) (fun i _ => td.length - (intOf i).toNat)
    case atStart => exact ⟨0, Nat.zero_le _, rfl, by rw [show toL (names bl) (td.take 0) = [] from rfl, set_same (ofK_at hlt)]; exact HGO, HUr⟩
    case round =>
    obtain ⟨j, hj, rfl, HGO, HUr⟩ := hrel
    clear m0 m1 m2 m3 m4 m5 m6 m7 m8 f4
    have HBr2 := Lib.hid (HU1.out.trans (HUr.out.mono HU1.out.size))
    by_cases hlt2 : j < td.length
    · obtain ⟨x, hxj⟩ : ∃ y, td[j]? = some y := ⟨_, List.getElem?_eq_getElem hlt2⟩
      have kt2 := KT.out
      obtain ⟨b5, of5, hn5, hm5, a5, j5⟩ := Row.get kt2
      obtain ⟨rfl, _, hb5⟩ := a5 (show 0 < td.length by omega)
      obtain ⟨cs5, _, q5, hu5⟩ := j5 j _ hxj
      subst hu5
      have n0 := cells_later q5 HBr2.out (by have := HHW.out; omega) 0 _ rfl
      simp only [Nat.mul_one, Nat.add_zero] at n0
      clear q5 j5 a5 kt2
      have HKEY := Lib.hid (key_at (HTG.out _ (List.mem_of_getElem? HX.out) _ (List.mem_of_getElem? hxj)))
      have HMW := Lib.hid (owns_below HM1.out HUr.out HGM.out)
      obtain ⟨p, hp⟩ := plc_some (HIN.out x (List.mem_of_getElem? hxj))
      have HLK := Lib.hid (tab_found hp)
      have HTL := Lib.hid (show toL (names bl) (td.take (j + 1)) = toL (names bl) (td.take j) ++ [(p : Int)] by rw [toL_next hxj, hp]; rfl)
      have hpl : p < bl.length := by
        have := (List.getElem?_eq_some_iff.1 (plc_at hp)).1
        rwa [names_len] at this
      have hkL : k < ((ofK bl k).set k (toL (names bl) (td.take j))).length := by rw [List.length_set, ofK_len hk]; exact hlt
      obtain ⟨g0, cap, u, rest, vs, e9, hg1, hg2, hg3, hg4, hvl, hvu, hg5, hg6⟩ := HGO.out.pick (i := k) (l := toL (names bl) (td.take j)) (by rw [List.getElem?_set_self (by rw [ofK_len hk]; exact hlt)])
      rw [List.length_set, ofK_len hk] at e9 hvl
      simp only [Value.slice.injEq, Option.some.injEq, Addr.mk.injEq, and_true, true_and] at e9
      obtain ⟨rfl, rfl⟩ := e9
      obtain ⟨Au, cu, hue⟩ := any9 (w := wr) (v := u) hg5.head
      have htl : (toL (names bl) (td.take j)).length ≤ 8 := by unfold toL; rw [List.length_map, List.length_take]; omega
      obtain ⟨T, hT⟩ : ∃ T, toL (names bl) (td.take j) = T := ⟨_, rfl⟩
      rw [hT] at htl hg5 hg6 hue HTL
      obtain rfl : u = .slice Au T.length cu := hue
      have HAP := Lib.hid hg5
      have HPUT := Lib.hid hg6
      have HVL := Lib.hid (And.intro hvl hvu)
      have HTE := Lib.hid hT
      obtain ⟨ii, hi1, hi2, hi3, hi4⟩ := info_in9
      have HII : Hid (Try.prog.info? 3 = some ii ∧ ii.zero = some (.int .i64 0) ∧ ii.size = 1 ∧ ii.bytes = 8) := Lib.hid ⟨hi1, hi2, hi3, hi4⟩
      have hbs := HUr.out.size
      clear hi1 hi2 hi3 hi4 hg5 hg6 hvl hvu hp hxj hT hkL
      go_wp2_with (first | (at_lookup; refine look_ok _ rfl _ _ 57 rfl 9 3 lawS Try.underlying57 Try.underlying3 (zeroI _) gm bl.length _ rfl HMW.out _ _ rfl HKEY.out _ HLK.out.1 _ HLK.out.2 ?_) | (at_builtin; refine Hold.wpList_grow (R := outR _ vs :: rest) rfl _ _ 33 rfl w1.heap.size (innR (.slice Au T.length cu) T) ii _ 8 Try.underlying33 HII.out.1 HII.out.2.1 HII.out.2.2.1 HII.out.2.2.2 rfl Nat.one_pos rfl HAP.out [i64 (p : Int)] _ rfl rfl rfl (by intro u hu; rw [List.mem_singleton] at hu; subst hu; rfl) (by show T.length + 1 ≤ _; omega) (by show (T.length + 1) * 8 ≤ _; omega) hbs ?_; intro v7 w7 hA7 hB7; obtain ⟨A7, c7, e7⟩ := hA7.head.form; simp only at e7; subst e7; have HA7 := Lib.hid (snoc9 (l := T) hA7); have HB7 := Lib.hid (HUr.out.trans hB7); obtain ⟨t7, s7, c9⟩ := thaw9 (HA7.out.tail.head : w7.ownsRow _ _ _ _ _ _) k; replace c9 := (c9 (by show k < vs.length * 1; rw [HVL.out.1]; omega)).trans HVL.out.2; clear hA7 hB7) | go_in)
      have HGO3 := Lib.hid (HPUT.out _ _ _ HA7.out)
      rw [List.set_set, ← HTL.out] at HGO3
      have HB8 := Lib.hid (HB7.out.setCell (p := ⟨w1.heap.size, k, none⟩) (Nat.le_refl _) (.slice A7 (T.length + 1) c7))
      go_roundw
      case rel => exact ⟨j + 1, by omega, by go_num, HGO3, HB8⟩
      case measure => simp [intOf]; omega
    · have hje : j = td.length := by omega
      subst hje
      rw [List.take_of_length_le (Nat.le_refl _), ofK_next HX.out] at HGO
      go_wp2_with fail
      go_roundw
      case rel => exact ⟨k + 1, by omega, by go_num, HGO, HUr⟩
      case measure => simp [intOf]; omega
  · have hke : k = bl.length := by omega
    subst hke
    rw [ofK_end] at HGO
    go_wp2_with fail
    go_ret
    exact ⟨_, rfl, HGO.out.lower (by have := HU1.out.size; omega), HB.out.trans ((HU1.out.trans (HUr.out.mono HU1.out.size)).mono HB.out.size)⟩
set_option maxRecDepth 100000 in
set_option maxHeartbeats 8000000 in
theorem rof_any9 (lo hi : Nat) (w : World) (cs : List Value) (f : Api.Func) (hf : FuncC lo hi w cs f) (hh : hi ≤ w.heap.size) (hn : f.blocks.length ≤ 60) (hG : nmG f.blocks) (hT : fewT f.blocks) :
    Calls Try.prog 13 #[.agg cs.toArray] w (GP (ofV f.blocks) w) := by
  have hf0 := hf
  obtain ⟨u1, u2, u3, rfl, kp, kv, kb⟩ := hf
  obtain ⟨nm, rs, ps, vs, bl⟩ := f
  simp only at hn kp kv kb hG hT ⊢
  obtain ⟨A1, k1, rfl⟩ := kp.form
  obtain ⟨A2, k2, rfl⟩ := kv.form
  obtain ⟨A3, k3, rfl⟩ := kb.form
  obtain ⟨W, hW⟩ : ∃ W, w.alloc (.cells #[str nm, str rs, .slice A1 ps.length k1, .slice A2 vs.length k2, .slice A3 bl.length k3] 25) = W := ⟨_, rfl⟩
  obtain ⟨o1, b1, z1⟩ := box8 (c := [str nm, str rs, .slice A1 ps.length k1, .slice A2 vs.length k2, .slice A3 bl.length k3]) hW
  have hlb : bl.length ≤ 4611686018427387903 := by obtain ⟨_, _, _, h, _⟩ := kb.get; exact h
  have KB := Lib.hid (Blocks.move (Still.of_below (b1.mono hh)) kb)
  have HO := Lib.hid o1
  have HB := Lib.hid b1
  have HW := Lib.hid hW
  have HHW : Hid (hi ≤ W.heap.size) := Lib.hid (by omega)
  have GB := Lib.hid hG
  have zlt := o1.lt
  clear o1 b1 hW kp kv kb hG
  have HF := Lib.hid (show FuncC lo hi W _ _ from FuncC.move (Still.of_below (HB.out.mono hh)) hf0)
  have HT := Lib.hid hT
  clear hf0 hT
  obtain ⟨ii, hi1, hi2, hi3, hi4⟩ := info_in9
  have HII : Hid (Try.prog.info? 3 = some ii ∧ ii.zero = some (.int .i64 0) ∧ ii.size = 1 ∧ ii.bytes = 8) := Lib.hid ⟨hi1, hi2, hi3, hi4⟩
  obtain ⟨ir, hr1, hr2, hr3, hr4⟩ := info_parts info_row9
  have HIR : Hid (Try.prog.info? 33 = some ir ∧ ir.zero = some (.slice none 0 0) ∧ ir.size = 1 ∧ ir.bytes = 24) := Lib.hid ⟨hr1, hr2, hr3, hr4⟩
  clear hi1 hi2 hi3 hi4 hr1 hr2 hr3 hr4
  go_enter Try.func13, Try.ntmps13
  go_wp2_with fail
  rw [HW.out]
  go_loopw [3, 4] (fun vo i wr => ∃ k : Nat, k ≤ bl.length ∧ i = .int .i64 k ∧ Hid (GOwn wr W.heap.size vo ((ofV bl).take k)) ∧ Hid (Below W.heap.size W wr)) (fun _ i _ => bl.length - (intOf i).toNat)
  case atStart => exact ⟨0, Nat.zero_le _, rfl, Lib.hid ⟨[], rfl, (Hold.Apart.nil W W.heap.size).empty 33 1⟩, Lib.hid (Below.refl _ _)⟩
  case round =>
  obtain ⟨k, hk, rfl, HGO, HBr⟩ := hrel
  have f4 := (HO.out.below HBr.out HO.out.lt).cell 4
  simp only [List.getElem?_cons_succ, List.getElem?_cons_zero] at f4
  by_cases hlt : k < bl.length
  · obtain ⟨⟨bn, phs, cod, ⟨tk, ⟨ak, as_, an⟩, td, tn⟩⟩, hx⟩ : ∃ y, bl[k]? = some y := ⟨_, List.getElem?_eq_getElem hlt⟩
    obtain ⟨b3, of3, hn3, hm3, a3, j3⟩ := KB.out.get
    obtain ⟨rfl, _, hb3⟩ := a3 (by omega)
    obtain ⟨cs3, _, q3, hu⟩ := j3 k _ hx
    obtain ⟨x1, x2, x3, e1', kph, kco, x4, e2', kto⟩ := hu
    subst e2'
    subst e1'
    obtain ⟨m0, m1, m2, m3, m4, m5, m6, m7, m8⟩ := at9 (cells_later q3 HBr.out (by have := HHW.out; omega))
    obtain ⟨A5, k5, rfl⟩ := kto.form
    have KT := Lib.hid kto
    have HX := Lib.hid hx
    have htd : td.length ≤ 8 := HT.out _ (List.mem_of_getElem? hx)
    have hbe := (List.getElem?_eq_some_iff.1 hx).1
    have hvk : (ofV bl).take k ++ [toL (names bl) td] = (ofV bl).take (k + 1) := take_next9 (ofV_at hx)
    have HVK := Lib.hid hvk
    obtain ⟨Ao, co, hvo⟩ := HGO.out.form
    have htl : ((ofV bl).take k).length = k := by rw [List.length_take, ofV_len]; omega
    rw [htl] at hvo
    subst hvo
    obtain ⟨vs, hvs, hap⟩ := HGO.out
    rw [htl] at hvs
    have HVS := Lib.hid hvs
    have HTL0 := Lib.hid htl
    have HAP := Lib.hid (hap.empty 3 1)
    have HQ3 := Lib.hid (fun (wr : World) (hb : Below W.heap.size W wr) => cells_later q3 hb (by have := HHW.out; omega))
    clear q3 j3 a3 hx kph kco kto hvs hap HGO hvk htl
    go_wp2_with fail
    go_loopw [5, 6] (fun vl jv wr => ∃ j : Nat, j ≤ td.length ∧ jv = .int .i64 j ∧ Hid (Hold.Apart wr W.heap.size (innR vl (toL (names bl) (td.take j)) :: outR (.slice Ao k co) vs :: inn vs ((ofV bl).take k))) ∧ Hid (Below W.heap.size W wr)) (fun _ jv _ => td.length - (intOf jv).toNat)
    case atStart => exact ⟨0, Nat.zero_le _, rfl, HAP, HBr⟩
    case round =>
    obtain ⟨j, hj, rfl, HA, HBr2⟩ := hrel
    clear m0 m1 m2 m3 m4 m5 m6 m7 m8 f4
    obtain ⟨T, hT⟩ : ∃ T, toL (names bl) (td.take j) = T := ⟨_, rfl⟩
    have htl : T.length ≤ 8 := by rw [← hT]; unfold toL; rw [List.length_map, List.length_take]; omega
    rw [hT] at HA
    obtain ⟨Al, cl, hvl⟩ := HA.out.head.form
    simp only at hvl
    subst hvl
    obtain ⟨m0, m1, m2, m3, m4, m5, m6, m7, m8⟩ := at9 (HQ3.out wr HBr2.out)
    have HO2 := Lib.hid (HO.out.below HBr2.out HO.out.lt)
    have f0 := HO2.out.cell 0
    have f1 := HO2.out.cell 1
    have f2 := HO2.out.cell 2
    have f3 := HO2.out.cell 3
    have f4 := HO2.out.cell 4
    simp only [List.getElem?_cons_succ, List.getElem?_cons_zero] at f0 f1 f2 f3 f4
    by_cases hlt2 : j < td.length
    · obtain ⟨x, hxj⟩ : ∃ y, td[j]? = some y := ⟨_, List.getElem?_eq_getElem hlt2⟩
      have kt2 := KT.out
      obtain ⟨b5, of5, hn5, hm5, a5, j5⟩ := Row.get kt2
      obtain ⟨rfl, _, hb5⟩ := a5 (show 0 < td.length by omega)
      obtain ⟨cs5, _, q5, hu5⟩ := j5 j _ hxj
      subst hu5
      have n0 := cells_later q5 HBr2.out (by have := HHW.out; omega) 0 _ rfl
      simp only [Nat.mul_one, Nat.add_zero] at n0
      clear q5 j5 a5 kt2
      have HTL := Lib.hid (show toL (names bl) (td.take (j + 1)) = T ++ [((plN (plc (names bl) x) : Nat) : Int)] by rw [toL_next hxj, hT])
      have QP := rplace_any lo hi wr.drew _ _ (FuncC.move (Still.of_below (HBr2.out.drew.mono HHW.out)) HF.out) (Nat.le_trans HHW.out HBr2.out.drew.size) x
      obtain ⟨pn, hpn⟩ : ∃ pn, plN (plc (names bl) x) = pn := ⟨_, rfl⟩
      obtain ⟨pb, hpb⟩ : ∃ pb, plB (plc (names bl) x) = pb := ⟨_, rfl⟩
      simp only [hpn, hpb] at QP
      rw [hpn] at HTL
      have HQP := Lib.hid QP
      clear hxj hT QP hpn hpb
      go_wp2_with fail
      go_region_law (go_simp; go_at_call 24; (with_reducible refine HQP.out.mono ?_); rintro e w6 ⟨rfl, hw6⟩; have HA6 := Lib.hid ((HA.out.below (Below.refl _ _).drew).below hw6); have HB6 := Lib.hid (HBr2.out.drew.trans (hw6.mono HBr2.out.drew.size)); clear hw6)
      all_goals
        have hs6 := HB6.out.size
        go_wp2_with (at_builtin; refine Hold.wpList_grow (R := outR (.slice Ao k co) vs :: inn vs ((ofV bl).take k)) rfl _ _ 33 rfl W.heap.size (innR (.slice Al T.length cl) T) ii _ 8 Try.underlying33 HII.out.1 HII.out.2.1 HII.out.2.2.1 HII.out.2.2.2 rfl Nat.one_pos rfl HA6.out [i64 (pn : Int)] _ rfl rfl rfl (by intro u hu; rw [List.mem_singleton] at hu; subst hu; rfl) (by show T.length + 1 ≤ _; omega) (by show (T.length + 1) * 8 ≤ _; omega) hs6 ?_; intro v7 w7 hA7 hB7; have HA7 := Lib.hid (snoc9 (l := T) hA7); have HB7 := Lib.hid (HB6.out.trans hB7); clear hA7 hB7)
        go_roundw
        case rel => exact ⟨j + 1, by omega, by go_num, by rw [HTL.out]; exact HA7, HB7⟩
        case measure => simp [intOf]; omega
    · have hje : j = td.length := by omega
      subst hje
      rw [List.take_of_length_le (Nat.le_refl _)] at hT
      subst hT
      have HA2 := Lib.hid (HA.out.perm (List.Perm.swap _ _ _))
      have hs := HBr2.out.size
      have hvs := HVS.out
      obtain ⟨T, hT⟩ : ∃ T, toL (names bl) td = T := ⟨_, rfl⟩
      rw [hT] at HA2 HVK ⊢
      clear htl HA hT
      go_wp2_with (at_builtin; refine Hold.wpList_grow (R := innR (.slice Al T.length cl) T :: inn vs ((ofV bl).take k)) rfl _ _ 29 rfl W.heap.size (outR (.slice Ao k co) vs) ir _ 24 Try.underlying29 HIR.out.1 HIR.out.2.1 HIR.out.2.2.1 HIR.out.2.2.2 rfl Nat.one_pos rfl HA2.out [.slice Al T.length cl] _ rfl rfl rfl (by intro u hu; rw [List.mem_singleton] at hu; subst hu; rfl) (by show vs.length + 1 ≤ _; omega) (by show (vs.length + 1) * 24 ≤ _; omega) hs ?_; intro v7 w7 hA7 hB7; have HG7 := Lib.hid (GOwn.snoc (by rw [hvs, HTL0.out]) hA7); have HB7 := Lib.hid (HBr2.out.trans hB7); clear hA7 hB7)
      rw [HVK.out] at HG7
      go_roundw
      case rel => exact ⟨k + 1, by omega, by go_num, HG7, HB7⟩
      case measure => simp [intOf]; omega
  · have hke : k = bl.length := by omega
    subst hke
    rw [List.take_of_length_le (by rw [ofV_len]; exact Nat.le_refl _)] at HGO
    go_wp2_with fail
    go_ret
    exact ⟨_, rfl, HGO.out.lower HB.out.size, HB.out.trans (HBr.out.mono HB.out.size)⟩
end Go.Proofs.Ytnonbkaanplcjaa.Fl9
