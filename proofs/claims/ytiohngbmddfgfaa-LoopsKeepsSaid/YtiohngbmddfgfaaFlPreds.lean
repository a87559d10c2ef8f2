/-
  Layer 9: what leads to what: package flow's Preds, and the document's.
-/
import Derived.Test.YtiohngbmddfgfaaFlRows
import Derived.Test.YtiohngbmddfgfaaFlPredV
namespace Go.Proofs.Ytiohngbmddfgfaa.Fl9
open Go.RowKit Api Mem

set_option maxRecDepth 100000 in
set_option maxHeartbeats 8000000 in
theorem endsWith_any (lo hi : Nat) (w : World) (v : Value) (l : List Int) (hl : Ints lo hi w v l) (x : Int) :
    Calls Try.prog 40 #[v, i64 x] w fun e w' => e = .returned (.bool (ends l x)) ∧ w = w' := by
  obtain ⟨A, c, rfl⟩ := Row.form hl
  have hll : l.length ≤ 4611686018427387903 := by obtain ⟨_, _, _, h, _⟩ := Row.get hl; exact h
  by_cases h0 : 0 < l.length
  · have e0 : decide ((0 : Int) < (l.length : Int)) = true := decide_eq_true (by omega)
    have e1 : decide (0 < l.length) = true := decide_eq_true h0
    obtain ⟨y, hy⟩ : ∃ y, l[l.length - 1]? = some y := ⟨_, List.getElem?_eq_getElem (by omega)⟩
    obtain ⟨b, o, rfl⟩ := addr_of9 hl h0
    obtain ⟨cs, _, rfl, hc⟩ := cell_of hl hy (Below.refl _ _)
    have c1 := hc _ rfl
    obtain ⟨m, hm⟩ : ∃ m, l.length - 1 = m := ⟨_, rfl⟩
    have hmi : (l.length : Int) - 1 = (m : Int) := by omega
    have hml : m < l.length := by omega
    rw [hm] at c1
    have HE := Lib.hid (show ends l x = (y == x) by
      unfold ends
      rw [List.getLast?_eq_getElem?, hy]
      by_cases e : y = x
      · subst e; simp
      · simp [e])
    clear hc hl hy h0
    go_enter Try.func40, Try.ntmps40
    go_wp2_with fail
    go_ret
    exact ⟨by rw [HE.out]; rfl, rfl⟩
  · have e0 : decide ((0 : Int) < (l.length : Int)) = false := decide_eq_false (by omega)
    have e1 : decide (0 < l.length) = false := decide_eq_false h0
    have HE := Lib.hid (show ends l x = false by
      obtain rfl : l = [] := List.eq_nil_of_length_eq_zero (by omega)
      rfl)
    clear h0 hl
    go_enter Try.func40, Try.ntmps40
    go_wp2_with fail
    go_ret
    exact ⟨by rw [HE.out]; rfl, rfl⟩
theorem info_row9 : (Try.prog.info? 31).map (fun i => (i.zero, i.size, i.bytes)) = some (some (.slice none 0 0), 1, 24) := by kernel_rfl
/-- what Preds answers. -/
def GP (L : List (List Int)) (w : World) (e : Ending) (w' : World) : Prop := ∃ v, e = .returned v ∧ GOwn w' w.heap.size v L ∧ Below w.heap.size w w'
set_option maxRecDepth 100000 in
set_option maxHeartbeats 8000000 in
theorem preds_any (lo hi : Nat) (w : World) (v : Value) (g : List (List Int)) (hg : Graph lo hi w v g) (hh : hi ≤ w.heap.size) (hn : g.length ≤ 1000) :
    Calls Try.prog 27 #[v] w (GP (predsV g) w) := by
  obtain ⟨A1, k1, rfl⟩ := Row.form hg
  have hmm := fun (w : World) => run_row9 (P := Try.prog) (t := 22) Try.underlying22 info_row9 rfl (by decide) g.length (by omega) w
  obtain ⟨W, hW⟩ : ∃ W, w.alloc (.cells (List.replicate g.length (.slice none 0 0)).toArray 31) = W := ⟨_, rfl⟩
  have HO := Lib.hid (show GOwn W w.heap.size (.slice (some ⟨w.heap.size, 0, none⟩) g.length g.length) (List.replicate g.length []) by rw [← hW]; exact gown_made g.length w.heap.size rfl hn)
  have HB := Lib.hid (show Below w.heap.size w W by rw [← hW]; exact (Below.refl _ _).alloc (Nat.le_refl _) _)
  have HG := Lib.hid hg
  have HW := Lib.hid (show w.alloc (.cells (Array.replicate g.length (.slice none 0 0)) 31) = W by rw [← hW]; simp)
  clear hg hW
  go_enter Try.func27, Try.ntmps27
  go_wp2_with fail
  rw [HW.out]
  go_loopw [12] (fun i wr => ∃ k : Nat, k ≤ g.length ∧ i = .int .i64 k ∧ Hid (GOwn wr w.heap.size (.slice (some ⟨w.heap.size, 0, none⟩) g.length g.length) (lj g k [])) ∧ Hid (Below w.heap.size w wr)) (fun i _ => g.length - (intOf i).toNat)
  case atStart => exact ⟨0, Nat.zero_le _, rfl, by rw [lj_zero]; exact HO, HB⟩
  case round =>
  obtain ⟨k, hk, rfl, HGO, HBr⟩ := hrel
  by_cases hlt : k < g.length
  · obtain ⟨gk, hgk⟩ : ∃ x, g[k]? = some x := ⟨_, List.getElem?_eq_getElem hlt⟩
    have hgd : g.getD k [] = gk := by rw [List.getD_eq_getElem?_getD, hgk]; rfl
    obtain ⟨b1, o1, rfl⟩ := addr_of9 HG.out (by omega)
    obtain ⟨c1, _, ⟨u1, rfl, kx⟩, n1⟩ := cell_of HG.out hgk (HBr.out.mono hh)
    obtain ⟨A3, k3, rfl⟩ := Row.form kx
    have m1 := n1 _ rfl
    have hgl : gk.length ≤ 4611686018427387903 := by obtain ⟨_, _, _, h, _⟩ := Row.get kx; exact h
    have KX := Lib.hid kx
    have HGD := Lib.hid hgd
    clear n1 kx hgd hgk
    go_wp2_with fail
    go_loopw [20] (fun i wr => ∃ j : Nat, j ≤ gk.length ∧ i = .int .i64 j ∧ Hid (GOwn wr w.heap.size (.slice (some ⟨w.heap.size, 0, none⟩) g.length g.length) (lj g k (gk.take j))) ∧ Hid (Below w.heap.size w wr)) (fun i _ => gk.length - (intOf i).toNat)
    case atStart => exact ⟨0, Nat.zero_le _, rfl, by rw [List.take_zero]; exact HGO, HBr⟩
    case round =>
    obtain ⟨j, hj, rfl, HGO, HBr⟩ := hrel
    by_cases hlt2 : j < gk.length
    · obtain ⟨x, hx⟩ : ∃ x, gk[j]? = some x := ⟨_, List.getElem?_eq_getElem hlt2⟩
      have htk : gk.take (j + 1) = gk.take j ++ [x] := by
        obtain ⟨h1, h2⟩ := List.getElem?_eq_some_iff.1 hx
        rw [List.take_succ_eq_append_getElem h1, h2]
      obtain ⟨b2, o2, rfl⟩ := addr_of9 KX.out (by omega)
      obtain ⟨c2, _, rfl, n2⟩ := cell_of KX.out hx (HBr.out.mono hh)
      have m2 := n2 _ rfl
      have HT := Lib.hid htk
      clear n2 hx htk
      by_cases hp : 0 ≤ x ∧ x < (g.length : Int)
      · obtain ⟨q, rfl⟩ : ∃ q : Nat, x = (q : Int) := ⟨x.toNat, by omega⟩
        have e1 : decide (0 ≤ (q : Int) ∧ (q : Int) < (g.length : Int)) = true := decide_eq_true hp
        have hq : q < g.length := by omega
        clear hp
        obtain ⟨g0, cap, u, rest, vs, e9, hg1, hg2, hg3, hg4, hvl, hvu, hg5, hg6⟩ := HGO.out.pick (lj_at hq)
        simp only [Value.slice.injEq, Option.some.injEq, Addr.mk.injEq, and_true, true_and, lj_len] at e9
        obtain ⟨rfl, rfl⟩ := e9
        have hul := hg5.head
        have hin : Ints w.heap.size wr.heap.size wr u (pj g k (gk.take j) q) := ints_own hul (Nat.le_refl _) (by have := pj_len g k (gk.take j) q; omega)
        have QE := Lib.hid (endsWith_any _ _ wr u _ hin (k : Int))
        rw [pj_ends] at QE
        obtain ⟨Au, cu, rfl⟩ := Row.form hin
        have HAP := Lib.hid hg5
        have HVL := Lib.hid (And.intro (hvl.trans (lj_len _ _ _)) hvu)
        clear hvl hvu
        have HPUT := Lib.hid hg6
        have hpl := pj_len g k (gk.take j) q
        clear hg5 hg6 hul hin
        by_cases hm : (q : Int) ∈ gk.take j
        · rw [decide_eq_true hm] at QE
          have HGO2 := HGO
          rw [← lj_skip (x := (q : Int)) (.inr hm), ← HT.out] at HGO2
          clear hm
          go_wp2_with fail
          refine (isPoint_any _ _ _ _ (by omega) _).mono ?_
          rintro e w1 ⟨rfl, rfl⟩
          rw [e1]
          go_wp2_with fail
          refine QE.out.mono ?_
          rintro e w2 ⟨rfl, rfl⟩
          go_wp2_with fail
          go_roundw
          case rel => exact ⟨j + 1, by omega, by go_num, HGO2, HBr⟩
          case measure => simp [intOf]; omega
        · rw [decide_eq_false hm] at QE
          have HLP := Lib.hid (lj_put (k := k) hq hm)
          obtain ⟨ii, hi1, hi2, hi3, hi4⟩ := info_in9
          have HII : Hid (Try.prog.info? 3 = some ii ∧ ii.zero = some (.int .i64 0) ∧ ii.size = 1 ∧ ii.bytes = 8) := Lib.hid ⟨hi1, hi2, hi3, hi4⟩
          clear hi1 hi2 hi3 hi4 hm
          go_wp2_with fail
          refine (isPoint_any _ _ _ _ (by omega) _).mono ?_
          rintro e w1 ⟨rfl, rfl⟩
          rw [e1]
          go_wp2_with fail
          refine QE.out.mono ?_
          rintro e w2 ⟨rfl, rfl⟩
          have hbs := HBr.out.size
          go_wp2_with (at_builtin; refine Hold.wpList_grow (R := outR _ vs :: rest) rfl _ _ 31 rfl w.heap.size (innR (.slice Au (pj g k (gk.take j) q).length cu) (pj g k (gk.take j) q)) ii _ 8 Try.underlying31 HII.out.1 HII.out.2.1 HII.out.2.2.1 HII.out.2.2.2 rfl Nat.one_pos rfl HAP.out [i64 (k : Int)] _ rfl rfl rfl (by intro u hu; rw [List.mem_singleton] at hu; subst hu; rfl) (by show (pj g k (gk.take j) q).length + 1 ≤ _; omega) (by show ((pj g k (gk.take j) q).length + 1) * 8 ≤ _; omega) hbs ?_; intro v7 w7 hA7 hB7; obtain ⟨A7, c7, e7⟩ := hA7.head.form; simp only at e7; subst e7; have HA7 := Lib.hid (snoc9 (l := pj g k (gk.take j) q) hA7); have HB7 := Lib.hid (HBr.out.trans hB7); obtain ⟨t7, s7, c9⟩ := thaw9 (HA7.out.tail.head : w7.ownsRow _ _ _ _ _ _) q; replace c9 := (c9 (by show q < vs.length * 1; rw [HVL.out.1]; omega)).trans HVL.out.2; clear hA7 hB7)
          have HGO3 := Lib.hid (HPUT.out _ _ _ HA7.out)
          rw [← HLP.out, ← HT.out] at HGO3
          have HB8 := Lib.hid (HB7.out.setCell (p := ⟨w.heap.size, q, none⟩) (Nat.le_refl _) (.slice A7 ((pj g k (gk.take j) q).length + 1) c7))
          go_roundw
          case rel => exact ⟨j + 1, by omega, by go_num, HGO3, HB8⟩
          case measure => simp [intOf]; omega
      · have e1 : decide (0 ≤ x ∧ x < (g.length : Int)) = false := decide_eq_false hp
        have HGO2 := HGO
        rw [← lj_skip (.inl hp), ← HT.out] at HGO2
        clear hp
        go_wp2_with fail
        refine (isPoint_any _ _ _ _ (by omega) _).mono ?_
        rintro e w1 ⟨rfl, rfl⟩
        rw [e1]
        go_wp2_with fail
        go_roundw
        case rel => exact ⟨j + 1, by omega, by go_num, HGO2, HBr⟩
        case measure => simp [intOf]; omega
    · have hje : j = gk.length := by omega
      subst hje
      rw [List.take_of_length_le (Nat.le_refl _), ← HGD.out, lj_next] at HGO
      go_wp2_with fail
      go_roundw
      case rel => exact ⟨k + 1, by omega, by go_num, HGO, HBr⟩
      case measure => simp [intOf]; omega
  · have hke : k = g.length := by omega
    subst hke
    go_wp2_with fail
    go_ret
    exact ⟨_, rfl, by rw [lj_end] at HGO; exact HGO.out, HBr.out⟩
theorem pv_step (g : List (List Int)) (k i : Nat) : pv g (k + 1) i = pv g k i ++ if (i : Int) ∈ g.getD k [] then [(k : Int)] else [] := pv_succ g k i
theorem preds_take {g : List (List Int)} {k : Nat} (h : k < g.length) : (predsV g).take (k + 1) = (predsV g).take k ++ [pv g g.length k] := by
  have h2 := preds_at h
  obtain ⟨h3, h4⟩ := List.getElem?_eq_some_iff.1 h2
  rw [List.take_succ_eq_append_getElem h3, h4]
theorem take_len9 {g : List (List Int)} {k : Nat} (h : k ≤ g.length) : ((predsV g).take k).length = k := by
  rw [List.length_take, preds_len]; omega
theorem GOwn.snoc {w : World} {base : Nat} {v vl : Value} {vs : List Value} {L : List (List Int)} {l : List Int} (hv : vs.length = L.length) (h : Hold.Apart w base (⟨31, 1, v, vs.length + 1, vs ++ [vl]⟩ :: innR vl l :: inn vs L)) : GOwn w base v (L ++ [l]) := by
  refine ⟨vs ++ [vl], by simp [hv], ?_⟩
  have e : inn (vs ++ [vl]) (L ++ [l]) = inn vs L ++ [innR vl l] := by
    unfold inn
    rw [List.zipWith_append hv]
    rfl
  have e2 : outR v (vs ++ [vl]) = ⟨31, 1, v, vs.length + 1, vs ++ [vl]⟩ := by simp [outR]
  rw [e, e2]
  refine h.perm (List.Perm.cons _ ?_)
  exact (List.perm_append_comm (l₁ := [innR vl l]) (l₂ := inn vs L))
end Go.Proofs.Ytiohngbmddfgfaa.Fl9
