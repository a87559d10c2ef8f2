/-
  Layer 10: package dom walked: Frontier.
-/
import Derived.Test.YtdjggoddpohceaaDomH
import Derived.Deep.RegionHeld3
namespace Go.Proofs.Ytdjggoddpohceaa.Dm10
open Go.RowKit Api Mem Fl9

set_option maxRecDepth 100000 in
set_option maxHeartbeats 8000000 in
theorem ends10_any (lo hi : Nat) (w : World) (v : Value) (l : List Int) (hl : Ints lo hi w v l) (x : Int) :
    Calls Try.prog 38 #[v, i64 x] w fun e w' => e = .returned (.bool (ends l x)) ∧ w = w' := by
  obtain ⟨A, c, rfl⟩ := Row.form hl
  have hll : l.length ≤ 4611686018427387903 := by obtain ⟨_, _, _, h, _⟩ := Row.get hl; exact h
  by_cases h0 : 0 < l.length
  · have e0 : decide ((0 : Int) < (l.length : Int)) = true := decide_eq_true (by omega)
    have e1 : decide (0 < l.length) = true := decide_eq_true h0
    obtain ⟨y, hy⟩ : ∃ y, l[l.length - 1]? = some y := ⟨_, List.getElem?_eq_getElem (by omega)⟩
    obtain ⟨b, o, rfl⟩ := addr_of9 hl h0
    obtain ⟨cs, _, rfl, hc⟩ := cell_of hl hy (Below.refl _ _)
    have c1 := hc _ rfl
    obtain ⟨m, hm⟩ : ∃ m, l.length - 1 = m := ⟨_, rfl⟩
    have hmi : (l.length : Int) - 1 = (m : Int) := by omega
    have hml : m < l.length := by omega
    rw [hm] at c1
    have HE := Lib.hid (show ends l x = (y == x) by
      unfold ends
      rw [List.getLast?_eq_getElem?, hy]
      by_cases e : y = x
      · subst e; simp
      · simp [e])
    clear hc hl hy h0
    go_enter Try.func38, Try.ntmps38
    go_wp2_with fail
    go_ret
    exact ⟨by rw [HE.out]; rfl, rfl⟩
  · have e0 : decide ((0 : Int) < (l.length : Int)) = false := decide_eq_false (by omega)
    have e1 : decide (0 < l.length) = false := decide_eq_false h0
    have HE := Lib.hid (show ends l x = false by
      obtain rfl : l = [] := List.eq_nil_of_length_eq_zero (by omega)
      rfl)
    clear h0 hl
    go_enter Try.func38, Try.ntmps38
    go_wp2_with fail
    go_ret
    exact ⟨by rw [HE.out]; rfl, rfl⟩
theorem fj_get {g : List (List Int)} {to y : Nat} {s : List Nat} (h : y < g.length) : ∃ row, (fj g to s)[y]? = some row ∧ row.length ≤ to + 1 ∧ ends row (to : Int) = decide (y ∈ s) ∧ (y ∉ s → fj g to (s ++ [y]) = (fj g to s).set y (row ++ [(to : Int)])) :=
  ⟨_, fj_at h, fj_row g to y s, fj_ends g to y s, fj_put⟩
/-- rows of rows, with other rows beside. -/
def GR (w : World) (base : Nat) (v : Value) (L : List (List Int)) (R : List Hold.Rec) : Prop := ∃ vs, vs.length = L.length ∧ Hold.Apart w base (outR v vs :: (inn vs L ++ R))
theorem GR.form {w : World} {base : Nat} {v : Value} {L : List (List Int)} {R : List Hold.Rec} (h : GR w base v L R) : ∃ A cap, v = .slice A L.length cap := by
  obtain ⟨vs, hv, ha⟩ := h
  obtain ⟨A, cap, e⟩ := ha.head.form
  exact ⟨A, cap, by rw [← hv]; exact e⟩
theorem GR.own {w : World} {base : Nat} {v : Value} {L : List (List Int)} {R : List Hold.Rec} (h : GR w base v L R) : GOwn w base v L := by
  obtain ⟨vs, hv, ha⟩ := h
  exact ⟨vs, hv, ha.sub ((List.sublist_append_left _ _).cons_cons _)⟩
theorem GR.rest {w : World} {base : Nat} {v : Value} {L : List (List Int)} {R : List Hold.Rec} (h : GR w base v L R) : Hold.Apart w base R := by
  obtain ⟨vs, hv, ha⟩ := h
  exact ha.tail.sub (List.sublist_append_right _ _)
theorem GR.below {w w' : World} {base : Nat} {v : Value} {L : List (List Int)} {R : List Hold.Rec} (h : GR w base v L R) (hb : Below w.heap.size w w') : GR w' base v L R := by
  obtain ⟨vs, hv, ha⟩ := h
  exact ⟨vs, hv, ha.below hb⟩
theorem GR.pick {w : World} {base : Nat} {v : Value} {L : List (List Int)} {R : List Hold.Rec} (h : GR w base v L R) {i : Nat} {l : List Int} (hl : L[i]? = some l) : ∃ g cap u rest vs, v = .slice (some ⟨g, 0, none⟩) L.length cap ∧ base ≤ g ∧ g < w.heap.size ∧ w.cell? ⟨g, i, none⟩ = some u ∧ w.frozen? ⟨g, i, none⟩ = false ∧ vs.length = L.length ∧ vs[i]? = some u ∧ Hold.Apart w base (innR u l :: outR v vs :: rest) ∧
    ∀ (w' : World) (u' : Value) (l' : List Int), Hold.Apart w' base (innR u' l' :: outR v vs :: rest) → GR (w'.setCell ⟨g, i, none⟩ u') base v (L.set i l') R := by
  obtain ⟨vs, hv, ha⟩ := h
  have hi := (List.getElem?_eq_some_iff.1 hl).1
  obtain ⟨u, hu⟩ : ∃ u, vs[i]? = some u := ⟨_, List.getElem?_eq_getElem (by omega)⟩
  obtain ⟨rest, hr⟩ := inn_at hu hl
  have h0 := hr u l
  rw [set_same hu, set_same hl] at h0
  obtain ⟨g, cap, e, hg1, hg2, hg3⟩ := form9 (w := w) (v := v) ha.head (by show 0 < vs.length; omega)
  have hpl : w.ownsRow base 25 1 v vs.length vs := ha.head
  obtain rfl : v = .slice (some ⟨g, 0, none⟩) vs.length cap := e
  refine ⟨g, cap, u, rest ++ R, vs, by rw [hv], hg1, hg2, (hpl.cellAt i (by simp; omega)).trans hu, hpl.frozenAt i, hv, hu, ha.perm (((h0.append_right R).cons _).trans (List.Perm.swap _ _ _)), fun w' u' l' ha' => ?_⟩
  refine ⟨vs.set i u', by simp [hv], ?_⟩
  have ha2 := (ha'.perm (List.Perm.swap _ _ _)).store (g := g) (cap := cap) (q := i) (u := u') rfl
  have := ha2.perm ((((hr u' l').symm).append_right R).cons _)
  unfold outR
  rw [List.length_set]
  exact this
def upM (g : List (List Int)) (x : Int) : Nat := if x < 0 then 0 else pos g x.toNat + 1
/-- what 'widen' does. -/
def WidenP (g : List (List Int)) (w : World) (base : Nat) (v : Value) (R : List Hold.Rec) (near : List Int) (to p : Nat) (l : List Int) (e : Ending) (w' : World) : Prop :=
  ∃ s : List Nat, e = .returned (.tuple #[]) ∧ GR w' base v (fj g to s) R ∧ Fr g near to s (l ++ [(p : Int)]) ∧ Below base w w'
set_option maxRecDepth 100000 in
set_option maxHeartbeats 8000000 in
theorem widen_any (g : List (List Int)) (w : World) (base : Nat) (v : Value) (near : List Int) (to p : Nat) (s : List Nat) (l : List Int) (hf : Fix g near) (hs : ∀ b c : Nat, near[b]? = some (c : Int) → Come g b ∧ b ≠ 0 ∧ Come g c ∧ pos g c < pos g b) (hn : g.length ≤ 1000) (R : List Hold.Rec) (ho : GR w base v (fj g to s) R) (lo hi : Nat) (vn : Value) (hnr : Ints lo hi w vn near) (hh : hi ≤ base)
    (h : Fr g near to s l) (hp : Come g p) (hl : (to : Int) ∈ g.getD p []) (hto : to < g.length) (hbs : base ≤ w.heap.size) :
    Calls Try.prog 30 #[v, vn, i64 (p : Int), i64 (to : Int)] w (WidenP g w base v R near to p l) := by
  obtain ⟨A, c, hv⟩ := ho.form
  rw [fj_len] at hv
  subst hv
  obtain ⟨A2, c2, rfl⟩ := Row.form hnr
  obtain ⟨ii, hi1, hi2, hi3, hi4⟩ := info_in9
  have HII : Hid (Try.prog.info? 3 = some ii ∧ ii.zero = some (.int .i64 0) ∧ ii.size = 1 ∧ ii.bytes = 8) := Lib.hid ⟨hi1, hi2, hi3, hi4⟩
  have HF := Lib.hid hf
  have HS := Lib.hid hs
  have HC := Lib.hid (h.go hf hp hl hto)
  have HP := Lib.hid hp
  have HL := Lib.hid hl
  have HO := Lib.hid ho
  have HN := Lib.hid hnr
  have hln := hf.len9
  obtain ⟨z, hz⟩ : ∃ z, near[to]? = some z := ⟨_, List.getElem?_eq_getElem (by omega)⟩
  have HZ := Lib.hid hz
  have HLN := Lib.hid hln
  have htn : to < near.length := by omega
  clear hln hf hs h hp hl ho hnr hz hi1 hi2 hi3 hi4
  go_enter Try.func30, Try.ntmps30
  go_wp2_with fail
  go_loopw [2] (fun vx wr => ∃ (s : List Nat) (x : Int), vx = .int .i64 x ∧ Hid (Cl g near to s l p x) ∧ Hid (GR wr base (.slice A g.length c) (fj g to s) R) ∧ Hid (Below base w wr)) (fun vx _ => upM g (intOf vx))
  case atStart => exact ⟨s, p, rfl, HC, HO, Lib.hid (Below.refl _ _)⟩
  case round =>
  obtain ⟨s, x, rfl, HC, HO, HB⟩ := hrel
  obtain ⟨b1, o1, rfl⟩ := addr_of9 HN.out (by omega)
  obtain ⟨cs, _, rfl, n1⟩ := cell_of HN.out HZ.out (HB.out.mono hh)
  have m1 := n1 _ rfl
  clear n1
  by_cases hxz : x = z
  · subst hxz
    go_wp2_with fail
    go_end0
    exact ⟨s, rfl, HO.out, HC.out.stop HZ.out, HB.out⟩
  · have e0 : (x == z) = false := by simpa using hxz
    have e0n : (x != z) = true := by rw [bne, e0]; rfl
    obtain ⟨y, rfl, hyc⟩ : ∃ y : Nat, x = (y : Int) ∧ Come g y := by
      rcases HC.out.at9 with ⟨y, e, _, h2, _⟩ | ⟨e, h2⟩
      · exact ⟨y, e, h2⟩
      · exact absurd (by rw [HZ.out] at h2; rw [e, Option.some.inj h2]) hxz
    have hyl := hyc.last.1
    have hyn : y < near.length := by have := HLN.out; omega
    have HXZ := Lib.hid (show near[to]? ≠ some (y : Int) by rw [HZ.out]; simpa using fun e => hxz e.symm)
    have HYC := Lib.hid hyc
    obtain ⟨row, hrow, hrl, hre, hrp⟩ := fj_get (g := g) (to := to) (s := s) hyl
    obtain ⟨g0, cap, u, rest, vs, e9, hg1, hg2, hg3, hg4, hvl, hvu, hg5, hg6⟩ := HO.out.pick hrow
    simp only [Value.slice.injEq, true_and, fj_len] at e9
    obtain ⟨rfl, rfl⟩ := e9
    have hin : Ints base wr.heap.size wr u row := ints_own hg5.head (Nat.le_refl _) (by omega)
    have QE := Lib.hid (ends10_any _ _ wr u _ hin (to : Int))
    rw [hre] at QE
    have HRP := Lib.hid hrp
    obtain ⟨Au, cu, rfl⟩ := Row.form hin
    have HAP := Lib.hid hg5
    have HVL := Lib.hid (And.intro (hvl.trans (fj_len _ _ _)) hvu)
    have HPUT := Lib.hid hg6
    clear hg5 hg6 hvl hvu hin hyc hxz hrow hre hrp
    by_cases hm : y ∈ s
    · rw [decide_eq_true hm] at QE
      have HFR := Lib.hid (HC.out.met hm)
      clear hm HRP
      go_wp2_with fail
      refine QE.out.mono ?_
      rintro e w2 ⟨rfl, rfl⟩
      go_wp2_with fail
      go_end0
      exact ⟨s, rfl, HO.out, HFR.out, HB.out⟩
    · rw [decide_eq_false hm] at QE
      have HLP := Lib.hid (HRP.out hm)
      obtain ⟨k, hk⟩ : ∃ k, near[y]? = some k := ⟨_, List.getElem?_eq_getElem (by omega)⟩
      have HC2 := Lib.hid (HC.out.step HF.out HS.out HP.out HL.out hto HXZ.out hk)
      have HK := Lib.hid hk
      have hpos : ∀ b : Nat, k = (b : Int) → pos g b < pos g y := fun b hb => (HS.out y b (by rw [hk, hb])).2.2.2
      have HPOS := Lib.hid hpos
      have hbs2 := Nat.le_trans hbs HB.out.size
      obtain ⟨cs, _, rfl, n1⟩ := cell_of HN.out hk (HB.out.mono hh)
      have m2 := n1 _ rfl
      have HHB := Lib.hid (show ∀ w7 : World, Below base wr w7 → w7.cell? ⟨b1, o1 + y, none⟩ = some (i64 k) from fun w7 h7 => by
        obtain ⟨cs, _, rfl, n1⟩ := cell_of HN.out hk ((HB.out.trans h7).mono hh)
        exact n1 _ rfl)
      clear n1 hm hk hpos HRP
      go_wp2_with fail
      refine QE.out.mono ?_
      rintro e w2 ⟨rfl, rfl⟩
      go_wp2_with (at_builtin; refine Hold.wpList_grow (R := outR _ vs :: rest) rfl _ _ 25 rfl base (innR (.slice Au row.length cu) row) ii _ 8 Try.underlying25 HII.out.1 HII.out.2.1 HII.out.2.2.1 HII.out.2.2.2 rfl Nat.one_pos rfl HAP.out [i64 (to : Int)] _ rfl rfl rfl (by intro u hu; rw [List.mem_singleton] at hu; subst hu; rfl) (by show row.length + 1 ≤ _; omega) (by show (row.length + 1) * 8 ≤ _; omega) hbs2 ?_; intro v7 w7 hA7 hB7; obtain ⟨A7, c7, e7⟩ := hA7.head.form; simp only at e7; subst e7; have HA7 := Lib.hid (snoc9 (l := row) hA7); have HB7 := Lib.hid hB7; obtain ⟨t7, s7, c9⟩ := thaw9 (HA7.out.tail.head : w7.ownsRow _ _ _ _ _ _) y; replace c9 := (c9 (by show y < vs.length * 1; rw [HVL.out.1]; omega)).trans HVL.out.2; have m7 := HHB.out _ (hB7.setCell (p := ⟨g0, y, none⟩) hg1 (.slice A7 (row.length + 1) c7)); clear hA7 hB7)
      have HGO3 := Lib.hid (HPUT.out _ _ _ HA7.out)
      rw [← HLP.out] at HGO3
      have HB8 := Lib.hid (HB.out.trans (HB7.out.setCell (p := ⟨g0, y, none⟩) hg1 (.slice A7 (row.length + 1) c7)))
      go_roundw
      case rel => exact ⟨s ++ [y], k, rfl, HC2, HGO3, HB8⟩
      case measure =>
        have := HPOS.out
        show upM g k < upM g (y : Int)
        unfold upM
        split
        · rw [if_neg (by omega)]; omega
        · rw [if_neg (by omega)]
          have := this k.toNat (by omega)
          simp only [Int.toNat_natCast]
          omega
theorem preds_row {w : World} {base c k : Nat} {A : Option Addr} {vps : List Value} {u : Value} {g : List (List Int)} {R : List Hold.Rec} (hR : R = outR (.slice A g.length c) vps :: inn vps (predsV g)) (h : Hold.Apart w base R) (hv : vps.length = g.length) (hn : g.length ≤ 1000) (hk : k < g.length) (hu : vps[k]? = some u) : (∃ b, A = some ⟨b, 0, none⟩ ∧ w.cell? ⟨b, k, none⟩ = some u) ∧ Ints base w.heap.size w u (pv g g.length k) := by
  subst hR
  have hpl : w.ownsRow base 25 1 (.slice A g.length c) vps.length vps := h.head
  obtain ⟨b, cap, e, hb1, hb2, _⟩ := form9 hpl (by omega)
  simp only [Value.slice.injEq] at e
  obtain ⟨rfl, _, rfl⟩ := e
  refine ⟨⟨b, rfl, ?_⟩, ints_own (h.1 (innR u (pv g g.length k)) (by simp [inn_get hu (preds_at hk)])) (Nat.le_refl _) (by have := pv_len g g.length k; omega)⟩
  have := (thaw9 (w := w) (base := base) (i := k) (by rw [hv] at hpl; exact hpl)).2.2 (by omega)
  exact this.trans hu
theorem kn_come {g : List (List Int)} {near : List Int} (hf : Fix g near) {q : Nat} (hq : q < g.length) {y : Int} (hy : near[q]? = some y) : knB q y = true ↔ Come g q := by
  unfold knB
  rw [decide_eq_true_iff]
  constructor
  · rintro (h | h)
    · subst h; exact .refl hq trivial
    · refine Classical.byContradiction fun hn => h ?_
      rw [hf.top9 q hq (.inr hn)] at hy
      exact (Option.some.inj hy).symm
  · intro hc
    by_cases h0 : q = 0
    · exact .inl h0
    · obtain ⟨c, hc, _⟩ := hf.up9 q h0 hc
      rw [hc] at hy
      have := Option.some.inj hy
      exact .inr (by omega)
set_option maxRecDepth 100000 in
set_option maxHeartbeats 8000000 in
theorem front_any (lo hi : Nat) (w : World) (v : Value) (g : List (List Int)) (hg : Graph lo hi w v g) (hh : hi ≤ w.heap.size) (hn : g.length ≤ 1000) :
    Calls Try.prog 17 #[v] w (GP (frontV g) w) := by
  have QN := Lib.hid (near_any lo hi w v g hg hh hn)
  have HG := Lib.hid hg
  obtain ⟨A1, k1, rfl⟩ := Row.form hg
  have hmm := fun (w : World) => run_row9 (P := Try.prog) (t := 22) Try.underlying22 info_row9 rfl (by decide) g.length (by omega) w
  clear hg
  go_enter Try.func17, Try.ntmps17
  go_wp2_with fail
  refine QN.out.mono ?_
  rintro e w1 ⟨vn, rfl, on, hb1, hfx, hup⟩
  have HFX := Lib.hid hfx
  have HUP := Lib.hid hup
  clear hfx hup
  have HN1 := Lib.hid (ints_own (l := nearestV g) (hi := w1.heap.size) (by rw [nearest_len]; exact on) (Nat.le_refl _) (by rw [nearest_len]; omega))
  have HB1 := Lib.hid hb1
  have hs1 := hb1.size
  obtain ⟨An, cn, e1⟩ := Row.form HN1.out
  rw [nearest_len] at e1
  subst e1
  obtain ⟨W, hW⟩ : ∃ W, w1.alloc (.cells (List.replicate g.length (.slice none 0 0)).toArray 25) = W := ⟨_, rfl⟩
  have HO := Lib.hid (show GOwn W w1.heap.size (.slice (some ⟨w1.heap.size, 0, none⟩) g.length g.length) (List.replicate g.length []) by rw [← hW]; exact gown_made g.length w1.heap.size rfl hn)
  have HBW := Lib.hid (show Below w1.heap.size w1 W by rw [← hW]; exact (Below.refl _ _).alloc (Nat.le_refl _) _)
  have HW := Lib.hid (show w1.alloc (.cells (Array.replicate g.length (.slice none 0 0)) 25) = W by rw [← hW]; simp)
  clear on hb1 hW
  go_wp2_with fail
  rw [HW.out]
  have hsw := HBW.out.size
  have HXW := Lib.hid (HB1.out.trans (HBW.out.mono hs1))
  refine (preds_any lo hi W _ g (Graph.move (Still.of_below (HXW.out.mono hh)) HG.out) (Nat.le_trans hh HXW.out.size) hn).mono ?_
  rintro e w2 ⟨vp, rfl, op, hb2⟩
  obtain ⟨Ap, cp, e2⟩ := op.form
  rw [preds_len] at e2
  subst e2
  obtain ⟨near, hnear⟩ : ∃ near, nearestV g = near := ⟨_, rfl⟩
  have HNL := Lib.hid (show near.length = g.length by rw [← hnear]; exact nearest_len g)
  rw [hnear] at HN1 HFX HUP
  clear hnear
  obtain ⟨vs0, hvs0, ha0⟩ := HO.out
  obtain ⟨vps, hvps, hap⟩ := op
  have HVP := Lib.hid (hvps.trans (preds_len g))
  have HR2 := Lib.hid (show GR w2 w1.heap.size (.slice (some ⟨w1.heap.size, 0, none⟩) g.length g.length) (fj g 0 []) (outR (.slice Ap g.length cp) vps :: inn vps (predsV g)) from ⟨vs0, by rw [fj_zero]; exact hvs0, by
    rw [fj_zero]
    exact (ha0.join hb2 hap hsw).perm (List.perm_append_comm)⟩)
  have HX2 := Lib.hid (HXW.out.trans (hb2.mono HXW.out.size))
  have HY2 := Lib.hid (HBW.out.trans (hb2.mono hsw))
  obtain ⟨R, hR⟩ : ∃ R, outR (.slice Ap g.length cp) vps :: inn vps (predsV g) = R := ⟨_, rfl⟩
  rw [hR] at HR2
  have HRR := Lib.hid hR.symm
  clear ha0 hvs0 hvps hap hb2 HO hR
  go_wp2_with fail
  go_loopw [17] (fun vi wr => ∃ k : Nat, k ≤ g.length ∧ vi = .int .i64 k ∧ Hid (GR wr w1.heap.size (.slice (some ⟨w1.heap.size, 0, none⟩) g.length g.length) (fj g k []) R) ∧ Hid (Below w1.heap.size w1 wr)) (fun vi _ => g.length - (intOf vi).toNat)
  case atStart => exact ⟨0, Nat.zero_le _, rfl, HR2, HY2⟩
  case round =>
  obtain ⟨k, hk, rfl, HR, HY⟩ := hrel
  by_cases hlt : k < g.length
  · obtain ⟨u, hu⟩ : ∃ u, vps[k]? = some u := ⟨_, List.getElem?_eq_getElem (by rw [HVP.out]; exact hlt)⟩
    obtain ⟨⟨bp, rfl, m1⟩, kx⟩ := preds_row HRR.out HR.out.rest HVP.out hn hlt hu
    obtain ⟨A3, k3, rfl⟩ := Row.form kx
    have HU := Lib.hid hu
    have hpl := pv_len g g.length k
    have HPV := Lib.hid (show ∀ x ∈ pv g g.length k, ∃ p : Nat, x = (p : Int) ∧ p < g.length ∧ (k : Int) ∈ g.getD p [] from fun x hx => pv_lt hx)
    have HDN := Lib.hid (fun (s : List Nat) (h : Fr g near k s (pv g g.length k)) => fj_next (h.done HFX.out))
    obtain ⟨l, hle⟩ : ∃ l, pv g g.length k = l := ⟨_, rfl⟩
    rw [hle] at hpl HPV HU HDN kx m1
    have HLE := Lib.hid hle
    clear hu kx hle
    go_wp2_with fail
    go_loopw [24] (fun vj wr => ∃ (j : Nat) (s : List Nat), j ≤ l.length ∧ vj = .int .i64 j ∧ Hid (GR wr w1.heap.size (.slice (some ⟨w1.heap.size, 0, none⟩) g.length g.length) (fj g k s) R) ∧ Hid (Fr g near k s (l.take j)) ∧ Hid (Below w1.heap.size w1 wr)) (fun vj _ => l.length - (intOf vj).toNat)
    case atStart => exact ⟨0, [], Nat.zero_le _, rfl, HR, Lib.hid fr_start, HY⟩
    case round =>
    obtain ⟨j, s, hj, rfl, HR, HFR, HY⟩ := hrel
    by_cases hlt2 : j < l.length
    · obtain ⟨x, hx⟩ : ∃ x, l[j]? = some x := ⟨_, List.getElem?_eq_getElem hlt2⟩
      obtain ⟨⟨bp2, e9, _⟩, kx⟩ := preds_row HRR.out HR.out.rest HVP.out hn hlt (u := .slice A3 l.length k3) (by have := HU.out; exact this)
      clear e9
      rw [HLE.out] at kx
      obtain ⟨b3, o3, rfl⟩ := addr_of9 kx (by omega)
      obtain ⟨cs, _, rfl, n3⟩ := cell_of kx hx (Below.refl _ _)
      have m3 := n3 _ rfl
      obtain ⟨q, rfl, hql, hqe⟩ := HPV.out x (List.mem_of_getElem? hx)
      have HQE := Lib.hid hqe
      have HNX := Lib.hid (take_nx hx)
      obtain ⟨y, hy⟩ : ∃ y, near[q]? = some y := ⟨_, List.getElem?_eq_getElem (by rw [HNL.out]; exact hql)⟩
      have hnl := HNL.out
      obtain ⟨bn, on, rfl⟩ := addr_of9 HN1.out (by omega)
      obtain ⟨cs, _, rfl, n4⟩ := cell_of HN1.out hy HY.out
      have m4 := n4 _ rfl
      have QK := Lib.hid (known_any wr bn on g.length cn q hql hn y m4)
      have HKN := Lib.hid (kn_come HFX.out hql hy)
      obtain ⟨kb, hkb⟩ : ∃ kb, knB q y = kb := ⟨_, rfl⟩
      rw [hkb] at QK HKN
      clear n3 n4 kx hx hqe hy hnl hkb m4
      cases kb with
      | false =>
        have HF2 := Lib.hid (HFR.out.skip (p := q) (fun h => by cases HKN.out.2 h))
        rw [← HNX.out] at HF2
        go_wp2_with fail
        refine QK.out.mono ?_
        rintro e w6 ⟨rfl, rfl⟩
        go_wp2_with fail
        go_roundw
        case rel => exact ⟨j + 1, s, by omega, by go_num, HR, HF2, HY⟩
        case measure => simp [intOf]; omega
      | true =>
        have QW := Lib.hid (widen_any g wr w1.heap.size _ near k q s (l.take j) HFX.out HUP.out hn R HR.out _ _ _ (Ints.move (Still.of_below HY.out) HN1.out) (Nat.le_refl _) HFR.out (HKN.out.1 rfl) HQE.out hlt HY.out.size)
        go_wp2_with fail
        refine QK.out.mono ?_
        rintro e w6 ⟨rfl, rfl⟩
        go_wp2_with fail
        refine QW.out.mono ?_
        rintro e w7 ⟨s7, rfl, hr7, hf7, hb7⟩
        rw [← HNX.out] at hf7
        have HR7 := Lib.hid hr7
        have HF7 := Lib.hid hf7
        have HY7 := Lib.hid (HY.out.trans hb7)
        clear hr7 hf7 hb7
        go_wp2_with fail
        go_roundw
        case rel => exact ⟨j + 1, s7, by omega, by go_num, HR7, HF7, HY7⟩
        case measure => simp [intOf]; omega
    · have hje : j = l.length := by omega
      rw [hje, List.take_of_length_le (Nat.le_refl _)] at HFR
      clear hje
      have HR2 := HR
      rw [HDN.out s HFR.out] at HR2
      go_wp2_with fail
      go_roundw
      case rel => exact ⟨k + 1, by omega, by go_num, HR2, HY⟩
      case measure => simp [intOf]; omega
  · have hke : k = g.length := by omega
    rw [hke, fj_end] at HR
    clear hke
    go_wp2_with fail
    go_ret
    exact ⟨_, rfl, HR.out.own.lower hs1, HB1.out.trans (HY.out.mono hs1)⟩
end Go.Proofs.Ytdjggoddpohceaa.Dm10
