/-
  What is alike is alike the other way round, with itself, and behind other objects.
-/
import Derived.Test.YtnkcpbfbehciaaaRows
import Derived.Test.YtnkcpbfbehciaaaLaw15
import Derived.Test.YtnkcpbfbehciaaaOpenH
import Derived.Test.YtnkcpbfbehciaaaOpenI
import Derived.Deep.RegionHeld3
import Derived.Deep.LoopGhost
import Derived.Deep.DeepCutAuto
import Derived.Deep.RegionLaw
import Derived.Test.YtnkcpbfbehciaaaHpMoved
import Derived.Test.YtnkcpbfbehciaaaShell
import Derived.ProofKit
import Derived.OpenShut
import Derived.SizedLaws
namespace Go.Proofs.Ytnkcpbfbehciaaa.heapAlike
open Go.ChangeShapes Go.WideShapes Go.ChangeAt Go.RowKit
open Api Mem Hp15 L15
theorem apart_one {w : World} {base : Nat} {r : Hold.Rec} (h : r.on w base) : Hold.Apart w base [r] := by
  refine ⟨fun x hx => by rw [List.mem_singleton] at hx; subst hx; exact h, ?_⟩
  cases e : r.v.ownBlock <;> simp [e]
theorem mv_good {h : Hp} {n : Nat} {x y : Vl} (hm : MovedV h n x y) (hx : vlG x) (hh : h.length ≤ 1000) (hn : n ≤ 1000) : vlG y := by
  rcases hm with ⟨⟨_, a2, a3⟩, rfl⟩ | ⟨_, rfl⟩
  · refine ⟨hx.1, ?_⟩
    unfold NumM.In
    simp only
    omega
  · exact hx
theorem moved_vals {h : Hp} {n : Nat} {a l : List Vl} (hg : ∀ x ∈ a, vlG x) (hm : ∀ (i : Nat) (x y : Vl), a[i]? = some x → l[i]? = some y → MovedV h n x y ∧ LeadOk h x) (hl : l.length = a.length) (hh : h.length ≤ 1000) (hn : n ≤ 1000) : ∀ x ∈ l, vlG x := fun x hx => by
  obtain ⟨i, hi⟩ := List.getElem?_of_mem hx
  have h1 := (List.getElem?_eq_some_iff.1 hi).1
  obtain ⟨v, hv⟩ : ∃ o, a[i]? = some o := ⟨_, List.getElem?_eq_getElem (by omega)⟩
  exact mv_good (hm i v x hv hi).1 (hg v (List.mem_of_getElem? hv)) hh hn
theorem moved_good {h front K : Hp} {n : Nat} (hg : hpG h) (hf : hpG front) (hm : ∀ (i : Nat) (o p : Ob), h[i]? = some o → K[i]? = some p → MovedO h n o p) (hl : K.length = h.length) (hh : h.length ≤ 1000) (hn : n ≤ 1000) : hpG (front ++ K) := fun x hx => by
  rcases List.mem_append.1 hx with hx | hx
  · exact hf x hx
  · obtain ⟨i, hi⟩ := List.getElem?_of_mem hx
    have h1 := (List.getElem?_eq_some_iff.1 hi).1
    obtain ⟨o, ho⟩ : ∃ o, h[i]? = some o := ⟨_, List.getElem?_eq_getElem (by omega)⟩
    obtain ⟨e1, e2, e3⟩ := hm i o x ho hi
    have hgo := hg o (List.mem_of_getElem? ho)
    refine ⟨by rw [← e1]; exact hgo.1, fun v hv => ?_⟩
    obtain ⟨j, hj⟩ := List.getElem?_of_mem hv
    have h2 := (List.getElem?_eq_some_iff.1 hj).1
    obtain ⟨u, hu⟩ : ∃ u, o.vals[j]? = some u := ⟨_, List.getElem?_eq_getElem (by omega)⟩
    exact mv_good (e3 j u v hu hj) (hgo.2 u (List.mem_of_getElem? hu)) hh hn
theorem lead_snoc {h : Hp} {l : List Vl} {m : Nat} {x : Vl} (hm : ∀ (q : Nat) (v : Vl), q < m → l[q]? = some v → LeadOk h v) (hx : l[m]? = some x) (hl : LeadOk h x) : ∀ (q : Nat) (v : Vl), q < m + 1 → l[q]? = some v → LeadOk h v := fun q v hq hv => by
  by_cases e : q < m
  · exact hm q v e hv
  · obtain rfl : q = m := by omega
    rw [hx] at hv
    cases hv
    exact hl
theorem leads_all {h : Hp} {d : Nat} {o : Ob} (hm : ∀ (q : Nat) (o : Ob), q < d → h[q]? = some o → ∀ v ∈ o.vals, LeadOk h v) (ho : h[d]? = some o) (hq : ∀ (q : Nat) (v : Vl), o.vals[q]? = some v → LeadOk h v) : ∀ (q : Nat) (o : Ob), q < d + 1 → h[q]? = some o → ∀ v ∈ o.vals, LeadOk h v := fun q o' hq2 ho2 => by
  by_cases e : q < d
  · exact hm q o' e ho2
  · obtain rfl : q = d := by omega
    rw [ho] at ho2
    cases ho2
    intro v hv
    obtain ⟨j, hj⟩ := List.getElem?_of_mem hv
    exact hq j v hj
theorem pair_snoc {R : Vl → Vl → Prop} {a l : List Vl} {m : Nat} {x y : Vl} (hm : ∀ (i : Nat) (x y : Vl), a[i]? = some x → l[i]? = some y → R x y) (hx : a[m]? = some x) (hl : l.length = m) (hy : R x y) : ∀ (i : Nat) (x' y' : Vl), a[i]? = some x' → (l ++ [y])[i]? = some y' → R x' y' := fun i x' y' h1 h2 => by
  by_cases e : i < m
  · rw [List.getElem?_append_left (by omega)] at h2
    exact hm i x' y' h1 h2
  · have h3 := (List.getElem?_eq_some_iff.1 h2).1
    rw [List.length_append, List.length_singleton] at h3
    obtain rfl : i = m := by omega
    rw [hx] at h1
    cases h1
    rw [List.getElem?_append_right (by omega), hl, Nat.sub_self] at h2
    cases h2
    exact hy
set_option maxRecDepth 100000 in
set_option maxHeartbeats 16000000 in
theorem walk (v0 : Value) (h : Hp) (v1 : Value) (a : List Vl) (v2 : Value) (k : Hp) (v3 : Value) (b : List Vl) (v4 : Value) (front : Hp) {w : World} (hq0 : Obs 0 w.heap.size w v0 h ∧ hpG h) (hq1 : Vls 0 w.heap.size w v1 a ∧ ∀ x ∈ a, vlG x) (hq2 : Obs 0 w.heap.size w v2 k ∧ hpG k) (hq3 : Vls 0 w.heap.size w v3 b ∧ ∀ x ∈ b, vlG x) (hq4 : Obs 0 w.heap.size w v4 front ∧ hpG front) :
    Calls Try.prog 4 #[v0, v1, v2, v3, v4] w fun e w' => e = .returned (.bool true) ∧ Below w.heap.size w w' := by
  obtain ⟨A0, k0, rfl⟩ := Row.form hq0.1
  obtain ⟨A1, k1, rfl⟩ := Row.form hq1.1
  obtain ⟨A2, k2, rfl⟩ := Row.form hq2.1
  obtain ⟨A3, k3, rfl⟩ := Row.form hq3.1
  obtain ⟨A4, k4, rfl⟩ := Row.form hq4.1
  have HG := Lib.hid hq0.1
  have HGG := Lib.hid hq0.2
  have HA := Lib.hid hq1.1
  have HGA := Lib.hid hq1.2
  have HK := Lib.hid hq2.1
  have HGK := Lib.hid hq2.2
  have HB := Lib.hid hq3.1
  have HGB := Lib.hid hq3.2
  have HFR := Lib.hid hq4.1
  have HGF := Lib.hid hq4.2
  obtain ⟨iv, hi1, hi2, hi3, hi4⟩ := info_parts info_val
  have HIV : Hid (Try.prog.info? 25 = some iv ∧ iv.zero = some (.agg #[str [], i64 0]) ∧ iv.size = 2 ∧ iv.bytes = 24) := Lib.hid ⟨hi1, hi2, hi3, hi4⟩
  clear hq0 hq1 hq2 hq3 hq4 hi1 hi2 hi3 hi4
  go_enter Try.func4, Try.ntmps4
  go_wp2_with fail
  refine (L15.awake_any w).mono ?_
  rintro e w1 ⟨rfl, hb1⟩
  have HX1 := Lib.hid hb1
  clear hb1
  go_wp2_with fail
  refine (few_any 0 w.heap.size w1 _ h (Obs.move (Still.of_below HX1.out) HG.out) HX1.out.size).mono ?_
  rintro e w2 ⟨bf, rfl, hfew, hbf⟩
  have HX2 := Lib.hid (HX1.out.trans (hbf.mono HX1.out.size))
  clear hbf
  cases bf with
  | false =>
    clear hfew
    go_wp2_with fail
    refine (L15.awake_any w2).mono ?_
    rintro e wz ⟨rfl, hbz⟩
    have HZ := Lib.hid (HX2.out.trans (hbz.mono HX2.out.size))
    clear hbz
    go_wp2_with fail
    go_ret
    exact ⟨rfl, HZ.out⟩
  | true =>
    have HF1 := Lib.hid (hfew rfl)
    clear hfew
    go_wp2_with fail
    refine (few_any 0 w.heap.size w2 _ k (Obs.move (Still.of_below HX2.out) HK.out) HX2.out.size).mono ?_
    rintro e w3 ⟨bf, rfl, hfew, hbf⟩
    have HX3 := Lib.hid (HX2.out.trans (hbf.mono HX2.out.size))
    clear hbf
    cases bf with
    | false =>
      clear hfew
      go_wp2_with fail
      refine (L15.awake_any w3).mono ?_
      rintro e wz ⟨rfl, hbz⟩
      have HZ := Lib.hid (HX3.out.trans (hbz.mono HX3.out.size))
      clear hbz
      go_wp2_with fail
      go_ret
      exact ⟨rfl, HZ.out⟩
    | true =>
      have HF2 := Lib.hid (hfew rfl)
      clear hfew
      go_wp2_with fail
      refine (few_any 0 w.heap.size w3 _ front (Obs.move (Still.of_below HX3.out) HFR.out) HX3.out.size).mono ?_
      rintro e w4 ⟨bf, rfl, hfew, hbf⟩
      have HX4 := Lib.hid (HX3.out.trans (hbf.mono HX3.out.size))
      clear hbf
      cases bf with
      | false =>
        clear hfew
        go_wp2_with fail
        refine (L15.awake_any w4).mono ?_
        rintro e wz ⟨rfl, hbz⟩
        have HZ := Lib.hid (HX4.out.trans (hbz.mono HX4.out.size))
        clear hbz
        go_wp2_with fail
        go_ret
        exact ⟨rfl, HZ.out⟩
      | true =>
        have HF3 := Lib.hid (hfew rfl)
        clear hfew
        by_cases l1 : a.length ≤ 50
        · by_cases l2 : b.length ≤ 50
          · have e1 : decide ((50 : Int) < (a.length : Int)) = false := decide_eq_false (by omega)
            have e2 : decide ((50 : Int) < (b.length : Int)) = false := decide_eq_false (by omega)
            have hfl := HF3.out.1
            have HWS := Lib.hid HX4.out.size
            go_wp2_with fail
            go_loopw [12, 13] (fun c i wr => ∃ (m : Nat) (l : List Vl), m ≤ a.length ∧ i = .int .i64 m ∧ l.length = m ∧ Hid (∀ (i : Nat) (x y : Vl), a[i]? = some x → l[i]? = some y → MovedV h front.length x y ∧ LeadOk h x) ∧ Hid (VOwn wr w4.heap.size c l) ∧ Hid (Below w.heap.size w wr) ∧ Hid (w4.heap.size ≤ wr.heap.size)) (fun _ i _ => a.length - (intOf i).toNat)
            case atStart => exact ⟨0, [], Nat.zero_le _, rfl, rfl, Lib.hid (fun i x y _ hy => by simp at hy), Lib.hid (World.ownsRow_nil _ _ _ _), HX4, Lib.hid (Nat.le_refl _)⟩
            case round =>
            obtain ⟨m, l, hm, rfl, hll, HM, HVW, HXr, HSr⟩ := hrel
            obtain ⟨Av, cv, ev⟩ := HVW.out.form
            rw [hll] at ev
            subst ev
            have HLL := Lib.hid hll
            clear hll
            by_cases hlt : m < a.length
            · obtain ⟨x, hx⟩ : ∃ x, a[m]? = some x := ⟨_, List.getElem?_eq_getElem hlt⟩
              obtain ⟨ba, oa, rfl, _⟩ := addr2 HA.out (by omega)
              obtain ⟨m1, m2⟩ := vl_at HA.out hx HXr.out
              have ml := World.block_lt_of_cell? wr _ m1
              simp only at ml
              have HXX := Lib.hid hx
              clear hx
              obtain ⟨tx, nx⟩ := x
              by_cases z1 : tx = wRef
              · subst z1
                by_cases hl : LeadsP h ⟨wRef, nx⟩
                · have HL := Lib.hid hl
                  have HLO := Lib.hid (show LeadOk h ⟨wRef, nx⟩ from fun _ c => absurd hl c)
                  clear hl
                  go_wp2_with fail
                  refine (yesH (rleads_any 0 w.heap.size wr _ h (Obs.move (Still.of_below HXr.out) HG.out) ⟨wRef, nx⟩) HL.out).mono ?_
                  rintro e w5 ⟨rfl, hb5⟩
                  have HX5 := Lib.hid (HXr.out.trans (hb5.mono HXr.out.size))
                  have HV5 := Lib.hid (HVW.out.below hb5)
                  have HS5 := Lib.hid (Nat.le_trans HSr.out hb5.size)
                  clear hb5
                  clear m1 m2 ml
                  obtain ⟨m1, m2⟩ := vl_at HA.out HXX.out HX5.out
                  have ml := World.block_lt_of_cell? w5 _ m1
                  simp only at ml
                  have QS := Lib.hid (fun (w6 : World) (hb : Below w5.heap.size w5 w6) => shifted_any 0 w.heap.size w6 _ h (Obs.move (Still.of_below (HX5.out.trans (hb.mono HX5.out.size))) HG.out) (Nat.le_trans HX5.out.size hb.size) ⟨wRef, nx⟩ front.length (by omega) (by omega) (by have := HF1.out.1; omega))
                  go_wp2_with fail
                  (with_reducible refine (QS.out _ (Below.refl _ _)).mono ?_)
                  rintro e w7 ⟨y, rfl, hmv, hb7⟩
                  have HB7 := Lib.hid (HX5.out.trans (hb7.mono HX5.out.size))
                  have HS7 := Lib.hid (Nat.le_trans HS5.out hb7.size)
                  have HAJ := Lib.hid (apart_one (r := ⟨25, 2, .slice Av m cv, m, pcV l⟩) (w := w7) (base := w4.heap.size) (by have := HV5.out.below hb7; unfold VOwn at this; rw [HLL.out] at this; exact this))
                  have HMS := Lib.hid (pair_snoc (R := fun x y => MovedV h front.length x y ∧ LeadOk h x) HM.out HXX.out HLL.out ⟨hmv, HLO.out⟩)
                  clear hb7 hmv m1 m2 ml
                  go_wp2_with ((at_builtin; refine Hold.wpList_grow (R := []) rfl _ _ 23 rfl w4.heap.size ⟨25, 2, .slice Av m cv, m, pcV l⟩ iv _ 24 Try.underlying23 HIV.out.1 HIV.out.2.1 HIV.out.2.2.1 HIV.out.2.2.2 rfl (Nat.succ_pos 1) rfl HAJ.out [str y.ty, i64 y.n] w7.heap.size rfl rfl rfl (by intro z hz; simp at hz; rcases hz with rfl | rfl <;> rfl) (by show m + 1 ≤ _; omega) (by show (m + 1) * 24 ≤ _; omega) HS7.out ?_; intro v8 w8 hA8 hB8; have HA8 := Lib.hid hA8; have HB8x := Lib.hid (HB7.out.trans (hB8.mono HWS.out)); have HS8 := Lib.hid (Nat.le_trans HS7.out hB8.size); clear hA8 hB8))
                  have HRN := Lib.hid (show VOwn w8 w4.heap.size v8 (l ++ [y]) by
                    have e1 : (l ++ [y]).length = m + 1 := by rw [List.length_append, HLL.out]; rfl
                    unfold VOwn
                    rw [e1, show pcV (l ++ [y]) = pcV l ++ [str y.ty, i64 y.n] by simp [pcV, vlC]]
                    exact HA8.out.head)
                  go_roundw
                  case rel => exact ⟨m + 1, l ++ [y], by omega, by go_num, by rw [List.length_append, HLL.out]; rfl, HMS, HRN, HB8x, HS8⟩
                  case measure => simp [intOf]; omega
                · have HL := Lib.hid hl
                  clear hl
                  by_cases z3 : nx = 0
                  · subst z3
                    have HLO := Lib.hid (show LeadOk h ⟨wRef, 0⟩ from fun _ _ => rfl)
                    go_wp2_with fail
                    refine (notH (rleads_any 0 w.heap.size wr _ h (Obs.move (Still.of_below HXr.out) HG.out) ⟨wRef, 0⟩) HL.out).mono ?_
                    rintro e w5 ⟨rfl, hb5⟩
                    have HX5 := Lib.hid (HXr.out.trans (hb5.mono HXr.out.size))
                    have HV5 := Lib.hid (HVW.out.below hb5)
                    have HS5 := Lib.hid (Nat.le_trans HSr.out hb5.size)
                    clear hb5
                    clear m1 m2 ml
                    obtain ⟨m1, m2⟩ := vl_at HA.out HXX.out HX5.out
                    have ml := World.block_lt_of_cell? w5 _ m1
                    simp only at ml
                    have QS := Lib.hid (fun (w6 : World) (hb : Below w5.heap.size w5 w6) => shifted_any 0 w.heap.size w6 _ h (Obs.move (Still.of_below (HX5.out.trans (hb.mono HX5.out.size))) HG.out) (Nat.le_trans HX5.out.size hb.size) ⟨wRef, 0⟩ front.length (by omega) (by omega) (by have := HF1.out.1; omega))
                    go_wp2_with fail
                    (with_reducible refine (QS.out _ (Below.refl _ _)).mono ?_)
                    rintro e w7 ⟨y, rfl, hmv, hb7⟩
                    have HB7 := Lib.hid (HX5.out.trans (hb7.mono HX5.out.size))
                    have HS7 := Lib.hid (Nat.le_trans HS5.out hb7.size)
                    have HAJ := Lib.hid (apart_one (r := ⟨25, 2, .slice Av m cv, m, pcV l⟩) (w := w7) (base := w4.heap.size) (by have := HV5.out.below hb7; unfold VOwn at this; rw [HLL.out] at this; exact this))
                    have HMS := Lib.hid (pair_snoc (R := fun x y => MovedV h front.length x y ∧ LeadOk h x) HM.out HXX.out HLL.out ⟨hmv, HLO.out⟩)
                    clear hb7 hmv m1 m2 ml
                    go_wp2_with ((at_builtin; refine Hold.wpList_grow (R := []) rfl _ _ 23 rfl w4.heap.size ⟨25, 2, .slice Av m cv, m, pcV l⟩ iv _ 24 Try.underlying23 HIV.out.1 HIV.out.2.1 HIV.out.2.2.1 HIV.out.2.2.2 rfl (Nat.succ_pos 1) rfl HAJ.out [str y.ty, i64 y.n] w7.heap.size rfl rfl rfl (by intro z hz; simp at hz; rcases hz with rfl | rfl <;> rfl) (by show m + 1 ≤ _; omega) (by show (m + 1) * 24 ≤ _; omega) HS7.out ?_; intro v8 w8 hA8 hB8; have HA8 := Lib.hid hA8; have HB8x := Lib.hid (HB7.out.trans (hB8.mono HWS.out)); have HS8 := Lib.hid (Nat.le_trans HS7.out hB8.size); clear hA8 hB8))
                    have HRN := Lib.hid (show VOwn w8 w4.heap.size v8 (l ++ [y]) by
                      have e1 : (l ++ [y]).length = m + 1 := by rw [List.length_append, HLL.out]; rfl
                      unfold VOwn
                      rw [e1, show pcV (l ++ [y]) = pcV l ++ [str y.ty, i64 y.n] by simp [pcV, vlC]]
                      exact HA8.out.head)
                    go_roundw
                    case rel => exact ⟨m + 1, l ++ [y], by omega, by go_num, by rw [List.length_append, HLL.out]; rfl, HMS, HRN, HB8x, HS8⟩
                    case measure => simp [intOf]; omega
                  · have z4 : (nx == 0) = false := by simpa using z3
                    go_wp2_with fail
                    refine (notH (rleads_any 0 w.heap.size wr _ h (Obs.move (Still.of_below HXr.out) HG.out) ⟨wRef, nx⟩) HL.out).mono ?_
                    rintro e w5 ⟨rfl, hb5⟩
                    have HX5 := Lib.hid (HXr.out.trans (hb5.mono HXr.out.size))
                    clear hb5 m1 m2 ml
                    obtain ⟨m1, m2⟩ := vl_at HA.out HXX.out HX5.out
                    have ml := World.block_lt_of_cell? w5 _ m1
                    simp only at ml
                    go_wp2_with fail
                    refine (alike_any (h := h) (k := h) (lo := 0) (hi := w.heap.size) (Obs.move (Still.of_below HX5.out) HG.out) (Vls.move (Still.of_below HX5.out) HA.out) (Obs.move (Still.of_below HX5.out) HG.out) (Vls.move (Still.of_below HX5.out) HA.out) HX5.out.size HGG.out HGG.out HGA.out HGA.out (by have := HF1.out.1; omega) (by have := HF1.out.1; omega)).mono ?_
                    rintro e wz ⟨bz, rfl, hal, hbz⟩
                    have HZ := Lib.hid (HX5.out.trans (hbz.mono HX5.out.size))
                    obtain rfl := hal.2 (alike_self h a)
                    clear hal hbz
                    go_wp2_with fail
                    go_ret
                    exact ⟨rfl, HZ.out⟩
              · have z4 : (tx == wRef) = false := by simpa using z1
                have HLO := Lib.hid (show LeadOk h ⟨tx, nx⟩ from fun c => absurd c z1)
                clear m1 m2 ml
                obtain ⟨m1, m2⟩ := vl_at HA.out HXX.out HXr.out
                have ml := World.block_lt_of_cell? wr _ m1
                simp only at ml
                have QS := Lib.hid (fun (w6 : World) (hb : Below wr.heap.size wr w6) => shifted_any 0 w.heap.size w6 _ h (Obs.move (Still.of_below (HXr.out.trans (hb.mono HXr.out.size))) HG.out) (Nat.le_trans HXr.out.size hb.size) ⟨tx, nx⟩ front.length (by omega) (by omega) (by have := HF1.out.1; omega))
                go_wp2_with fail
                (with_reducible refine (QS.out _ (Below.refl _ _)).mono ?_)
                rintro e w7 ⟨y, rfl, hmv, hb7⟩
                have HB7 := Lib.hid (HXr.out.trans (hb7.mono HXr.out.size))
                have HS7 := Lib.hid (Nat.le_trans HSr.out hb7.size)
                have HAJ := Lib.hid (apart_one (r := ⟨25, 2, .slice Av m cv, m, pcV l⟩) (w := w7) (base := w4.heap.size) (by have := HVW.out.below hb7; unfold VOwn at this; rw [HLL.out] at this; exact this))
                have HMS := Lib.hid (pair_snoc (R := fun x y => MovedV h front.length x y ∧ LeadOk h x) HM.out HXX.out HLL.out ⟨hmv, HLO.out⟩)
                clear hb7 hmv m1 m2 ml
                go_wp2_with ((at_builtin; refine Hold.wpList_grow (R := []) rfl _ _ 23 rfl w4.heap.size ⟨25, 2, .slice Av m cv, m, pcV l⟩ iv _ 24 Try.underlying23 HIV.out.1 HIV.out.2.1 HIV.out.2.2.1 HIV.out.2.2.2 rfl (Nat.succ_pos 1) rfl HAJ.out [str y.ty, i64 y.n] w7.heap.size rfl rfl rfl (by intro z hz; simp at hz; rcases hz with rfl | rfl <;> rfl) (by show m + 1 ≤ _; omega) (by show (m + 1) * 24 ≤ _; omega) HS7.out ?_; intro v8 w8 hA8 hB8; have HA8 := Lib.hid hA8; have HB8x := Lib.hid (HB7.out.trans (hB8.mono HWS.out)); have HS8 := Lib.hid (Nat.le_trans HS7.out hB8.size); clear hA8 hB8))
                have HRN := Lib.hid (show VOwn w8 w4.heap.size v8 (l ++ [y]) by
                  have e1 : (l ++ [y]).length = m + 1 := by rw [List.length_append, HLL.out]; rfl
                  unfold VOwn
                  rw [e1, show pcV (l ++ [y]) = pcV l ++ [str y.ty, i64 y.n] by simp [pcV, vlC]]
                  exact HA8.out.head)
                go_roundw
                case rel => exact ⟨m + 1, l ++ [y], by omega, by go_num, by rw [List.length_append, HLL.out]; rfl, HMS, HRN, HB8x, HS8⟩
                case measure => simp [intOf]; omega
            · have hme : m = a.length := by omega
              subst hme
              have HS2 := Lib.hid (Nat.le_trans HWS.out HSr.out)
              obtain ⟨w6, hw6⟩ : ∃ w6, w6 = wr := ⟨_, rfl⟩
              subst hw6
              go_wp2_with fail
              have hhl := HF1.out.1
              go_loopw [14] (fun i wr => ∃ (d : Nat), d ≤ h.length ∧ i = .int .i64 d ∧ Hid (∀ (q : Nat) (o : Ob), q < d → h[q]? = some o → ∀ v ∈ o.vals, LeadOk h v) ∧ Hid (Below w.heap.size w wr) ∧ Hid (Below w6.heap.size w6 wr)) (fun i _ => h.length - (intOf i).toNat)
              case atStart => exact ⟨0, Nat.zero_le _, rfl, Lib.hid (fun q o hq => absurd hq (Nat.not_lt_zero _)), HXr, Lib.hid (Below.refl _ _)⟩
              case round =>
              obtain ⟨d, hd, rfl, HQO, HXo, HYo⟩ := hrel
              by_cases hlt : d < h.length
              · obtain ⟨o, ho⟩ : ∃ x, h[d]? = some x := ⟨_, List.getElem?_eq_getElem hlt⟩
                obtain ⟨b1, o1, rfl, _⟩ := addr2 HG.out (by omega)
                obtain ⟨A9, k9, hvo, hc⟩ := ob_at HG.out ho
                have HC9 := Lib.hid hc
                have HVO := Lib.hid hvo
                have HO := Lib.hid ho
                have hol := HF1.out.2 o (List.mem_of_getElem? ho)
                clear ho hc hvo
                obtain ⟨wo, hwo⟩ : ∃ wo, wo = wr := ⟨_, rfl⟩
                subst hwo
                go_wp2_with fail
                go_loopw [15] (fun j wr => ∃ (m : Nat), m ≤ o.vals.length ∧ j = .int .i64 m ∧ Hid (∀ (q : Nat) (v : Vl), q < m → o.vals[q]? = some v → LeadOk h v) ∧ Hid (Below w.heap.size w wr) ∧ Hid (Below w6.heap.size w6 wr)) (fun j _ => o.vals.length - (intOf j).toNat)
                case atStart => exact ⟨0, Nat.zero_le _, rfl, Lib.hid (fun q o hq => absurd hq (Nat.not_lt_zero _)), HXo, HYo⟩
                case round =>
                obtain ⟨m, hm, rfl, HQ, HXi, HYi⟩ := hrel
                obtain ⟨n1, n2⟩ := HC9.out wr HXi.out
                have nl := World.block_lt_of_cell? wr _ n1
                simp only at nl
                by_cases hlt2 : m < o.vals.length
                · obtain ⟨x, hx⟩ : ∃ x, o.vals[m]? = some x := ⟨_, List.getElem?_eq_getElem hlt2⟩
                  obtain ⟨b2, o2, rfl, _⟩ := addr2 HVO.out (by omega)
                  obtain ⟨q0, q1⟩ := vl_at HVO.out hx HXi.out
                  have HXX := Lib.hid hx
                  clear hx
                  obtain ⟨tx, nx⟩ := x
                  by_cases z1 : tx = wRef
                  · subst z1
                    by_cases hl : LeadsP h ⟨wRef, nx⟩
                    · have HL := Lib.hid hl
                      have HLO := Lib.hid (show LeadOk h ⟨wRef, nx⟩ from fun _ c => absurd hl c)
                      clear hl
                      go_wp2_with fail
                      refine (yesH (rleads_any 0 w.heap.size wr _ h (Obs.move (Still.of_below HXi.out) HG.out) ⟨wRef, nx⟩) HL.out).mono ?_
                      rintro e w7 ⟨rfl, hb7⟩
                      have HX7 := Lib.hid (HXi.out.trans (hb7.mono HXi.out.size))
                      have HY7 := Lib.hid (HYi.out.trans (hb7.mono HYi.out.size))
                      clear hb7
                      have HQN := Lib.hid (lead_snoc HQ.out HXX.out HLO.out)
                      go_wp2_with fail
                      go_roundw
                      case rel => exact ⟨m + 1, by omega, by go_num, HQN, HX7, HY7⟩
                      case measure => simp [intOf]; omega
                    · have HL := Lib.hid hl
                      clear hl
                      by_cases z3 : nx = 0
                      · subst z3
                        have HLO := Lib.hid (show LeadOk h ⟨wRef, 0⟩ from fun _ _ => rfl)
                        go_wp2_with fail
                        refine (notH (rleads_any 0 w.heap.size wr _ h (Obs.move (Still.of_below HXi.out) HG.out) ⟨wRef, 0⟩) HL.out).mono ?_
                        rintro e w7 ⟨rfl, hb7⟩
                        have HX7 := Lib.hid (HXi.out.trans (hb7.mono HXi.out.size))
                        have HY7 := Lib.hid (HYi.out.trans (hb7.mono HYi.out.size))
                        clear hb7
                        clear n1 n2 nl q0 q1
                        obtain ⟨n1, n2⟩ := HC9.out w7 HX7.out
                        have nl := World.block_lt_of_cell? w7 _ n1
                        simp only at nl
                        obtain ⟨q0, q1⟩ := vl_at HVO.out HXX.out HX7.out
                        have HQN := Lib.hid (lead_snoc HQ.out HXX.out HLO.out)
                        go_wp2_with fail
                        go_roundw
                        case rel => exact ⟨m + 1, by omega, by go_num, HQN, HX7, HY7⟩
                        case measure => simp [intOf]; omega
                      · have z4 : (nx == 0) = false := by simpa using z3
                        go_wp2_with fail
                        refine (notH (rleads_any 0 w.heap.size wr _ h (Obs.move (Still.of_below HXi.out) HG.out) ⟨wRef, nx⟩) HL.out).mono ?_
                        rintro e w7 ⟨rfl, hb7⟩
                        have HX7 := Lib.hid (HXi.out.trans (hb7.mono HXi.out.size))
                        have HY7 := Lib.hid (HYi.out.trans (hb7.mono HYi.out.size))
                        clear hb7
                        clear n1 n2 nl q0 q1
                        obtain ⟨n1, n2⟩ := HC9.out w7 HX7.out
                        have nl := World.block_lt_of_cell? w7 _ n1
                        simp only at nl
                        obtain ⟨q0, q1⟩ := vl_at HVO.out HXX.out HX7.out
                        go_wp2_with fail
                        refine (alike_any (h := h) (k := h) (lo := 0) (hi := w.heap.size) (Obs.move (Still.of_below HX7.out) HG.out) (Vls.move (Still.of_below HX7.out) HA.out) (Obs.move (Still.of_below HX7.out) HG.out) (Vls.move (Still.of_below HX7.out) HA.out) HX7.out.size HGG.out HGG.out HGA.out HGA.out (by have := HF1.out.1; omega) (by have := HF1.out.1; omega)).mono ?_
                        rintro e wz ⟨bz, rfl, hal, hbz⟩
                        have HZ := Lib.hid (HX7.out.trans (hbz.mono HX7.out.size))
                        obtain rfl := hal.2 (alike_self h a)
                        clear hal hbz
                        go_wp2_with fail
                        go_ret
                        exact ⟨rfl, HZ.out⟩
                  · have z4 : (tx == wRef) = false := by simpa using z1
                    have HLO := Lib.hid (show LeadOk h ⟨tx, nx⟩ from fun c => absurd c z1)
                    have HQN := Lib.hid (lead_snoc HQ.out HXX.out HLO.out)
                    go_wp2_with fail
                    go_roundw
                    case rel => exact ⟨m + 1, by omega, by go_num, HQN, HXi, HYi⟩
                    case measure => simp [intOf]; omega
                · have hme : m = o.vals.length := by omega
                  have HQN := Lib.hid (leads_all HQO.out HO.out (fun q v hv => HQ.out q v (by have := (List.getElem?_eq_some_iff.1 hv).1; omega) hv))
                  go_wp2_with fail
                  go_roundw
                  case rel => exact ⟨d + 1, by omega, by go_num, HQN, HXi, HYi⟩
                  case measure => simp [intOf]; omega
              · have HQA := Lib.hid (show ∀ x ∈ h, ∀ v ∈ x.vals, LeadOk h v from fun x hx => by
                  obtain ⟨q, hq⟩ := List.getElem?_of_mem hx
                  exact HQO.out q x (by have := (List.getElem?_eq_some_iff.1 hq).1; omega) hq)
                have HCW := Lib.hid (HVW.out.below HYo.out)
                go_wp2_with fail
                refine (alike_any (h := h) (k := h) (lo := 0) (hi := w.heap.size) (Obs.move (Still.of_below HXo.out) HG.out) (Vls.move (Still.of_below HXo.out) HA.out) (Obs.move (Still.of_below HXo.out) HG.out) (Vls.move (Still.of_below HXo.out) HA.out) HXo.out.size HGG.out HGG.out HGA.out HGA.out (by have := HF1.out.1; omega) (by have := HF1.out.1; omega)).mono ?_
                rintro e w8 ⟨b8, rfl, hal, hb8⟩
                obtain rfl := hal.2 (alike_self h a)
                have HX8 := Lib.hid (HXo.out.trans (hb8.mono HXo.out.size))
                have HCW8 := Lib.hid (HCW.out.below hb8)
                have HS8 := Lib.hid (Nat.le_trans (Nat.le_trans HSr.out HYo.out.size) hb8.size)
                clear hal hb8
                go_wp2_with fail
                refine (alike_any (h := h) (k := k) (lo := 0) (hi := w.heap.size) (Obs.move (Still.of_below HX8.out) HG.out) (Vls.move (Still.of_below HX8.out) HA.out) (Obs.move (Still.of_below HX8.out) HK.out) (Vls.move (Still.of_below HX8.out) HB.out) HX8.out.size HGG.out HGK.out HGA.out HGB.out (by have := HF1.out.1; omega) (by have := HF2.out.1; omega)).mono ?_
                rintro e w9 ⟨b9, rfl, hal9, hb9⟩
                have HX9 := Lib.hid (HX8.out.trans (hb9.mono HX8.out.size))
                have HCW9 := Lib.hid (HCW8.out.below hb9)
                have HAL9 := Lib.hid hal9
                clear hal9 hb9
                go_wp2_with fail
                refine (alike_any (h := k) (k := h) (lo := 0) (hi := w.heap.size) (Obs.move (Still.of_below HX9.out) HK.out) (Vls.move (Still.of_below HX9.out) HB.out) (Obs.move (Still.of_below HX9.out) HG.out) (Vls.move (Still.of_below HX9.out) HA.out) HX9.out.size HGK.out HGG.out HGB.out HGA.out (by have := HF2.out.1; omega) (by have := HF1.out.1; omega)).mono ?_
                rintro e w10 ⟨b10, rfl, hal10, hb10⟩
                have HX10 := Lib.hid (HX9.out.trans (hb10.mono HX9.out.size))
                have HCW10 := Lib.hid (HCW9.out.below hb10)
                obtain rfl : b9 = b10 := Bool.eq_iff_iff.2 ((HAL9.out.trans ⟨AlikeP.swap, AlikeP.swap⟩).trans hal10.symm)
                clear hal10 hb10
                cases b9
                all_goals
                  go_wp2_with fail
                  refine (moved_any 0 w.heap.size w10 _ _ h front (Obs.move (Still.of_below HX10.out) HG.out) (Obs.move (Still.of_below HX10.out) HFR.out) HX10.out.size HF1.out HF3.out).mono ?_
                  rintro e w11 ⟨vm, K, rfl, hkl, hmk, hob, hb11⟩
                  have HX11 := Lib.hid (HX10.out.trans (hb11.mono HX10.out.size))
                  have HCW11 := Lib.hid (HCW10.out.below hb11)
                  have HKL := Lib.hid hkl
                  have HMK := Lib.hid hmk
                  have HOB := Lib.hid hob
                  clear hkl hmk hob hb11
                  go_wp2_with fail
                  refine (alike_any (h := h) (k := front ++ K) (a := a) (b := l) (lo := 0) (hi := w11.heap.size) (Obs.move ⟨fun j _ hj => HX11.out.block j hj, Nat.le_refl _, HX11.out.size⟩ HG.out) (Vls.move ⟨fun j _ hj => HX11.out.block j hj, Nat.le_refl _, HX11.out.size⟩ HA.out) HOB.out (VOwn.vls (base := 0) (VOwn.lower HCW11.out (Nat.zero_le _)) (Nat.le_refl _) (by rw [HLL.out]; omega)) (Nat.le_refl _) HGG.out (moved_good HGG.out HGF.out HMK.out HKL.out (by omega) (by omega)) HGA.out (moved_vals HGA.out HM.out HLL.out (by omega) (by omega)) (by omega) (by rw [List.length_append, HKL.out]; omega)).mono ?_
                  rintro e w12 ⟨bz, rfl, hal, hbz⟩
                  have HX12 := Lib.hid (HX11.out.trans (hbz.mono HX11.out.size))
                  obtain rfl := hal.2 (alike_moved (n := front.length) (by rw [List.length_append, HKL.out]; omega) (fun i x y hx hy => by
                    rw [List.getElem?_append_right (by omega), Nat.add_sub_cancel] at hy
                    exact HMK.out i x y hx hy) HQA.out HLL.out.symm HM.out)
                  clear hal hbz
                  go_wp2_with fail
                  go_ret
                  exact ⟨rfl, HX12.out⟩
          · have e1 : decide ((50 : Int) < (a.length : Int)) = false := decide_eq_false (by omega)
            have e2 : decide ((50 : Int) < (b.length : Int)) = true := decide_eq_true (by omega)
            go_wp2_with fail
            refine (L15.awake_any w4).mono ?_
            rintro e wz ⟨rfl, hbz⟩
            have HZ := Lib.hid (HX4.out.trans (hbz.mono HX4.out.size))
            clear hbz
            go_wp2_with fail
            go_ret
            exact ⟨rfl, HZ.out⟩
        · have e1 : decide ((50 : Int) < (a.length : Int)) = true := decide_eq_true (by omega)
          go_wp2_with fail
          refine (L15.awake_any w4).mono ?_
          rintro e wz ⟨rfl, hbz⟩
          have HZ := Lib.hid (HX4.out.trans (hbz.mono HX4.out.size))
          clear hbz
          go_wp2_with fail
          go_ret
          exact ⟨rfl, HZ.out⟩

set_option maxRecDepth 100000 in
theorem lifted (os : Os) (started : os.Started) (H : Type) (enc : TypeId × Value → H) :
    ReturnsInHanded {} Try.checked os 4 .any (Rows.heapAlikeSpec.pre6 enc Try.prog Try.f4 Rows.heapAlikeRow.domain false) (Rows.heapAlikeSpec.post enc Try.prog Try.f4 false true false false) := by
  refine returnsInHanded_of_change_sized (C := Try.checked) (by kernel_rfl) started (by kernel_rfl) Try.func4
    (ChangeSpec.witness6 (enc := enc) (C := Try.checked) false ⟨#[], #[.slice none 0 0, .slice none 0 0, .slice none 0 0, .slice none 0 0, .slice none 0 0], []⟩ 8 (by kernel_rfl) (by kernel_rfl) (by kernel_rfl) (by kernel_rfl)) ?_
  intro W base args ds gs before hval0 hW hcnd hsz0 _
  have hval : ∀ (j : Nat) t v, Try.f4.params[j]? = some t → args[j]? = some v → Value.okWide Try.prog W .any base t v := hval0
  have hW' := hW
  obtain ⟨p, q, hA0, hV, rfl, hfz, hnd⟩ := hW
  have hsz : (DataW.weightsEach Try.prog (Try.f4.params.toList ++ Rows.heapAlikeSpec.plain.varTypes Try.prog) (ds ++ gs)).all (· ≤ reachBytes) = true := hsz0
  have hA : DataW.TrodAll enc Try.prog W 0 (fun _ => true) true Try.f4.params.toList args.toList ds p := hA0
  rw [Try.params4] at hA hval hsz
  obtain ⟨v0, vs0, d0, ds0, p0, q0, hargs, rfl, rfl, h0, r0⟩ := trodAll_cons hA
  obtain ⟨v1, vs1, d1, ds1, p1, q1, rfl, rfl, rfl, h1, r1⟩ := trodAll_cons r0
  obtain ⟨v2, vs2, d2, ds2, p2, q2, rfl, rfl, rfl, h2, r2⟩ := trodAll_cons r1
  obtain ⟨v3, vs3, d3, ds3, p3, q3, rfl, rfl, rfl, h3, r3⟩ := trodAll_cons r2
  obtain ⟨v4, vs4, d4, ds4, p4, q4, rfl, rfl, rfl, h4, r4⟩ := trodAll_cons r3
  obtain ⟨rfl, rfl, rfl⟩ := trodAll_nil r4
  obtain rfl : args = #[v0, v1, v2, v3, v4] := by cases args; simp_all
  obtain ⟨rfl, rfl⟩ := trodVars_none hV
  obtain ⟨xs0, hG0⟩ := OpenH.open_heap hsz (j := 0) rfl rfl (hval 0 22 v0 rfl rfl) h0
  obtain ⟨xs1, hG1⟩ := OpenH.open_vals hsz (j := 1) rfl rfl (hval 1 23 v1 rfl rfl) h1
  obtain ⟨xs2, hG2⟩ := OpenH.open_heap hsz (j := 2) rfl rfl (hval 2 22 v2 rfl rfl) h2
  obtain ⟨xs3, hG3⟩ := OpenH.open_vals hsz (j := 3) rfl rfl (hval 3 23 v3 rfl rfl) h3
  obtain ⟨xs4, hG4⟩ := OpenH.open_heap hsz (j := 4) rfl rfl (hval 4 22 v4 rfl rfl) h4
  clear hA0 hval0
  simp only [List.append_nil] at hW'
  refine (walk v0 xs0 v1 xs1 v2 xs2 v3 xs3 v4 xs4 hG0 hG1 hG2 hG3 hG4).mono fun e W' ⟨he, hg⟩ => ?_
  subst he
  exact ⟨_, rfl, Shell.lawPost (by kernel_rfl) rfl (by kernel_rfl) rfl Try.underlying4 hW' rfl hg⟩

/-- The statement. -/
theorem proved : Rows.HeapAlikeSaid :=
  OpenClaim.holds_of_wide 4 Try.f4 rfl rfl rfl rfl rfl rfl rfl ⟨rfl, rfl, rfl, rfl, rfl⟩ rfl rfl rfl rfl rfl (by kernel_rfl) Try.func4 (by kernel_rfl)
    (of_decide_eq_true (by kernel_rfl)) (by unfold Func.isWrapper; first | (rw [if_pos (by decide +kernel)]; kernel_rfl) | (rw [if_neg (by decide +kernel)]; exact ⟨rfl, rfl⟩))
    (fun os started H enc _ => lifted os started H enc)
end Go.Proofs.Ytnkcpbfbehciaaa.heapAlike
