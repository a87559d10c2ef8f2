/-
  What is handed in stays, what is answered is new memory.
-/
import Derived.Test.YtclikfeaodfmkaaRows
import Derived.Test.YtclikfeaodfmkaaLaw15
import Derived.Test.YtclikfeaodfmkaaOpenH
import Derived.Test.YtclikfeaodfmkaaOpenI
import Derived.Deep.RegionHeld3
import Derived.Deep.LoopGhost
import Derived.Deep.DeepCutAuto
import Derived.Deep.RegionLaw
import Derived.Test.YtclikfeaodfmkaaHpRef
import Derived.Test.YtclikfeaodfmkaaHpSame
import Derived.Test.YtclikfeaodfmkaaHpApp
import Derived.Test.YtclikfeaodfmkaaHpFind
import Derived.Test.YtclikfeaodfmkaaShell
import Derived.ProofKit
import Derived.OpenShut
import Derived.SizedLaws
namespace Go.Proofs.Ytclikfeaodfmkaa.heapKeeps
open Go.ChangeShapes Go.WideShapes Go.ChangeAt Go.RowKit
open Api Mem Hp15 L15
/-- a heap of the call's own, with other rows beside it. -/
def HOwnR (w : World) (base : Nat) (v : Value) (H : Hp) (R : List Hold.Rec) : Prop := ∃ us, us.length = H.length ∧ Hold.Apart w base (outO v us H :: (inns us H ++ R))
theorem HOwnR.form {w : World} {base : Nat} {v : Value} {H : Hp} {R : List Hold.Rec} (h : HOwnR w base v H R) : ∃ A cap, v = .slice A H.length cap := by
  obtain ⟨us, hv, ha⟩ := h
  obtain ⟨A, cap, e⟩ := ha.head.form
  exact ⟨A, cap, e⟩
theorem HOwnR.below {w w' : World} {base : Nat} {v : Value} {H : Hp} {R : List Hold.Rec} (h : HOwnR w base v H R) (hb : Below w.heap.size w w') : HOwnR w' base v H R := by
  obtain ⟨us, hv, ha⟩ := h
  exact ⟨us, hv, ha.below hb⟩
/-- an object's values as they are named. -/
theorem HOwnR.at {w : World} {base : Nat} {v : Value} {H : Hp} {R : List Hold.Rec} {i : Nat} {x : Ob} (h : HOwnR w base v H R) (hx : H[i]? = some x) : ∃ g c A k, v = .slice (some ⟨g, 0, none⟩) H.length c ∧ base ≤ g ∧ g < w.heap.size ∧ w.cell? ⟨g, i * 2 + 1, none⟩ = some (.slice A x.vals.length k) := by
  obtain ⟨us, hv, ha⟩ := h
  have hi := (List.getElem?_eq_some_iff.1 hx).1
  have hr : w.ownsRow base 33 2 v H.length (obC us H) := ha.head
  obtain ⟨g, c, e, h1, h2, h3⟩ := two_addr hr (by omega)
  subst e
  obtain ⟨u0, hu0⟩ : ∃ y, us[i]? = some y := ⟨_, List.getElem?_eq_getElem (by omega)⟩
  have hy2 := obC_at hu0 hx
  have hl := obC_len hv
  have hin : VOwn w base u0 x.vals := ha.1 (inV u0 x.vals) (by simp [inns_get hu0 hx])
  obtain ⟨A, k, e⟩ := hin.form
  subst e
  exact ⟨g, c, A, k, rfl, h1, h2, (hr.cellAt (i * 2 + 1) (by omega)).trans hy2.2⟩
theorem HOwnR.write {w : World} {base : Nat} {v : Value} {H : Hp} {R : List Hold.Rec} {i j : Nat} {x : Ob} (h : HOwnR w base v H R) (hx : H[i]? = some x) (hj : j < x.vals.length) : ∃ g c b k, v = .slice (some ⟨g, 0, none⟩) H.length c ∧ base ≤ b ∧ b < w.heap.size ∧ base ≤ g ∧ g < w.heap.size ∧ w.cell? ⟨g, i * 2 + 1, none⟩ = some (.slice (some ⟨b, 0, none⟩) x.vals.length k) ∧ x.vals.length ≤ k ∧
    (∃ a, w.cell? ⟨b, j * 2, none⟩ = some a) ∧ (∃ a, w.cell? ⟨b, j * 2 + 1, none⟩ = some a) ∧ w.frozen? ⟨b, j * 2, none⟩ = false ∧ w.frozen? ⟨b, j * 2 + 1, none⟩ = false ∧
    ∀ (w' : World) (y : Vl), Below w.heap.size w w' → HOwnR ((w'.setCell ⟨b, j * 2, none⟩ (str y.ty)).setCell ⟨b, j * 2 + 1, none⟩ (i64 y.n)) base v (H.set i ⟨x.cls, x.vals.set j y⟩) R := by
  obtain ⟨us, hv, ha⟩ := h
  have hi := (List.getElem?_eq_some_iff.1 hx).1
  have hr : w.ownsRow base 33 2 v H.length (obC us H) := ha.head
  obtain ⟨g, c, e, h1, h2, h3⟩ := two_addr hr (by omega)
  subst e
  obtain ⟨u0, hu0⟩ : ∃ y, us[i]? = some y := ⟨_, List.getElem?_eq_getElem (by omega)⟩
  have hy2 := obC_at hu0 hx
  have hl := obC_len hv
  have hin : VOwn w base u0 x.vals := ha.1 (inV u0 x.vals) (by simp [inns_get hu0 hx])
  obtain ⟨b, k, e, h4, h5, h6⟩ := two_addr hin (by omega)
  subst e
  obtain ⟨z, hz⟩ : ∃ y, x.vals[j]? = some y := ⟨_, List.getElem?_eq_getElem hj⟩
  have hz2 := pcV_at hz
  have hl2 := pcV_len x.vals
  refine ⟨g, c, b, k, rfl, h4, h5, h1, h2, (hr.cellAt (i * 2 + 1) (by omega)).trans hy2.2, h6, ⟨_, (World.ownsRow.cellAt hin (j * 2) (by omega)).trans hz2.1⟩, ⟨_, (World.ownsRow.cellAt hin (j * 2 + 1) (by omega)).trans hz2.2⟩, World.ownsRow.frozenAt hin _, World.ownsRow.frozenAt hin _, fun w' y hb => ?_⟩
  obtain ⟨rest, hp⟩ := inns_at hu0 hx
  have p0 := hp (.slice (some ⟨b, 0, none⟩) x.vals.length k) x
  rw [set_same15 hu0, set_same15 hx] at p0
  have a1 := ((ha.below hb).perm ((p0.append_right R).cons _)).perm (List.Perm.swap _ _ _)
  have a2 := two_store (g := b) (c := k) (i := j) a1 rfl (str y.ty) (i64 y.n)
  have e2 : ({ inV (.slice (some ⟨b, 0, none⟩) x.vals.length k) x.vals with cs := ((inV (.slice (some ⟨b, 0, none⟩) x.vals.length k) x.vals).cs.set (j * 2) (str y.ty)).set (j * 2 + 1) (i64 y.n) } : Hold.Rec) = inV (.slice (some ⟨b, 0, none⟩) x.vals.length k) (x.vals.set j y) := by
    simp only [inV, List.length_set]
    rw [pcV_set y hj]
  rw [e2] at a2
  have a3 := (a2.perm (List.Perm.swap _ _ _)).perm ((((hp (.slice (some ⟨b, 0, none⟩) x.vals.length k) ⟨x.cls, x.vals.set j y⟩).append_right R).symm).cons _)
  refine ⟨us.set i (.slice (some ⟨b, 0, none⟩) x.vals.length k), by simp [hv], ?_⟩
  unfold outO
  have e3 : obC (us.set i (.slice (some ⟨b, 0, none⟩) x.vals.length k)) (H.set i ⟨x.cls, x.vals.set j y⟩) = obC us H := by
    rw [← obC_set (.slice (some ⟨b, 0, none⟩) x.vals.length k) ⟨x.cls, x.vals.set j y⟩ (by omega) hi, set_same15 hy2.1, set_same15 hy2.2]
  rw [List.length_set, e3]
  exact a3
/-- as many objects, each with as many fields. -/
def Shp (A A' : Hp) : Prop := A'.length = A.length ∧ ∀ (i : Nat) (x' : Ob), A'[i]? = some x' → ∃ x : Ob, A[i]? = some x ∧ x'.vals.length = x.vals.length
theorem Shp.refl (A : Hp) : Shp A A := ⟨rfl, fun _ x' h => ⟨x', h, rfl⟩⟩
theorem Shp.set {A A' : Hp} {i j : Nat} {x : Ob} {y : Vl} (h : Shp A A') (hx : A'[i]? = some x) : Shp A (A'.set i ⟨x.cls, x.vals.set j y⟩) := by
  refine ⟨by rw [List.length_set]; exact h.1, fun k z hz => ?_⟩
  have hi := (List.getElem?_eq_some_iff.1 hx).1
  by_cases e : i = k
  · subst e
    rw [List.getElem?_set_self hi] at hz
    cases hz
    obtain ⟨u, hu, hl⟩ := h.2 i x hx
    exact ⟨u, hu, by simpa using hl⟩
  · rw [List.getElem?_set_ne e] at hz
    exact h.2 k z hz
theorem Shp.at {A A' : Hp} {i : Nat} {x : Ob} (h : Shp A A') (hx : A[i]? = some x) : ∃ x', A'[i]? = some x' ∧ x'.vals.length = x.vals.length := by
  have hi := (List.getElem?_eq_some_iff.1 hx).1
  obtain ⟨x', hx'⟩ : ∃ y, A'[i]? = some y := ⟨_, List.getElem?_eq_getElem (by rw [h.1]; exact hi)⟩
  obtain ⟨z, hz, hl⟩ := h.2 i x' hx'
  rw [hx] at hz
  cases hz
  exact ⟨x', hx', hl⟩
theorem own_r {w : World} {base : Nat} {v : Value} {H : Hp} (h : HOwn w base v H) : HOwnR w base v H [] := by
  obtain ⟨us, hu, ha⟩ := h
  exact ⟨us, hu, by simpa using ha⟩
/-- a heap made behind another one. -/
theorem own_two_r {w w' : World} {base : Nat} {v u : Value} {H K : Hp} (h : HOwn w base v H) (hb : Below w.heap.size w w') (h2 : HOwn w' w.heap.size u K) (hw : base ≤ w.heap.size) : ∃ R, HOwnR w' base v H R ∧ ∀ (w9 : World) (v9 : Value) (H9 : Hp), HOwnR w9 base v9 H9 R → HOwn w9 base u K := by
  obtain ⟨us, hu, ha⟩ := h
  obtain ⟨ks, hk, hc⟩ := h2
  refine ⟨outO u ks K :: inns ks K, ⟨us, hu, (ha.join hb hc hw).perm (by simpa using (List.perm_append_comm (l₁ := outO u ks K :: inns ks K) (l₂ := outO v us H :: inns us H)))⟩, ?_⟩
  rintro w9 v9 H9 ⟨vs, hvs, h9⟩
  exact ⟨ks, hk, h9.sub (((List.sublist_append_right (inns vs H9) (outO u ks K :: inns ks K))).trans (List.sublist_cons_self _ _))⟩
theorem set_none {h k : Hp} {v : Vl} {at_ : Int} {ok : Bool} (s : SetP h ⟨[], 0⟩ at_ v k ok) : k = h := by
  rcases s with ⟨_, hf, _⟩ | ⟨_, _, e⟩
  · exact absurd hf.1.1 (by decide)
  · exact e
theorem set_keep {h k : Hp} {o v : Vl} {at_ : Int} {ok : Bool} (hs : SetP h o at_ v k ok) (hf : FewH h) : k.length ≤ 100 ∧ ∀ x ∈ k, x.vals.length ≤ 50 := by
  rcases hs with ⟨_, _, x, hx, rfl⟩ | ⟨_, _, rfl⟩
  · refine ⟨by rw [List.length_set]; exact hf.1, fun y hy => ?_⟩
    rcases List.mem_or_eq_of_mem_set hy with hy | rfl
    · have := hf.2 y hy; omega
    · have := hf.2 x (List.mem_of_getElem? hx)
      show (x.vals.set at_.toNat v).length ≤ 50
      rw [List.length_set]; omega
  · exact ⟨hf.1, fun y hy => by have := hf.2 y hy; omega⟩
theorem ones_val (ds : List Value) (x : Vl) (h : ds = vlC x) : ∀ u ∈ ds, u.oneCell' = true := by
  subst h
  intro u hu
  simp [vlC] at hu
  rcases hu with rfl | rfl <;> rfl
theorem mine_row {W w : World} {base n : Nat} {v : Value} {cs : List Value} {l : List Vl} (h : W.ownsRow base 25 2 v n cs) (hb : Below W.heap.size W w) (hc : Chk.Chunks 2 (fun cs (x : Vl) => cs = vlC x) cs l) (hl : l.length ≤ 1000) : Vls 0 w.heap.size w v l :=
  Vls.move ⟨fun k _ hk => hb.block k hk, Nat.zero_le _, hb.size⟩ (show Vls 0 W.heap.size W v l from Chk.to_row h hc (by decide) (by omega) (Nat.le_refl _) (Nat.zero_le _))
abbrev wSp : Wd := [115, 112, 111, 105, 108, 116]
set_option maxRecDepth 100000 in
set_option maxHeartbeats 16000000 in
theorem walk (v0 : Value) (h : Hp) (v1 : Value) (vals : List Vl) (v2 : Value) (o : Vl) (v3 : Value) (v : Vl) {w : World} (hq0 : Obs 0 w.heap.size w v0 h ∧ hpG h) (hq1 : Vls 0 w.heap.size w v1 vals ∧ ∀ x ∈ vals, vlG x) (hq2 : v2 = vlA o ∧ vlG o) (hq3 : v3 = vlA v ∧ vlG v) :
    Calls Try.prog 3 #[v0, v1, v2, v3] w fun e w' => e = .returned (.bool true) ∧ Below w.heap.size w w' := by
  obtain ⟨hg, hG⟩ := hq0
  obtain ⟨rfl, hGo⟩ := hq2
  obtain ⟨rfl, hGv⟩ := hq3
  obtain ⟨A0, k0, rfl⟩ := Row.form hg
  obtain ⟨A1, k1, rfl⟩ := Row.form hq1.1
  have HG := Lib.hid hg
  have HGG := Lib.hid hG
  have HA := Lib.hid hq1.1
  have HGA := Lib.hid hq1.2
  have HGV := Lib.hid hGv
  clear hg hG hGo hGv hq1
  obtain ⟨W, hW⟩ : ∃ W, (w.alloc (.cells #[str o.ty, i64 o.n] 25)).alloc (.cells #[str v.ty, i64 v.n] 25) = W := ⟨_, rfl⟩
  have hbw : Below w.heap.size w W := hW ▸ ((up15 w _).trans ((up15 _ _).mono (by simp)))
  have ho : Mem.Own W w.heap.size 25 [str o.ty, i64 o.n] := hW ▸ ((Own.made w _ _).alloc _)
  have hv : Mem.Own W (w.heap.size + 1) 25 [str v.ty, i64 v.n] := hW ▸ (made15 (by simp) _ _)
  have HBW := Lib.hid hbw
  have HOO := Lib.hid ho
  have HOV := Lib.hid hv
  have HW := Lib.hid hW
  clear hbw ho hv hW
  go_enter Try.func3, Try.ntmps3
  go_wp2_with fail
  rw [HW.out]
  refine (L15.awake_any W).mono ?_
  rintro e w1 ⟨rfl, hb1⟩
  have HB1 := Lib.hid hb1
  have HX1 := Lib.hid (HBW.out.trans (hb1.mono HBW.out.size))
  clear hb1
  go_wp2_with fail
  refine (few_any 0 w.heap.size w1 _ h (Obs.move (Still.of_below HX1.out) HG.out) HX1.out.size).mono ?_
  rintro e w2 ⟨b2, rfl, hfew, hb2⟩
  have HB2 := Lib.hid (HB1.out.trans (hb2.mono HB1.out.size))
  have HX2 := Lib.hid (HX1.out.trans (hb2.mono HX1.out.size))
  clear hb2
  cases b2 with
  | false =>
    clear hfew
    go_wp2_with fail
    refine (L15.awake_any w2).mono ?_
    rintro e wz ⟨rfl, hbz⟩
    have HZ := Lib.hid (HX2.out.trans (hbz.mono HX2.out.size))
    clear hbz
    go_wp2_with fail
    go_ret
    exact ⟨rfl, HZ.out⟩
  | true =>
    have HFW := Lib.hid (hfew rfl)
    clear hfew
    by_cases l1 : vals.length ≤ 50
    · have e1 : decide ((50 : Int) < (vals.length : Int)) = false := decide_eq_false (by omega)
      have HLH := Lib.hid (show LenH h from ⟨by have := HFW.out.1; omega, fun x hx => by have := HFW.out.2 x hx; omega⟩)
      have hla := HFW.out.1
      obtain ⟨_, o0, o1, _, _, _⟩ := box2 HOO.out HB2.out
      obtain ⟨_, v0, v1, _, _, _⟩ := box2 HOV.out HB2.out
      go_wp2_with fail
      refine (rstore_any 0 w.heap.size w2 _ h ⟨[], 0⟩ 0 v (Obs.move (Still.of_below HX2.out) HG.out) HX2.out.size HGG.out HFW.out).mono ?_
      rintro e w3 ⟨u3, ok3, k3, rfl, hs3, ho3, hb⟩
      obtain rfl : h = k3 := (set_none hs3).symm
      obtain ⟨A3, c3, rfl⟩ := ho3.form
      have HB3 := Lib.hid (HB2.out.trans (hb.mono HB2.out.size))
      have HX3 := Lib.hid (HX2.out.trans (hb.mono HX2.out.size))
      have HO3 := Lib.hid (show Obs 0 w3.heap.size w3 _ _ from Obs.move ⟨fun k _ _ => rfl, Nat.zero_le _, Nat.le_refl _⟩ (ho3.obs (hi := w3.heap.size) (Nat.le_refl _) (by omega) (fun x hx => by have := HFW.out.2 x hx; omega)))
      obtain ⟨csV, bV, oV, hcV, _, haV, hceV⟩ := Chk.of_row (show Vls 0 w.heap.size w (.slice A1 vals.length k1) vals from HA.out) (by decide)
      have HCF := Lib.hid hcV
      have HAF := Lib.hid haV
      have HCE := Lib.hid (show ∀ j u, csV[j]? = some u → w3.cell? ⟨bV, oV + j, none⟩ = some u from fun j u hj => (HX3.out.cell (p := ⟨bV, oV + j, none⟩) (World.block_lt_of_cell? w _ (hceV j u hj))).trans (hceV j u hj))
      clear hs3 ho3 hb hcV haV hceV o0 o1 v0 v1
      obtain ⟨_, o0, o1, _, _, _⟩ := box2 HOO.out HB3.out
      obtain ⟨_, v0, v1, _, _, _⟩ := box2 HOV.out HB3.out
      go_wp2_with (at_builtin; go_loud (skip; refine read_all15 rfl _ _ 23 rfl w3.heap.size 25 (.agg #[str [], i64 0]) 2 24 Try.underlying23 info_val rfl (by decide) (.slice none 0 0) 0 [] rfl (World.ownsRow_nil _ _ _ _) A1 vals.length k1 bV oV csV rfl (fun h0 => (HAF.out h0).1) HCF.out.1 HCE.out (Chk.ones_of HCF.out (by decide) ones_val) (by unfold maxLen; omega) (by omega) (Nat.le_refl _) ?_; intro v4 W4 hr4 hb4; obtain ⟨A4, c4, e8⟩ := two_form hr4; subst e8; have HR4 := Lib.hid hr4; have HB34 := Lib.hid hb4; clear hr4 hb4))
      have HB4 := Lib.hid (HB3.out.trans (HB34.out.mono HB3.out.size))
      have HX4 := Lib.hid (HX3.out.trans (HB34.out.mono HX3.out.size))
      clear o0 o1 v0 v1
      obtain ⟨_, o0, o1, _, _, _⟩ := box2 HOO.out HB4.out
      obtain ⟨_, v0, v1, _, _, _⟩ := box2 HOV.out HB4.out
      refine (new_any 0 w.heap.size W4 _ _ h wP vals (Obs.move (Still.of_below HX4.out) HG.out) (Vls.move (Still.of_below HX4.out) HA.out) HX4.out.size HGG.out HLH.out ⟨by show ([80] : Wd).length ≤ _; decide, HGA.out⟩ (by omega)).mono ?_
      rintro e w5 ⟨u5, rfl, ho5, hb⟩
      obtain ⟨A5, c5, e5⟩ := ho5.form
      rw [List.length_append, List.length_singleton] at e5
      subst e5
      obtain ⟨X5, hX5⟩ : ∃ X, w5.alloc (Obj.cells #[str wRef, i64 ((h.length : Int) + 1)] 25) = X := ⟨_, rfl⟩
      have hbx : Below w5.heap.size w5 X5 := hX5 ▸ up15 w5 _
      have hbn := hb.trans (hbx.mono hb.size)
      have HO5 := Lib.hid (ho5.below hbx)
      have HB45 := Lib.hid hbn
      have HB5 := Lib.hid (HB4.out.trans (hbn.mono HB4.out.size))
      have HX5 := Lib.hid (HX4.out.trans (hbn.mono HX4.out.size))
      have HS5 := Lib.hid hX5
      have HBW5 := Lib.hid (HB4.out.trans (hb.mono HB4.out.size))
      clear ho5 hb hbx hbn hX5 o0 o1 v0 v1
      obtain ⟨_, o0, o1, _, _, _⟩ := box2 HOO.out HBW5.out
      obtain ⟨_, v0, v1, _, _, _⟩ := box2 HOV.out HBW5.out
      go_wp2_with fail
      rw [HS5.out]
      clear o0 o1 v0 v1
      refine (store_any 0 w.heap.size X5 _ h o 0 v (Obs.move (Still.of_below HX5.out) HG.out) HX5.out.size HGG.out HLH.out HGV.out).mono ?_
      rintro e w6 ⟨u6, ok6, k6, rfl, hs6, ho6, hb⟩
      obtain ⟨A6, c6, e6⟩ := ho6.form
      subst e6
      have hkl := set_keep hs6 HFW.out
      obtain ⟨R, hor, hback⟩ := own_two_r HO5.out hb ho6 HB45.out.size
      obtain ⟨AH, hAH⟩ : ∃ x, x = h ++ [(⟨wP, vals⟩ : Ob)] := ⟨_, rfl⟩
      rw [← hAH] at hor
      have HEA := Lib.hid (show AH.length = h.length + 1 by rw [hAH, List.length_append, List.length_singleton])
      have HLN := Lib.hid (show ∀ x ∈ AH, x.vals.length ≤ 50 by
        intro x hx
        rw [hAH] at hx
        rcases List.mem_append.1 hx with hx | hx
        · have := HFW.out.2 x hx; omega
        · rw [List.mem_singleton] at hx; subst hx; exact l1)
      have HLK := Lib.hid hkl.2
      replace hkl := hkl.1
      have HOR := Lib.hid hor
      have HBK := Lib.hid hback
      have HB46 := Lib.hid (HB45.out.trans (hb.mono HB45.out.size))
      have HS6 := Lib.hid hs6
      have HKL := Lib.hid hkl
      clear hs6 ho6 hb hor hback hkl
      clear hAH HO5
      go_wp2_with fail
      go_loopw [16] (fun i wr => ∃ (d : Nat) (A' : Hp), d ≤ (h.length + 1) ∧ i = .int .i64 d ∧ Hid (Shp AH A') ∧ Hid (HOwnR wr W4.heap.size (.slice A5 (h.length + 1) c5) A' R) ∧ Hid (Below W4.heap.size W4 wr)) (fun i _ => (h.length + 1) - (intOf i).toNat)
      case atStart => exact ⟨0, AH, Nat.zero_le _, rfl, Lib.hid (Shp.refl _), HOR, HB46⟩
      case round =>
      obtain ⟨d, A1, hd, rfl, HSH, HOW, HBr⟩ := hrel
      by_cases hlt : d < (h.length + 1)
      · obtain ⟨x, hx⟩ : ∃ x, AH[d]? = some x := ⟨_, List.getElem?_eq_getElem (by rw [HEA.out]; exact hlt)⟩
        have HXX := Lib.hid hx
        have hxl : x.vals.length ≤ 50 := HLN.out x (List.mem_of_getElem? hx)
        obtain ⟨wo, hwo⟩ : ∃ wo, wo = wr := ⟨_, rfl⟩
        subst hwo
        clear hx
        go_wp2_with fail
        go_loopw [17] (fun i wr => ∃ (m : Nat) (A' : Hp), m ≤ x.vals.length ∧ i = .int .i64 m ∧ Hid (Shp AH A') ∧ Hid (HOwnR wr W4.heap.size (.slice A5 (h.length + 1) c5) A' R) ∧ Hid (Below W4.heap.size W4 wr)) (fun i _ => x.vals.length - (intOf i).toNat)
        case atStart => exact ⟨0, A1, Nat.zero_le _, rfl, HSH, HOW, HBr⟩
        case round =>
        obtain ⟨m, A2, hm, rfl, HSH2, HOW2, HBr2⟩ := hrel
        obtain ⟨x2, hx2, hl2⟩ := HSH2.out.at HXX.out
        have HX2 := Lib.hid hx2
        have HLX := Lib.hid hl2
        clear hx2 hl2
        by_cases hlt2 : m < x.vals.length
        · obtain ⟨g, c, b, kk, e3, h1, h2, h1g, h2g, mc, hkk, ⟨y0, f0⟩, ⟨y1, f1⟩, f2, f3, f4⟩ := HOW2.out.write HX2.out (j := m) (by rw [HLX.out]; exact hlt2)
          rw [HSH2.out.1, HEA.out] at e3
          injection e3 with e4 e5 e6
          subst e4
          subst e6
          rw [HLX.out] at mc hkk
          have HN := Lib.hid (f4 wr ⟨wSp, 0⟩ (Below.refl _ _))
          have HB4 := Lib.hid h1
          clear f4 h1 h1g e5
          go_wp2_with fail
          go_roundw
          case rel => exact ⟨m + 1, _, by omega, by go_num, Lib.hid (HSH2.out.set HX2.out), HN, Lib.hid ((HBr2.out.setCell (p := ⟨b, m * 2, none⟩) HB4.out _).setCell (p := ⟨b, m * 2 + 1, none⟩) HB4.out _)⟩
          case measure => simp [intOf]; omega
        · obtain rfl : m = x.vals.length := by omega
          obtain ⟨g, c, A9, kk, e3, h1, h2, mc⟩ := HOW2.out.at HX2.out
          rw [HSH2.out.1, HEA.out] at e3
          injection e3 with e4 e5 e6
          subst e4
          subst e6
          rw [HLX.out] at mc
          clear h1 e5
          go_wp2_with fail
          go_roundw
          case rel => exact ⟨d + 1, A2, by omega, by go_num, HSH2, HOW2, HBr2⟩
          case measure => simp [intOf]; omega
      · obtain rfl : d = h.length + 1 := by omega
        have HOB := Lib.hid (own_r (HBK.out _ _ _ HOW.out))
        have HKL2 := HKL.out
        go_wp2_with fail
        go_loopw [18] (fun i wr => ∃ (d : Nat) (A' : Hp), d ≤ k6.length ∧ i = .int .i64 d ∧ Hid (Shp k6 A') ∧ Hid (HOwnR wr W4.heap.size (.slice A6 k6.length c6) A' []) ∧ Hid (Below W4.heap.size W4 wr)) (fun i _ => k6.length - (intOf i).toNat)
        case atStart => exact ⟨0, k6, Nat.zero_le _, rfl, Lib.hid (Shp.refl _), HOB, HBr⟩
        case round =>
        obtain ⟨d, A1, hd, rfl, HSH, HOW, HBr⟩ := hrel
        by_cases hlt : d < k6.length
        · obtain ⟨x, hx⟩ : ∃ x, k6[d]? = some x := ⟨_, List.getElem?_eq_getElem (hlt)⟩
          have HXX := Lib.hid hx
          have hxl : x.vals.length ≤ 50 := HLK.out x (List.mem_of_getElem? hx)
          obtain ⟨wo, hwo⟩ : ∃ wo, wo = wr := ⟨_, rfl⟩
          subst hwo
          clear hx
          go_wp2_with fail
          go_loopw [19] (fun i wr => ∃ (m : Nat) (A' : Hp), m ≤ x.vals.length ∧ i = .int .i64 m ∧ Hid (Shp k6 A') ∧ Hid (HOwnR wr W4.heap.size (.slice A6 k6.length c6) A' []) ∧ Hid (Below W4.heap.size W4 wr)) (fun i _ => x.vals.length - (intOf i).toNat)
          case atStart => exact ⟨0, A1, Nat.zero_le _, rfl, HSH, HOW, HBr⟩
          case round =>
          obtain ⟨m, A2, hm, rfl, HSH2, HOW2, HBr2⟩ := hrel
          obtain ⟨x2, hx2, hl2⟩ := HSH2.out.at HXX.out
          have HX2 := Lib.hid hx2
          have HLX := Lib.hid hl2
          clear hx2 hl2
          by_cases hlt2 : m < x.vals.length
          · obtain ⟨g, c, b, kk, e3, h1, h2, h1g, h2g, mc, hkk, ⟨y0, f0⟩, ⟨y1, f1⟩, f2, f3, f4⟩ := HOW2.out.write HX2.out (j := m) (by rw [HLX.out]; exact hlt2)
            rw [HSH2.out.1] at e3
            injection e3 with e4 e5 e6
            subst e4
            subst e6
            rw [HLX.out] at mc hkk
            have HN := Lib.hid (f4 wr ⟨wSp, 0⟩ (Below.refl _ _))
            have HB4 := Lib.hid h1
            clear f4 h1 h1g e5
            go_wp2_with fail
            go_roundw
            case rel => exact ⟨m + 1, _, by omega, by go_num, Lib.hid (HSH2.out.set HX2.out), HN, Lib.hid ((HBr2.out.setCell (p := ⟨b, m * 2, none⟩) HB4.out _).setCell (p := ⟨b, m * 2 + 1, none⟩) HB4.out _)⟩
            case measure => simp [intOf]; omega
          · obtain rfl : m = x.vals.length := by omega
            obtain ⟨g, c, A9, kk, e3, h1, h2, mc⟩ := HOW2.out.at HX2.out
            rw [HSH2.out.1] at e3
            injection e3 with e4 e5 e6
            subst e4
            subst e6
            rw [HLX.out] at mc
            clear h1 e5
            go_wp2_with fail
            go_roundw
            case rel => exact ⟨d + 1, A2, by omega, by go_num, HSH2, HOW2, HBr2⟩
            case measure => simp [intOf]; omega
        · obtain rfl : d = k6.length := by omega
          have HXZ := Lib.hid (HX4.out.trans (HBr.out.mono HX4.out.size))
          have HB4Z := HBr
          go_wp2_with fail
          refine (yesH (same_any 0 wr.heap.size wr _ _ h h (Obs.move ⟨fun k _ hk => HXZ.out.block k hk, Nat.zero_le _, HXZ.out.size⟩ HG.out) (obs_up HO3.out (HB34.out.trans (HBr.out.mono HB34.out.size))) (Nat.le_refl _)) rfl).mono ?_
          rintro e wy ⟨rfl, hb⟩
          have HXY := Lib.hid (HXZ.out.trans (hb.mono HXZ.out.size))
          have HM := Lib.hid (mine_row (show W4.ownsRow w3.heap.size 25 2 (.slice A4 vals.length c4) vals.length csV from (by simpa using HR4.out)) (Below.trans HBr.out (hb.mono HBr.out.size)) HCF.out (by omega))
          clear hb
          go_wp2_with fail
          refine (yesH (sameVals_any 0 wy.heap.size wy _ _ vals vals (Vls.move ⟨fun k _ hk => HXY.out.block k hk, Nat.zero_le _, HXY.out.size⟩ HA.out) HM.out (Nat.le_refl _)) rfl).mono ?_
          rintro e wz ⟨rfl, hb⟩
          have HXW := Lib.hid (HXY.out.trans (hb.mono HXY.out.size))
          clear hb
          go_wp2_with fail
          go_ret
          exact ⟨rfl, HXW.out⟩
    · have e1 : decide ((50 : Int) < (vals.length : Int)) = true := decide_eq_true (by omega)
      go_wp2_with fail
      refine (L15.awake_any w2).mono ?_
      rintro e wz ⟨rfl, hbz⟩
      have HZ := Lib.hid (HX2.out.trans (hbz.mono HX2.out.size))
      clear hbz
      go_wp2_with fail
      go_ret
      exact ⟨rfl, HZ.out⟩

set_option maxRecDepth 100000 in
theorem lifted (os : Os) (started : os.Started) (H : Type) (enc : TypeId × Value → H) :
    ReturnsInHanded {} Try.checked os 3 .any (Rows.heapKeepsSpec.pre6 enc Try.prog Try.f3 Rows.heapKeepsRow.domain false) (Rows.heapKeepsSpec.post enc Try.prog Try.f3 false true false false) := by
  refine returnsInHanded_of_change_sized (C := Try.checked) (by kernel_rfl) started (by kernel_rfl) Try.func3
    (ChangeSpec.witness6 (enc := enc) (C := Try.checked) false ⟨#[], #[.slice none 0 0, .slice none 0 0, .agg #[.string ⟨#[]⟩, .int .i64 0], .agg #[.string ⟨#[]⟩, .int .i64 0]], []⟩ 8 (by kernel_rfl) (by kernel_rfl) (by kernel_rfl) (by kernel_rfl)) ?_
  intro W base args ds gs before hval0 hW hcnd hsz0 _
  have hval : ∀ (j : Nat) t v, Try.f3.params[j]? = some t → args[j]? = some v → Value.okWide Try.prog W .any base t v := hval0
  have hW' := hW
  obtain ⟨p, q, hA0, hV, rfl, hfz, hnd⟩ := hW
  have hsz : (DataW.weightsEach Try.prog (Try.f3.params.toList ++ Rows.heapKeepsSpec.plain.varTypes Try.prog) (ds ++ gs)).all (· ≤ reachBytes) = true := hsz0
  have hA : DataW.TrodAll enc Try.prog W 0 (fun _ => true) true Try.f3.params.toList args.toList ds p := hA0
  rw [Try.params3] at hA hval hsz
  obtain ⟨v0, vs0, d0, ds0, p0, q0, hargs, rfl, rfl, h0, r0⟩ := trodAll_cons hA
  obtain ⟨v1, vs1, d1, ds1, p1, q1, rfl, rfl, rfl, h1, r1⟩ := trodAll_cons r0
  obtain ⟨v2, vs2, d2, ds2, p2, q2, rfl, rfl, rfl, h2, r2⟩ := trodAll_cons r1
  obtain ⟨v3, vs3, d3, ds3, p3, q3, rfl, rfl, rfl, h3, r3⟩ := trodAll_cons r2
  obtain ⟨rfl, rfl, rfl⟩ := trodAll_nil r3
  obtain rfl : args = #[v0, v1, v2, v3] := by cases args; simp_all
  obtain ⟨rfl, rfl⟩ := trodVars_none hV
  obtain ⟨xs0, hG0⟩ := OpenH.open_heap hsz (j := 0) rfl rfl (hval 0 22 v0 rfl rfl) h0
  obtain ⟨xs1, hG1⟩ := OpenH.open_vals hsz (j := 1) rfl rfl (hval 1 23 v1 rfl rfl) h1
  obtain ⟨xs2, hG2⟩ := OpenH.open_val hsz (j := 2) rfl rfl (hval 2 25 v2 rfl rfl) h2
  obtain ⟨xs3, hG3⟩ := OpenH.open_val hsz (j := 3) rfl rfl (hval 3 25 v3 rfl rfl) h3
  clear hA0 hval0
  simp only [List.append_nil] at hW'
  refine (walk v0 xs0 v1 xs1 v2 xs2 v3 xs3 hG0 hG1 hG2 hG3).mono fun e W' ⟨he, hg⟩ => ?_
  subst he
  exact ⟨_, rfl, Shell.lawPost (by kernel_rfl) rfl (by kernel_rfl) rfl Try.underlying4 hW' rfl hg⟩

/-- The statement. -/
theorem proved : Rows.HeapKeepsSaid :=
  OpenClaim.holds_of_wide 3 Try.f3 rfl rfl rfl rfl rfl rfl rfl ⟨rfl, rfl, rfl, rfl, rfl⟩ rfl rfl rfl rfl rfl (by kernel_rfl) Try.func3 (by kernel_rfl)
    (of_decide_eq_true (by kernel_rfl)) (by unfold Func.isWrapper; first | (rw [if_pos (by decide +kernel)]; kernel_rfl) | (rw [if_neg (by decide +kernel)]; exact ⟨rfl, rfl⟩))
    (fun os started H enc _ => lifted os started H enc)
end Go.Proofs.Ytclikfeaodfmkaa.heapKeeps
