/-
  Layer 15: package heap's follow and Alike, walked.
-/
import Derived.Test.YtclikfeaodfmkaaHpList
import Derived.Deep.LoopGhost
import Derived.IntWalk
import Derived.Deep.DeepCutAuto
namespace Go.Proofs.Ytclikfeaodfmkaa.Hp15
open Go.RowKit Api Mem Go.Maps

theorem row_pop {w : World} {B : Nat} {e : TypeId} {A : Option Addr} {n c : Nat} {xs : List Value} {x : Value} (h : w.ownsRow B e 1 (.slice A (n + 1) c) (n + 1) (xs ++ [x])) : w.ownsRow B e 1 (.slice A n c) n xs ∧ ∃ g, A = some ⟨g, 0, none⟩ ∧ w.cell? ⟨g, n, none⟩ = some x ∧ n + 1 ≤ c := by
  have hl := h.1
  simp only [List.length_append, List.length_singleton, Nat.mul_one] at hl
  rcases h.2 with ⟨_, h0⟩ | ⟨g, cap, cur, e2, hb, hg, h1, h2, h3, h4⟩
  · omega
  · injection e2 with e3 e4 e5
    subst e3
    subst e5
    refine ⟨⟨by omega, .inr ⟨g, c, cur, rfl, hb, hg, by omega, h2, h3, ?_⟩⟩, g, rfl, ?_, h1⟩
    · rw [Nat.mul_one] at h4 ⊢
      have e6 : cur.toList.take n = (cur.toList.take (n + 1)).take n := by rw [List.take_take, Nat.min_eq_left (Nat.le_succ n)]
      rw [e6, h4, List.take_append_of_le_length (by omega), List.take_of_length_le (by omega)]
    · have := World.ownsRow.cells h (g := g) rfl n x (by rw [List.getElem?_append_right (by omega)]; simp [show n - xs.length = 0 by omega])
      have e1 : (⟨g, 0, none⟩ : Addr).add n = ⟨g, n, none⟩ := by unfold Addr.add; split <;> simp_all
      rw [e1] at this
      exact this
theorem PM.drew {w : World} {B pb : Nat} {v1 v2 vr : Value} {g1 g2 : Nat} {T : PT} {q : List Int} (h : PM w B pb v1 v2 vr g1 g2 T q) : PM w.drew B pb v1 v2 vr g1 g2 T q := ⟨h.box, h.m1, h.m2, h.ne, h.row, h.b1, h.b2, h.b3⟩
theorem boxes_ab {W2 W5 : World} {t : TypeId} {a b c d : Value} (h : ((W2.alloc (.cells #[a, b] t)).alloc (.cells #[c, d] t)).drew = W5) : Mem.Own W5 W2.heap.size t [a, b] ∧ Mem.Own W5 (W2.heap.size + 1) t [c, d] ∧ Below W2.heap.size W2 W5 := by
  subst h
  refine ⟨((Own.made W2 t [a, b]).alloc _).drew, ?_, ((up15 W2 _).trans ((up15 _ _).mono (by simp))).drew⟩
  have := (Own.made (W2.alloc (.cells #[a, b] t)) t [c, d]).drew
  rw [show (W2.alloc (.cells #[a, b] t)).heap.size = W2.heap.size + 1 by simp] at this
  exact this
/-- what follow answers. -/
def FolP (h k : Hp) (T : PT) (B : Nat) (w : World) (e : Ending) (w' : World) : Prop :=
  ∃ b : Bool, e = .returned (.bool b) ∧ (b = true → ∃ P, InjP P ∧ ClP h k P ∧ ∀ n m, (n, m) ∈ T → P n m) ∧ (b = false → ∀ P, InjP P → ClP h k P → ¬ ∀ n m, (n, m) ∈ T → P n m) ∧ Below B w w'
set_option maxRecDepth 100000 in
set_option maxHeartbeats 8000000 in
theorem follow_any {h k : Hp} {T : PT} {q : List Int} {lo hi : Nat} {w : World} {B pb : Nat} {v1 v2 vr : Value} {g1 g2 : Nat} (hM : PM w B pb v1 v2 vr g1 g2 T q) (hF : Full h k T q) (hl : q.length ≤ T.length) (hG1 : hpG h) (hG2 : hpG k) (hT : h.length ≤ 1000) (hT2 : k.length ≤ 1000) (hBw : B ≤ w.heap.size) (hh : hi ≤ B) (h1 : Obs lo hi w v1 h) (h2 : Obs lo hi w v2 k) :
    Calls Try.prog 21 #[.pointer (some ⟨pb, 0, none⟩)] w (FolP h k T B w) := by
  obtain ⟨A1, c1, rfl⟩ := Row.form h1
  obtain ⟨A2, c2, rfl⟩ := Row.form h2
  have HM := Lib.hid hM
  have HFU := Lib.hid hF
  have HL := Lib.hid hl
  have HG1 := Lib.hid hG1
  have HG2 := Lib.hid hG2
  have H1 := Lib.hid h1
  have H2 := Lib.hid h2
  have HBw := Lib.hid hBw
  clear hM hF hl hG1 hG2 h1 h2 hBw
  go_enter Try.func21, Try.ntmps21
  go_wp2_with fail
  go_loopg [3] (leftM h T q) (fun gg nv wr => ∃ (T' : PT) (q' : List Int) (vr' : Value), leftM h T' q' ≤ gg ∧ q'.length ≤ T'.length ∧ Hid (Full h k T' q') ∧ Hid (∀ P, InjP P → ClP h k P → (∀ n m, (n, m) ∈ T → P n m) → ∀ n m, (n, m) ∈ T' → P n m) ∧ Hid (∀ n m, (n, m) ∈ T → (n, m) ∈ T') ∧ Hid (PM wr B pb (.slice A1 h.length c1) (.slice A2 k.length c2) vr' g1 g2 T' q') ∧ Hid (Below B w wr))
  case atStart => exact ⟨T, q, vr, Nat.le_refl _, HL.out, HFU, Lib.hid (fun P _ _ hp => hp), Lib.hid (fun n m hm => hm), HM, Lib.hid (Below.refl _ _)⟩
  case round =>
  obtain ⟨T', q', vr', hgk, hql, HF, HFO, HSU, HMr, HBr⟩ := hrel
  obtain ⟨Ar, cr, rfl⟩ := row_form15 HMr.out.row
  obtain ⟨p0, p1, p2, p3, p4⟩ := HMr.out.cells
  have p5 := HMr.out.box.thaw 4
  have p6 := HMr.out.box.lt
  rcases List.eq_nil_or_concat q' with rfl | ⟨r, n, rfl⟩
  · have HP := Lib.hid (show ∃ P, InjP P ∧ ClP h k P ∧ ∀ n m, (n, m) ∈ T → P n m from ⟨RT T', HF.out.base.inj, HF.out.last, HSU.out⟩)
    go_wp2_with fail
    go_ret
    exact ⟨true, rfl, fun _ => HP.out, fun h => (by cases h), HBr.out⟩
  · rw [List.concat_eq_append] at HF HMr hgk hql
    have hrow := HMr.out.row
    rw [List.length_append, List.length_singleton, List.map_append] at hrow
    obtain ⟨hrow2, g, rfl, hcell, hcap⟩ := row_pop hrow
    rw [List.concat_eq_append, List.length_append, List.length_singleton] at p4
    have hTl := HF.out.base.len
    rw [List.length_append, List.length_singleton] at hql
    have hrl : r.length ≤ 1000 := by omega
    have HR2 := Lib.hid hrow2
    have hn := HF.out.sub n (by simp)
    obtain ⟨⟨n', m⟩, hnm, e⟩ := List.mem_map.1 hn
    simp only at e
    subst e
    have HNM := Lib.hid hnm
    clear hrow hrow2 hn hnm
    go_wp2_with fail
    go_region
    go_wp2_with fail
    go_region
    obtain ⟨W2, hW2⟩ : ∃ W2, (wr.setCell ⟨pb, 4, none⟩ (.slice (some ⟨g, 0, none⟩) r.length cr)).drew.drew = W2 := ⟨_, rfl⟩
    have HM2 := Lib.hid (show PM W2 B pb (.slice A1 h.length c1) (.slice A2 k.length c2) (.slice (some ⟨g, 0, none⟩) r.length cr) g1 g2 T' r from hW2 ▸ (HMr.out.turn_row (w' := wr) (q' := r) ⟨rfl, rfl, rfl, Nat.le_refl _, fun _ _ _ => rfl⟩ HR2.out).drew.drew)
    have HB2 := Lib.hid (show Below B w W2 from hW2 ▸ ((HBr.out.setCell (p := ⟨pb, 4, none⟩) HMr.out.b1 _).drew.drew))
    rw [hW2]
    clear hW2 hcell p0 p1 p2 p3 p4 p5 p6
    obtain ⟨W3, hW3⟩ : ∃ W3, (W2.alloc (.cells #[Value.string ⟨#[]⟩, .slice none 0 0] 33)).alloc (.cells #[Value.string ⟨#[]⟩, .slice none 0 0] 33) = W3 := ⟨_, rfl⟩
    have HB23 := Lib.hid (show Below W2.heap.size W2 W3 from hW3 ▸ (up15 W2 _).trans ((up15 _ _).mono (by simp)))
    have HOA := Lib.hid (show Mem.Own W3 W2.heap.size 33 [Value.string ⟨#[]⟩, .slice none 0 0] from hW3 ▸ (Own.made W2 _ _).alloc _)
    have HOB := Lib.hid (show Mem.Own W3 (W2.heap.size + 1) 33 [Value.string ⟨#[]⟩, .slice none 0 0] from hW3 ▸ (show W2.heap.size + 1 = (W2.alloc (.cells #[Value.string ⟨#[]⟩, .slice none 0 0] 33)).heap.size by simp) ▸ Own.made _ _ _)
    have HM3 := Lib.hid (HM2.out.below HB23.out)
    have hBW2 := Nat.le_trans HBw.out HB2.out.size
    have HB3 := Lib.hid (HB2.out.trans (HB23.out.mono hBW2))
    have HBW2 := Lib.hid hBW2
    clear hBW2
    obtain ⟨p0, p1, p2, p3, p4⟩ := HM3.out.cells
    obtain ⟨z0, z1, z2, z3, z4⟩ := HM2.out.cells
    have zl := HM2.out.box.lt
    have zl1 : pb < W2.heap.size + 1 := by omega
    have zl2 : pb < W2.heap.size + 1 + 1 := by omega
    obtain ⟨_, s0, s1, s2, s3, s4⟩ := box2 HOA.out (Below.refl _ _)
    obtain ⟨_, t0, t1, t2, t3, t4⟩ := box2 HOB.out (Below.refl _ _)
    obtain ⟨⟨o, ho⟩, ⟨p, hp⟩⟩ := HF.out.base.inr n' m HNM.out
    obtain ⟨i, ⟨hi1, hi2⟩, hi3⟩ : ∃ i : Nat, (n' = (i : Int) + 1 ∧ i < h.length) ∧ h[i]? = some o := by
      obtain ⟨r1, r2, r3⟩ := obj_range ho
      exact ⟨(n' - 1).toNat, ⟨by omega, by omega⟩, r3⟩
    obtain ⟨j, ⟨hj1, hj2⟩, hj3⟩ : ∃ j : Nat, (m = (j : Int) + 1 ∧ j < k.length) ∧ k[j]? = some p := by
      obtain ⟨r1, r2, r3⟩ := obj_range hp
      exact ⟨(m - 1).toNat, ⟨by omega, by omega⟩, r3⟩
    subst hi1
    subst hj1
    have hnn : NumM.In ((i : Int) + 1) := ⟨by omega, by omega⟩
    have hlook : ∀ V : World, MO V g1 T' → (Instr.lookup 46 (.map (some g1)) (i64 ((i : Int) + 1)) false).run Try.prog V = .ok (i64 ((j : Int) + 1)) V := fun V hV => by
      obtain ⟨cc, hrun, hat, _⟩ := World.ownsMap.lookup_int (t := 46) (show V.ownsMap Try.prog 2 (plainElem Try.prog 2) g1 T'.length (tabI T') from hV) lawI Try.underlying46 Try.underlying2 (zeroI64 _) (key_int hnn)
      have e1 := tabI_at HF.out.base.fst HNM.out
      rw [e1] at hat
      injection hat with e2
      injection e2 with _ e3
      rw [e3]
      exact hrun
    obtain ⟨b1, o1, rfl, _⟩ := addr2 H1.out (by omega)
    obtain ⟨b2, o2, rfl, _⟩ := addr2 H2.out (by omega)
    obtain ⟨A3, k3, hv1, cc1⟩ := ob_at H1.out hi3
    obtain ⟨A4, k4, hv2, cc2⟩ := ob_at H2.out hj3
    obtain ⟨n1, n2⟩ := cc1 W2 (HB2.out.mono hh)
    obtain ⟨n3, n4⟩ := cc2 W2 (HB2.out.mono hh)
    have yl := World.block_lt_of_cell? W2 _ n1
    have xl := World.block_lt_of_cell? W2 _ n3
    simp only at yl xl
    have yl1 : b1 < W2.heap.size + 1 := by omega
    have yl2 : b1 < W2.heap.size + 1 + 1 := by omega
    have xl1 : b2 < W2.heap.size + 1 := by omega
    have xl2 : b2 < W2.heap.size + 1 + 1 := by omega
    obtain ⟨m1, m2⟩ := cc1 W3 (HB3.out.mono hh)
    obtain ⟨m3, m4⟩ := cc2 W3 (HB3.out.mono hh)
    have HV1 := Lib.hid hv1
    have HV2 := Lib.hid hv2
    have HHO := Lib.hid hi3
    have HHP := Lib.hid hj3
    have HOO := Lib.hid ho
    have HPP := Lib.hid hp
    have ei : IntKind.i64.wrap (i : Int) = (i : Int) := IntWalk.i64_in _ ⟨by omega, by omega⟩
    have ej : IntKind.i64.wrap (j : Int) = (j : Int) := IntWalk.i64_in _ ⟨by omega, by omega⟩
    clear hv1 hv2 hi3 hj3 ho hp cc1 cc2
    have hm1 := HM2.out.m1
    have r0 := hlook W2.drew hm1
    have r1 := hlook _ (show MO ((W2.alloc (.cells #[.string ⟨#[]⟩, .slice none 0 0] 33)).alloc (.cells #[.string ⟨#[]⟩, .slice none 0 0] 33)).drew g1 T' from hm1.below (((up15 W2 _).trans ((up15 _ _).mono (by simp))).drew) hm1.lt)
    have r2 := hlook _ (show MO ((W2.alloc (.cells #[.string ⟨#[]⟩, .slice none 0 0] 33)).alloc (.cells #[.string ⟨o.cls.toArray⟩, .slice A3 o.vals.length k3] 33)).drew g1 T' from hm1.below (((up15 W2 _).trans ((up15 _ _).mono (by simp))).drew) hm1.lt)
    have r3 := hlook _ (show MO ((W2.alloc (.cells #[.string ⟨o.cls.toArray⟩, .slice A3 o.vals.length k3] 33)).alloc (.cells #[.string ⟨#[]⟩, .slice none 0 0] 33)).drew g1 T' from hm1.below (((up15 W2 _).trans ((up15 _ _).mono (by simp))).drew) hm1.lt)
    have r4 := hlook _ (show MO (W2.alloc (.cells #[.string ⟨#[]⟩, .slice none 0 0] 33)).drew g1 T' from hm1.below ((up15 W2 _).drew) hm1.lt)
    have r5 := hlook _ (show MO (W2.alloc (.cells #[.string ⟨o.cls.toArray⟩, .slice A3 o.vals.length k3] 33)).drew g1 T' from hm1.below ((up15 W2 _).drew) hm1.lt)
    clear hm1 hlook hnn
    subst hW3
    go_wp2_with fail
    go_cut [4, 5] (fun av bv wx => ∃ ga gb : Nat, av = .pointer (some ⟨ga, 0, none⟩) ∧ bv = .pointer (some ⟨gb, 0, none⟩) ∧ Hid (Mem.Own wx ga 33 [str o.cls, .slice A3 o.vals.length k3]) ∧ Hid (Mem.Own wx gb 33 [str p.cls, .slice A4 p.vals.length k4]) ∧ Hid (Below W2.heap.size W2 wx))
    case first =>
      rename_i J9 K9 hRJ hMK
      go_region
      all_goals
        refine hMK _ _ (hRJ _ _ ?_)
        clear hMK hRJ
        (repeat apply Exists.intro)
        first
          | exact ⟨⟨W2.heap.size, W2.heap.size + 1, rfl, rfl, Lib.hid (boxes_ab rfl).1, Lib.hid (boxes_ab rfl).2.1, Lib.hid (boxes_ab rfl).2.2⟩, rfl⟩
          | exact ⟨⟨W2.heap.size + 1, W2.heap.size, rfl, rfl, Lib.hid (boxes_ab rfl).2.1, Lib.hid (boxes_ab rfl).1, Lib.hid (boxes_ab rfl).2.2⟩, rfl⟩
    case rest =>
    obtain ⟨ga, gb, rfl, rfl, HA5, HB5x, HC5⟩ := hcut
    clear z0 z1 z2 z3 z4 zl zl1 zl2 n1 n2 n3 n4 yl yl1 yl2 xl xl1 xl2 m1 m2 m3 m4 r0 r1 r2 r3 r4 r5 p0 p1 p2 p3 p4
    obtain ⟨W5, hW5⟩ : ∃ W5, W5 = wc := ⟨_, rfl⟩
    subst hW5
    have hA5 := HA5.out
    have hB5 := HB5x.out
    have hb5 := HC5.out
    have HB5 := Lib.hid (HB2.out.trans (hb5.mono HBW2.out))
    have HM5 := Lib.hid (HM2.out.below hb5)
    obtain ⟨_, s0, s1, _, _, _⟩ := box2 hA5 (Below.refl _ _)
    obtain ⟨_, t0, t1, _, _, _⟩ := box2 hB5 (Below.refl _ _)
    have hW5s := Nat.le_trans HBW2.out hb5.size
    clear hA5 hB5 hb5
    by_cases hcl : o.cls = p.cls
    · have e1 : (o.cls == p.cls) = true := by simpa using hcl
      have HCL := Lib.hid hcl
      clear hcl
      go_wp2_with fail
      refine (list_any (h := h) (k := k) (T := T') (q := r) (lo := lo) (hi := hi) HM5.out HF.out.base (Vls.move (Still.of_below (HB5.out.mono hh)) HV1.out) (Vls.move (Still.of_below (HB5.out.mono hh)) HV2.out) (HG1.out o (List.mem_of_getElem? HHO.out)).2 (HG2.out p (List.mem_of_getElem? HHP.out)).2 hrl hT hW5s hh (Obs.move (Still.of_below (HB5.out.mono hh)) H1.out) (Obs.move (Still.of_below (HB5.out.mono hh)) H2.out)).mono ?_
      rintro e w7 ⟨b7, rfl, hy7, hn7, hb7⟩
      have HB7 := Lib.hid (HB5.out.trans hb7)
      have HY7 := Lib.hid hy7
      have HN7 := Lib.hid hn7
      clear hy7 hn7 hb7
      cases b7 with
      | true =>
        obtain ⟨T2, q2, vr2, hs2, hm2⟩ := HY7.out rfl
        have hlt := left_less (n := (i : Int) + 1) hs2
        have hll := hs2.len
        have HM9 := Lib.hid hm2
        have HF9 := Lib.hid (HF.out.next HNM.out HOO.out HPP.out HCL.out hs2)
        have HFO9 := Lib.hid (show ∀ P, InjP P → ClP h k P → (∀ n m, (n, m) ∈ T → P n m) → ∀ n m, (n, m) ∈ T2 → P n m from fun P hi hc hs => by
          have hs' := HFO.out P hi hc hs
          refine hs2.forced P hi hs' ?_
          obtain ⟨o', p', a1, a2, _, a4⟩ := hc _ _ (hs' _ _ HNM.out)
          rw [HOO.out] at a1
          rw [HPP.out] at a2
          cases a1
          cases a2
          exact a4)
        have HSU9 := Lib.hid (fun n m hm => hs2.sub n m (HSU.out n m hm))
        have HLM := Lib.hid (show leftM h T2 q2 < gk from Nat.lt_of_lt_of_le hlt hgk)
        have HQL := Lib.hid (show q2.length ≤ T2.length by omega)
        clear hs2 hm2 hlt hll
        go_wp2_with fail
        go_roundg (leftM h T2 q2)
        case measure => exact HLM.out
        case rel => exact ⟨T2, q2, vr2, Nat.le_refl _, HQL.out, HF9, HFO9, HSU9, HM9, HB7⟩
      | false =>
        have HX := Lib.hid (show ∀ P, InjP P → ClP h k P → ¬ ∀ n m, (n, m) ∈ T → P n m from fun P hi hc hs => by
          have hs' := HFO.out P hi hc hs
          refine HN7.out rfl P hi hs' ?_
          obtain ⟨o', p', a1, a2, _, a4⟩ := hc _ _ (hs' _ _ HNM.out)
          rw [HOO.out] at a1
          rw [HPP.out] at a2
          cases a1
          cases a2
          exact a4)
        go_wp2_with fail
        go_ret
        exact ⟨false, rfl, fun h => (by cases h), fun _ => HX.out, HB7.out⟩
    · have e1 : (o.cls == p.cls) = false := by simpa using hcl
      have HX := Lib.hid (show ∀ P, InjP P → ClP h k P → ¬ ∀ n m, (n, m) ∈ T → P n m from fun P hi hc hs => by
        have hs' := HFO.out P hi hc hs
        obtain ⟨o', p', a1, a2, a3, _⟩ := hc _ _ (hs' _ _ HNM.out)
        rw [HOO.out] at a1
        rw [HPP.out] at a2
        cases a1
        cases a2
        exact hcl a3)
      clear hcl
      go_wp2_with fail
      go_ret
      exact ⟨false, rfl, fun h => (by cases h), fun _ => HX.out, HB5.out⟩
end Go.Proofs.Ytclikfeaodfmkaa.Hp15
