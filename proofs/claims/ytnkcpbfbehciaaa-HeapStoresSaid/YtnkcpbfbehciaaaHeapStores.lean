/-
  What is written into a heap is read again, and nothing else has changed.
-/
import Derived.Test.YtnkcpbfbehciaaaRows
import Derived.Test.YtnkcpbfbehciaaaLaw15
import Derived.Test.YtnkcpbfbehciaaaOpenH
import Derived.Test.YtnkcpbfbehciaaaOpenI
import Derived.Deep.RegionHeld3
import Derived.Test.YtnkcpbfbehciaaaShell
import Derived.ProofKit
import Derived.OpenShut
import Derived.SizedLaws
namespace Go.Proofs.Ytnkcpbfbehciaaa.heapStores
open Go.ChangeShapes Go.WideShapes Go.ChangeAt Go.RowKit
open Api Mem Hp15 L15
theorem vl_ext {a b : Vl} (h1 : a.ty = b.ty) (h2 : a.n = b.n) : a = b := by cases a; cases b; simp_all
theorem set_reads {h k : Hp} {o v p r r2 : Vl} {at_ by_ : Int} {ok had has : Bool} (hs : SetP h o at_ v k ok) (f1 : FieldP h p by_ r had) (f2 : FieldP k p by_ r2 has) :
    had = has ∧ k.length = h.length ∧ ((ok = true ∧ p = o ∧ at_ = by_) → has = true ∧ r2 = v) ∧ (¬ (ok = true ∧ p = o ∧ at_ = by_) → r = r2) := by
  rcases hs with ⟨rfl, ⟨l1, l2, l3⟩, x, hx, rfl⟩ | ⟨rfl, _, rfl⟩
  · have hlen : (h.set (plH o) ⟨x.cls, x.vals.set at_.toNat v⟩).length = h.length := List.length_set
    have hlead : LeadsP (h.set (plH o) ⟨x.cls, x.vals.set at_.toNat v⟩) p ↔ LeadsP h p := by unfold LeadsP; rw [hlen]
    have hi := (List.getElem?_eq_some_iff.1 hx).1
    by_cases e : plH p = plH o
    · have hk : (h.set (plH o) ⟨x.cls, x.vals.set at_.toNat v⟩)[plH p]? = some ⟨x.cls, x.vals.set at_.toNat v⟩ := by rw [e, List.getElem?_set_self hi]
      have hh : h[plH p]? = some x := by rw [e]; exact hx
      have hhas : HasF (h.set (plH o) ⟨x.cls, x.vals.set at_.toNat v⟩) p by_ ↔ HasF h p by_ := by
        unfold HasF
        rw [hlead, hk, hh]
        constructor
        · rintro ⟨a, b, y, hy, c⟩
          cases hy
          exact ⟨a, b, x, rfl, by simpa using c⟩
        · rintro ⟨a, b, y, hy, c⟩
          cases hy
          exact ⟨a, b, _, rfl, by simpa using c⟩
      rcases f1 with ⟨rfl, a1, y, a2, a3⟩ | ⟨rfl, a1, rfl⟩ <;> rcases f2 with ⟨rfl, b1, z, b2, b3⟩ | ⟨rfl, b1, rfl⟩
      · rw [hh] at a2
        rw [hk] at b2
        cases a2
        cases b2
        refine ⟨rfl, hlen, fun ⟨_, c1, c2⟩ => ⟨rfl, ?_⟩, fun c => ?_⟩
        · subst c2
          have hj := (List.getElem?_eq_some_iff.1 a3).1
          rw [List.getElem?_set_self hj] at b3
          exact (Option.some.inj b3).symm
        · have hne : at_.toNat ≠ by_.toNat := fun d => c ⟨rfl, by
            obtain ⟨q1, q2, q3⟩ := a1.1
            obtain ⟨s1, s2, s3⟩ := l1
            exact vl_ext (by rw [q1, s1]) (by unfold plH at e; omega), by have := a1.2.1; omega⟩
          rw [List.getElem?_set_ne hne, a3] at b3
          exact Option.some.inj b3
      · exact absurd (hhas.2 a1) b1
      · exact absurd (hhas.1 b1) a1
      · refine ⟨rfl, hlen, fun ⟨_, c1, c2⟩ => ?_, fun _ => rfl⟩
        subst c1
        subst c2
        exact absurd ⟨l1, l2, l3⟩ a1
    · have hk : (h.set (plH o) ⟨x.cls, x.vals.set at_.toNat v⟩)[plH p]? = h[plH p]? := List.getElem?_set_ne (fun d => e d.symm)
      have hf : FieldP h p by_ r2 has := by
        have hhas : HasF (h.set (plH o) ⟨x.cls, x.vals.set at_.toNat v⟩) p by_ ↔ HasF h p by_ := by unfold HasF; rw [hlead, hk]
        rcases f2 with ⟨b0, b1, z, b2, b3⟩ | ⟨b0, b1, b2⟩
        · exact .inl ⟨b0, hhas.1 b1, z, by rw [← hk]; exact b2, b3⟩
        · exact .inr ⟨b0, fun c => b1 (hhas.2 c), b2⟩
      obtain ⟨g1, g2⟩ := field_one f1 hf
      exact ⟨g2, hlen, fun ⟨_, c1, _⟩ => absurd (by rw [c1]) e, fun _ => g1⟩
  · obtain ⟨g1, g2⟩ := field_one f1 f2
    exact ⟨g2, rfl, fun ⟨c, _⟩ => (by cases c), fun _ => g1⟩
theorem set_keep {h k : Hp} {o v : Vl} {at_ : Int} {ok : Bool} (hs : SetP h o at_ v k ok) (hf : FewH h) (hG : hpG h) (hv : vlG v) : FewH k ∧ hpG k := by
  rcases hs with ⟨_, _, x, hx, rfl⟩ | ⟨_, _, rfl⟩
  · have hxm := List.mem_of_getElem? hx
    refine ⟨⟨by rw [List.length_set]; exact hf.1, fun y hy => ?_⟩, fun y hy => ?_⟩
    · rcases List.mem_or_eq_of_mem_set hy with hy | rfl
      · exact hf.2 y hy
      · show (x.vals.set at_.toNat v).length ≤ 20
        rw [List.length_set]; exact hf.2 x hxm
    · rcases List.mem_or_eq_of_mem_set hy with hy | rfl
      · exact hG y hy
      · refine ⟨(hG x hxm).1, fun z hz => ?_⟩
        rcases List.mem_or_eq_of_mem_set hz with hz | rfl
        · exact (hG x hxm).2 z hz
        · exact hv
  · exact ⟨hf, hG⟩
set_option maxRecDepth 100000 in
set_option maxHeartbeats 16000000 in
theorem walk (v0 : Value) (h : Hp) (v1 : Value) (o : Vl) (at_ : Int) (v3 : Value) (v : Vl) (v4 : Value) (p : Vl) (by_ : Int) {w : World} (hq0 : Obs 0 w.heap.size w v0 h ∧ hpG h) (hq1 : v1 = vlA o ∧ vlG o) (_ : (Lit.int .i64 at_).wf = true) (hq3 : v3 = vlA v ∧ vlG v) (hq4 : v4 = vlA p ∧ vlG p) (_ : (Lit.int .i64 by_).wf = true) :
    Calls Try.prog 6 #[v0, v1, i64 at_, v3, v4, i64 by_] w fun e w' => e = .returned (.bool true) ∧ Below w.heap.size w w' := by
  obtain ⟨hg, hG⟩ := hq0
  obtain ⟨rfl, hGo⟩ := hq1
  obtain ⟨rfl, hGv⟩ := hq3
  obtain ⟨rfl, hGp⟩ := hq4
  obtain ⟨A1, k1, rfl⟩ := Row.form hg
  have HG := Lib.hid hg
  have HGG := Lib.hid hG
  have HGV := Lib.hid hGv
  clear hg hG hGo hGv hGp
  obtain ⟨W, hW⟩ : ∃ W, ((w.alloc (.cells #[str o.ty, i64 o.n] 25)).alloc (.cells #[str v.ty, i64 v.n] 25)).alloc (.cells #[str p.ty, i64 p.n] 25) = W := ⟨_, rfl⟩
  have hbw : Below w.heap.size w W := hW ▸ ((up15 w _).trans ((up15 _ _).mono (by simp))).trans ((up15 _ _).mono (by simp; omega))
  have ho : Mem.Own W w.heap.size 25 [str o.ty, i64 o.n] := hW ▸ ((Own.made w _ _).alloc _).alloc _
  have hv : Mem.Own W (w.heap.size + 1) 25 [str v.ty, i64 v.n] := hW ▸ ((made15 (by simp) _ _).alloc _)
  have hp : Mem.Own W (w.heap.size + 1 + 1) 25 [str p.ty, i64 p.n] := hW ▸ (made15 (by simp) _ _)
  have HBW := Lib.hid hbw
  have HOO := Lib.hid ho
  have HOV := Lib.hid hv
  have HOP := Lib.hid hp
  have HW := Lib.hid hW
  clear hbw ho hv hp hW
  go_enter Try.func6, Try.ntmps6
  go_wp2_with fail
  rw [HW.out]
  refine (L15.awake_any W).mono ?_
  rintro e w1 ⟨rfl, hb1⟩
  have HB1 := Lib.hid hb1
  have HX1 := Lib.hid (HBW.out.trans (hb1.mono HBW.out.size))
  clear hb1
  go_wp2_with fail
  refine (few_any 0 w.heap.size w1 _ h (Obs.move (Still.of_below HX1.out) HG.out) HX1.out.size).mono ?_
  rintro e w2 ⟨b2, rfl, hfew, hb2⟩
  have HB2 := Lib.hid (HB1.out.trans (hb2.mono HB1.out.size))
  have HX2 := Lib.hid (HX1.out.trans (hb2.mono HX1.out.size))
  clear hb2
  cases b2 with
  | false =>
    clear hfew
    go_wp2_with fail
    refine (L15.awake_any w2).mono ?_
    rintro e w3 ⟨rfl, hb3⟩
    have HX3 := Lib.hid (HX2.out.trans (hb3.mono HX2.out.size))
    clear hb3
    go_wp2_with fail
    go_ret
    exact ⟨rfl, HX3.out⟩
  | true =>
    have hfw := hfew rfl
    have hlh : LenH h := ⟨by have := hfw.1; omega, fun x hx => by have := hfw.2 x hx; omega⟩
    have HFW := Lib.hid hfw
    have HLH := Lib.hid hlh
    clear hfew hfw hlh
    obtain ⟨_, o0, o1, _, _, _⟩ := box2 HOO.out HB2.out
    obtain ⟨_, v0, v1, _, _, _⟩ := box2 HOV.out HB2.out
    obtain ⟨_, p0, p1, _, _, _⟩ := box2 HOP.out HB2.out
    go_wp2_with fail
    refine (store_any 0 w.heap.size w2 _ h o at_ v (Obs.move (Still.of_below HX2.out) HG.out) HX2.out.size HGG.out HLH.out HGV.out).mono ?_
    rintro e w3 ⟨u3, ok, k, rfl, hs3, ho3, hb3⟩
    obtain ⟨hfk, hgk⟩ := set_keep hs3 HFW.out HGG.out HGV.out
    have hkl : k.length = h.length := by
      rcases hs3 with ⟨_, _, x, hx, rfl⟩ | ⟨_, _, rfl⟩
      · exact List.length_set
      · rfl
    obtain ⟨A3, c3, e3⟩ := ho3.form
    rw [hkl] at e3
    subst e3
    have HK3 := Lib.hid (show Obs 0 w3.heap.size w3 _ k from Obs.move ⟨fun k _ _ => rfl, Nat.zero_le _, Nat.le_refl _⟩ (ho3.obs (hi := w3.heap.size) (Nat.le_refl _) (by have := hfk.1; omega) (fun x hx => by have := hfk.2 x hx; omega)))
    have HGK := Lib.hid hgk
    have HS3 := Lib.hid hs3
    have HB3 := Lib.hid (HB2.out.trans (hb3.mono HB2.out.size))
    have HX3 := Lib.hid (HX2.out.trans (hb3.mono HX2.out.size))
    clear o0 o1 v0 v1 p0 p1 hfk hgk hs3 ho3 hb3 hkl
    obtain ⟨_, p0, p1, _, _, _⟩ := box2 HOP.out HB3.out
    go_wp2_with fail
    refine (load_any 0 w.heap.size w3 _ h (Obs.move (Still.of_below HX3.out) HG.out) HX3.out.size HGG.out p by_).mono ?_
    rintro e w4 ⟨r, had, rfl, hf4, hb4⟩
    obtain ⟨X4, hX4⟩ : ∃ X, w4.alloc (Obj.cells #[str r.ty, i64 r.n] 25) = X := ⟨_, rfl⟩
    have hbx : Below w4.heap.size w4 X4 := hX4 ▸ up15 w4 _
    have HOR := Lib.hid (show Mem.Own X4 w4.heap.size 25 [str r.ty, i64 r.n] from hX4 ▸ Own.made w4 _ _)
    have hb34 := hb4.trans (hbx.mono hb4.size)
    have HK4 := Lib.hid (obs_up HK3.out hb34)
    have HF4 := Lib.hid hf4
    have HB4 := Lib.hid (HB3.out.trans (hb34.mono HB3.out.size))
    have HX4 := Lib.hid (HX3.out.trans (hb34.mono HX3.out.size))
    have HXX4 := Lib.hid hX4
    clear p0 p1
    obtain ⟨_, p0, p1, _, _, p2⟩ := box2 HOP.out (HB3.out.trans (hb4.mono HB3.out.size))
    clear hf4 hb4 hbx hb34 hX4
    go_wp2_with fail
    rw [HXX4.out]
    clear p0 p1 p2
    refine (load_any 0 X4.heap.size X4 _ k HK4.out (Nat.le_refl _) HGK.out p by_).mono ?_
    rintro e w5 ⟨r2, has, rfl, hf5, hb5⟩
    obtain ⟨q1, _, q3, q4⟩ := set_reads HS3.out HF4.out hf5
    subst q1
    obtain ⟨X5, hX5⟩ : ∃ X, w5.alloc (Obj.cells #[str r2.ty, i64 r2.n] 25) = X := ⟨_, rfl⟩
    have hbx : Below w5.heap.size w5 X5 := hX5 ▸ up15 w5 _
    have hb45 := hb5.trans (hbx.mono hb5.size)
    have HOS := Lib.hid (show Mem.Own X5 w5.heap.size 25 [str r2.ty, i64 r2.n] from hX5 ▸ Own.made w5 _ _)
    have HOR5 := Lib.hid (HOR.out.below hb45 HOR.out.lt)
    have HB5 := Lib.hid (HB4.out.trans (hb45.mono HB4.out.size))
    have HX5 := Lib.hid (HX4.out.trans (hb45.mono HX4.out.size))
    have HXX5 := Lib.hid hX5
    have Q3 := Lib.hid q3
    have Q4 := Lib.hid q4
    obtain ⟨_, r0, r1, _, _, _⟩ := box2 HOR5.out (Below.refl _ _)
    obtain ⟨_, s0, s1, _, _, _⟩ := box2 HOS.out (Below.refl _ _)
    obtain ⟨_, p0, p1, _, _, _⟩ := box2 HOP.out HB5.out
    obtain ⟨_, o0, o1, _, _, _⟩ := box2 HOO.out HB5.out
    obtain ⟨_, v0, v1, _, _, _⟩ := box2 HOV.out HB5.out
    clear hf5 hb5 hbx hb45 hX5 q3 q4
    go_upto_region 8 with fail
    rw [HXX5.out]
    cases ok with
    | false =>
      obtain rfl : r = r2 := Q4.out (fun c => (by cases c.1))
      go_wp2_with fail
      go_ret
      exact ⟨rfl, HX5.out⟩
    | true =>
      by_cases h1 : p.ty = o.ty
      · by_cases h2 : p.n = o.n
        · by_cases h3 : at_ = by_
          · have hpo : p = o := vl_ext h1 h2
            obtain ⟨rfl, rfl⟩ := Q3.out ⟨rfl, hpo, h3⟩
            rw [h1] at p0
            rw [h2] at p1
            subst h3
            clear h1 h2 hpo
            go_wp2_with fail
            go_ret
            exact ⟨rfl, HX5.out⟩
          · have h4 : (at_ == by_) = false := by simpa using h3
            rw [h1] at p0
            rw [h2] at p1
            clear h1 h2
            obtain rfl : r = r2 := Q4.out (fun c => h3 c.2.2)
            go_wp2_with fail
            go_ret
            exact ⟨rfl, HX5.out⟩
        · rw [h1] at p0
          clear h1
          obtain rfl : r = r2 := Q4.out (fun c => h2 (by rw [c.2.1]))
          go_wp2_with fail
          go_ret
          exact ⟨rfl, HX5.out⟩
      · obtain rfl : r = r2 := Q4.out (fun c => h1 (by rw [c.2.1]))
        go_wp2_with fail
        go_ret
        exact ⟨rfl, HX5.out⟩

set_option maxRecDepth 100000 in
theorem lifted (os : Os) (started : os.Started) (H : Type) (enc : TypeId × Value → H) :
    ReturnsInHanded {} Try.checked os 6 .any (Rows.heapStoresSpec.pre6 enc Try.prog Try.f6 Rows.heapStoresRow.domain false) (Rows.heapStoresSpec.post enc Try.prog Try.f6 false true false false) := by
  refine returnsInHanded_of_change_sized (C := Try.checked) (by kernel_rfl) started (by kernel_rfl) Try.func6
    (ChangeSpec.witness6 (enc := enc) (C := Try.checked) false ⟨#[], #[.slice none 0 0, .agg #[.string ⟨#[]⟩, .int .i64 0], .int .i64 0, .agg #[.string ⟨#[]⟩, .int .i64 0], .agg #[.string ⟨#[]⟩, .int .i64 0], .int .i64 0], []⟩ 8 (by kernel_rfl) (by kernel_rfl) (by kernel_rfl) (by kernel_rfl)) ?_
  intro W base args ds gs before hval0 hW hcnd hsz0 _
  have hval : ∀ (j : Nat) t v, Try.f6.params[j]? = some t → args[j]? = some v → Value.okWide Try.prog W .any base t v := hval0
  have hW' := hW
  obtain ⟨p, q, hA0, hV, rfl, hfz, hnd⟩ := hW
  have hsz : (DataW.weightsEach Try.prog (Try.f6.params.toList ++ Rows.heapStoresSpec.plain.varTypes Try.prog) (ds ++ gs)).all (· ≤ reachBytes) = true := hsz0
  have hA : DataW.TrodAll enc Try.prog W 0 (fun _ => true) true Try.f6.params.toList args.toList ds p := hA0
  rw [Try.params6] at hA hval hsz
  obtain ⟨v0, vs0, d0, ds0, p0, q0, hargs, rfl, rfl, h0, r0⟩ := trodAll_cons hA
  obtain ⟨v1, vs1, d1, ds1, p1, q1, rfl, rfl, rfl, h1, r1⟩ := trodAll_cons r0
  obtain ⟨v2, vs2, d2, ds2, p2, q2, rfl, rfl, rfl, h2, r2⟩ := trodAll_cons r1
  obtain ⟨v3, vs3, d3, ds3, p3, q3, rfl, rfl, rfl, h3, r3⟩ := trodAll_cons r2
  obtain ⟨v4, vs4, d4, ds4, p4, q4, rfl, rfl, rfl, h4, r4⟩ := trodAll_cons r3
  obtain ⟨v5, vs5, d5, ds5, p5, q5, rfl, rfl, rfl, h5, r5⟩ := trodAll_cons r4
  obtain ⟨rfl, rfl, rfl⟩ := trodAll_nil r5
  obtain rfl : args = #[v0, v1, v2, v3, v4, v5] := by cases args; simp_all
  obtain ⟨rfl, rfl⟩ := trodVars_none hV
  obtain ⟨xs0, hG0⟩ := OpenH.open_heap hsz (j := 0) rfl rfl (hval 0 22 v0 rfl rfl) h0
  obtain ⟨xs1, hG1⟩ := OpenH.open_val hsz (j := 1) rfl rfl (hval 1 25 v1 rfl rfl) h1
  obtain ⟨a2, rfl, rfl, rfl, w2⟩ := open_int Try.underlying3 (hval 2 3 v2 rfl rfl) h2
  obtain ⟨xs3, hG3⟩ := OpenH.open_val hsz (j := 3) rfl rfl (hval 3 25 v3 rfl rfl) h3
  obtain ⟨xs4, hG4⟩ := OpenH.open_val hsz (j := 4) rfl rfl (hval 4 25 v4 rfl rfl) h4
  obtain ⟨a5, rfl, rfl, rfl, w5⟩ := open_int Try.underlying3 (hval 5 3 v5 rfl rfl) h5
  clear hA0 hval0
  simp only [List.append_nil] at hW'
  refine (walk v0 xs0 v1 xs1 a2 v3 xs3 v4 xs4 a5 hG0 hG1 w2 hG3 hG4 w5).mono fun e W' ⟨he, hg⟩ => ?_
  subst he
  exact ⟨_, rfl, Shell.lawPost (by kernel_rfl) rfl (by kernel_rfl) rfl Try.underlying4 hW' rfl hg⟩

/-- The statement. -/
theorem proved : Rows.HeapStoresSaid :=
  OpenClaim.holds_of_wide 6 Try.f6 rfl rfl rfl rfl rfl rfl rfl ⟨rfl, rfl, rfl, rfl, rfl⟩ rfl rfl rfl rfl rfl (by kernel_rfl) Try.func6 (by kernel_rfl)
    (of_decide_eq_true (by kernel_rfl)) (by unfold Func.isWrapper; first | (rw [if_pos (by decide +kernel)]; kernel_rfl) | (rw [if_neg (by decide +kernel)]; exact ⟨rfl, rfl⟩))
    (fun os started H enc _ => lifted os started H enc)
end Go.Proofs.Ytnkcpbfbehciaaa.heapStores
