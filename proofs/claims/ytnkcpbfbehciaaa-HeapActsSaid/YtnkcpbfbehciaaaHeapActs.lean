/-
  What is made, read and written, is as the document says.
-/
import Derived.Test.YtnkcpbfbehciaaaRows
import Derived.Test.YtnkcpbfbehciaaaLaw15
import Derived.Test.YtnkcpbfbehciaaaOpenH
import Derived.Test.YtnkcpbfbehciaaaOpenI
import Derived.Deep.RegionHeld3
import Derived.Deep.LoopGhost
import Derived.Deep.DeepCutAuto
import Derived.Deep.RegionLaw
import Derived.Test.YtnkcpbfbehciaaaHpRef
import Derived.Test.YtnkcpbfbehciaaaHpSame
import Derived.Test.YtnkcpbfbehciaaaShell
import Derived.ProofKit
import Derived.OpenShut
import Derived.SizedLaws
namespace Go.Proofs.Ytnkcpbfbehciaaa.heapActs
open Go.ChangeShapes Go.WideShapes Go.ChangeAt Go.RowKit
open Api Mem Hp15 L15
theorem set_one {h k k2 : Hp} {o v : Vl} {at_ : Int} {ok ok2 : Bool} (s1 : SetP h o at_ v k ok) (s2 : SetP h o at_ v k2 ok2) : k = k2 ∧ ok = ok2 := by
  rcases s1 with ⟨rfl, a1, x, a2, rfl⟩ | ⟨rfl, a1, rfl⟩ <;> rcases s2 with ⟨rfl, b1, z, b2, rfl⟩ | ⟨rfl, b1, rfl⟩
  · rw [a2] at b2
    cases b2
    exact ⟨rfl, rfl⟩
  · exact absurd a1 b1
  · exact absurd b1 a1
  · exact ⟨rfl, rfl⟩
theorem set_keep {h k : Hp} {o v : Vl} {at_ : Int} {ok : Bool} (hs : SetP h o at_ v k ok) (hf : FewH h) (hG : hpG h) (hv : vlG v) : FewH k ∧ hpG k := by
  rcases hs with ⟨_, _, x, hx, rfl⟩ | ⟨_, _, rfl⟩
  · have hxm := List.mem_of_getElem? hx
    refine ⟨⟨by rw [List.length_set]; exact hf.1, fun y hy => ?_⟩, fun y hy => ?_⟩
    · rcases List.mem_or_eq_of_mem_set hy with hy | rfl
      · exact hf.2 y hy
      · show (x.vals.set at_.toNat v).length ≤ 20
        rw [List.length_set]; exact hf.2 x hxm
    · rcases List.mem_or_eq_of_mem_set hy with hy | rfl
      · exact hG y hy
      · refine ⟨(hG x hxm).1, fun z hz => ?_⟩
        rcases List.mem_or_eq_of_mem_set hz with hz | rfl
        · exact (hG x hxm).2 z hz
        · exact hv
  · exact ⟨hf, hG⟩
set_option maxRecDepth 100000 in
set_option maxHeartbeats 16000000 in
theorem walk (v0 : Value) (h : Hp) (bs : ByteArray) (v2 : Value) (vals : List Vl) (v3 : Value) (o : Vl) (at_ : Int) (v5 : Value) (v : Vl) {w : World} (hq0 : Obs 0 w.heap.size w v0 h ∧ hpG h) (hq1 : bs.size ≤ 140737488351232) (hq2 : Vls 0 w.heap.size w v2 vals ∧ ∀ x ∈ vals, vlG x) (hq3 : v3 = vlA o ∧ vlG o) (_ : (Lit.int .i64 at_).wf = true) (hq5 : v5 = vlA v ∧ vlG v) :
    Calls Try.prog 3 #[v0, .string bs, v2, v3, i64 at_, v5] w fun e w' => e = .returned (.bool true) ∧ Below w.heap.size w w' := by
  obtain ⟨hg, hG⟩ := hq0
  obtain ⟨rfl, hGo⟩ := hq3
  obtain ⟨rfl, hGv⟩ := hq5
  obtain ⟨A1, k1, rfl⟩ := Row.form hg
  obtain ⟨A2, k2, rfl⟩ := Row.form hq2.1
  obtain ⟨cls, rfl⟩ : ∃ cls : Wd, bs = ⟨cls.toArray⟩ := ⟨bs.data.toList, by simp⟩
  have HG := Lib.hid hg
  have HGG := Lib.hid hG
  have HA := Lib.hid hq2.1
  have HGA := Lib.hid hq2.2
  have HGV := Lib.hid hGv
  have HCS := Lib.hid (show cls.length ≤ 140737488351232 from by simpa [ByteArray.size] using hq1)
  clear hg hG hGo hGv hq1 hq2
  obtain ⟨W, hW⟩ : ∃ W, (w.alloc (.cells #[str o.ty, i64 o.n] 25)).alloc (.cells #[str v.ty, i64 v.n] 25) = W := ⟨_, rfl⟩
  have hbw : Below w.heap.size w W := hW ▸ ((up15 w _).trans ((up15 _ _).mono (by simp)))
  have ho : Mem.Own W w.heap.size 25 [str o.ty, i64 o.n] := hW ▸ ((Own.made w _ _).alloc _)
  have hv : Mem.Own W (w.heap.size + 1) 25 [str v.ty, i64 v.n] := hW ▸ (made15 (by simp) _ _)
  have HBW := Lib.hid hbw
  have HOO := Lib.hid ho
  have HOV := Lib.hid hv
  have HW := Lib.hid hW
  clear hbw ho hv hW
  go_enter Try.func3, Try.ntmps3
  go_wp2_with fail
  rw [HW.out]
  refine (L15.awake_any W).mono ?_
  rintro e w1 ⟨rfl, hb1⟩
  have HB1 := Lib.hid hb1
  have HX1 := Lib.hid (HBW.out.trans (hb1.mono HBW.out.size))
  clear hb1
  go_wp2_with fail
  refine (few_any 0 w.heap.size w1 _ h (Obs.move (Still.of_below HX1.out) HG.out) HX1.out.size).mono ?_
  rintro e w2 ⟨b2, rfl, hfew, hb2⟩
  have HB2 := Lib.hid (HB1.out.trans (hb2.mono HB1.out.size))
  have HX2 := Lib.hid (HX1.out.trans (hb2.mono HX1.out.size))
  clear hb2
  cases b2 with
  | false =>
    clear hfew
    go_wp2_with fail
    refine (L15.awake_any w2).mono ?_
    rintro e wz ⟨rfl, hbz⟩
    have HZ := Lib.hid (HX2.out.trans (hbz.mono HX2.out.size))
    clear hbz
    go_wp2_with fail
    go_ret
    exact ⟨rfl, HZ.out⟩
  | true =>
    have HFW := Lib.hid (hfew rfl)
    clear hfew
    by_cases l1 : vals.length ≤ 50
    · have e1 : decide ((50 : Int) < (vals.length : Int)) = false := decide_eq_false (by omega)
      have HLH := Lib.hid (show LenH h from ⟨by have := HFW.out.1; omega, fun x hx => by have := HFW.out.2 x hx; omega⟩)
      have hla := HFW.out.1
      go_wp2_with fail
      refine (new_any 0 w.heap.size w2 _ _ h cls vals (Obs.move (Still.of_below HX2.out) HG.out) (Vls.move (Still.of_below HX2.out) HA.out) HX2.out.size HGG.out HLH.out ⟨HCS.out, HGA.out⟩ (by omega)).mono ?_
      rintro e w3 ⟨u3, rfl, ho3, hb⟩
      obtain ⟨A3, c3, e3⟩ := ho3.form
      rw [List.length_append, List.length_singleton] at e3
      subst e3
      obtain ⟨X3, hX3⟩ : ∃ X, w3.alloc (Obj.cells #[str wRef, i64 ((h.length : Int) + 1)] 25) = X := ⟨_, rfl⟩
      have hbx : Below w3.heap.size w3 X3 := hX3 ▸ up15 w3 _
      have HBX := Lib.hid (show Mem.Own X3 w3.heap.size 25 [str wRef, i64 ((h.length : Int) + 1)] from hX3 ▸ Own.made w3 _ _)
      have hbn := hb.trans (hbx.mono hb.size)
      have HX3 := Lib.hid (HX2.out.trans (hbn.mono HX2.out.size))
      have HB3 := Lib.hid (HB2.out.trans (hbn.mono HB2.out.size))
      have HSX3 := Lib.hid hX3
      have HDX3 := Lib.hid hbn
      have HA3 := Lib.hid (obs_up (show Obs 0 w3.heap.size w3 _ _ from Obs.move ⟨fun k _ _ => rfl, Nat.zero_le _, Nat.le_refl _⟩ (ho3.obs (hi := w3.heap.size) (Nat.le_refl _) (by simp; omega) (fun x hx => by
        rcases List.mem_append.1 hx with hx | hx
        · have := HFW.out.2 x hx; omega
        · rw [List.mem_singleton] at hx; subst hx; show vals.length ≤ _; omega))) hbx)
      clear ho3 hb hbx hbn hX3
      go_wp2_with fail
      rw [HSX3.out]
      refine (rnew_any 0 w.heap.size X3 _ _ h cls vals (Obs.move (Still.of_below HX3.out) HG.out) (Vls.move (Still.of_below HX3.out) HA.out) HX3.out.size (by omega)).mono ?_
      rintro e w4 ⟨u4, rfl, ho4, hb⟩
      obtain ⟨A4, c4, e4⟩ := Row.form ho4
      rw [List.length_append, List.length_singleton] at e4
      subst e4
      obtain ⟨_, o0, o1, _, _, o2⟩ := box2 HOO.out (HB3.out.trans (hb.mono HB3.out.size))
      obtain ⟨_, v0, v1, _, _, v2⟩ := box2 HOV.out (HB3.out.trans (hb.mono HB3.out.size))
      obtain ⟨X4, hX4⟩ : ∃ X, w4.alloc (Obj.cells #[str wRef, i64 ((h.length : Int) + 1)] 25) = X := ⟨_, rfl⟩
      have hbx : Below w4.heap.size w4 X4 := hX4 ▸ up15 w4 _
      have HBY := Lib.hid (show Mem.Own X4 w4.heap.size 25 [str wRef, i64 ((h.length : Int) + 1)] from hX4 ▸ Own.made w4 _ _)
      have hbn := hb.trans (hbx.mono hb.size)
      have HX4 := Lib.hid (HX3.out.trans (hbn.mono HX3.out.size))
      have HB4 := Lib.hid (HB3.out.trans (hbn.mono HB3.out.size))
      have HSX4 := Lib.hid hX4
      have HDX4 := Lib.hid hbn
      have HA4 := Lib.hid (obs_up ho4 hbx)
      clear ho4 hb hbx hbn hX4
      go_wp2_with fail
      rw [HSX4.out]
      clear o0 o1 o2 v0 v1 v2
      refine (load_any 0 w.heap.size X4 _ h (Obs.move (Still.of_below HX4.out) HG.out) HX4.out.size HGG.out o at_).mono ?_
      rintro e w5 ⟨r, ok, rfl, hf, hb⟩
      obtain ⟨_, o0, o1, _, _, o2⟩ := box2 HOO.out (HB4.out.trans (hb.mono HB4.out.size))
      obtain ⟨_, v0, v1, _, _, v2⟩ := box2 HOV.out (HB4.out.trans (hb.mono HB4.out.size))
      obtain ⟨X5, hX5⟩ : ∃ X, w5.alloc (Obj.cells #[str r.ty, i64 r.n] 25) = X := ⟨_, rfl⟩
      have hbx : Below w5.heap.size w5 X5 := hX5 ▸ up15 w5 _
      have HBR := Lib.hid (show Mem.Own X5 w5.heap.size 25 [str r.ty, i64 r.n] from hX5 ▸ Own.made w5 _ _)
      have hbn := hb.trans (hbx.mono hb.size)
      have HX5 := Lib.hid (HX4.out.trans (hbn.mono HX4.out.size))
      have HB5 := Lib.hid (HB4.out.trans (hbn.mono HB4.out.size))
      have HSX5 := Lib.hid hX5
      have HDX5 := Lib.hid hbn
      have HF5 := Lib.hid hf
      clear hf hb hbx hbn hX5
      go_wp2_with fail
      rw [HSX5.out]
      clear o0 o1 o2 v0 v1 v2
      refine (rload_any 0 w.heap.size X5 _ h (Obs.move (Still.of_below HX5.out) HG.out) HX5.out.size o at_).mono ?_
      rintro e w6 ⟨r2, is, rfl, hf, hb⟩
      obtain ⟨rfl, rfl⟩ := field_one HF5.out hf
      obtain ⟨_, o0, o1, _, _, o2⟩ := box2 HOO.out (HB5.out.trans (hb.mono HB5.out.size))
      obtain ⟨_, v0, v1, _, _, v2⟩ := box2 HOV.out (HB5.out.trans (hb.mono HB5.out.size))
      obtain ⟨X6, hX6⟩ : ∃ X, w6.alloc (Obj.cells #[str r.ty, i64 r.n] 25) = X := ⟨_, rfl⟩
      have hbx : Below w6.heap.size w6 X6 := hX6 ▸ up15 w6 _
      have HBS := Lib.hid (show Mem.Own X6 w6.heap.size 25 [str r.ty, i64 r.n] from hX6 ▸ Own.made w6 _ _)
      have hbn := hb.trans (hbx.mono hb.size)
      have HX6 := Lib.hid (HX5.out.trans (hbn.mono HX5.out.size))
      have HB6 := Lib.hid (HB5.out.trans (hbn.mono HB5.out.size))
      have HSX6 := Lib.hid hX6
      have HDX6 := Lib.hid hbn
      clear hf hb hbx hbn hX6
      go_wp2_with fail
      rw [HSX6.out]
      clear o0 o1 o2 v0 v1 v2
      refine (store_any 0 w.heap.size X6 _ h o at_ v (Obs.move (Still.of_below HX6.out) HG.out) HX6.out.size HGG.out HLH.out HGV.out).mono ?_
      rintro e w7 ⟨u7, did, k7, rfl, hs7, ho7, hb⟩
      obtain ⟨_, o0, o1, _, _, o2⟩ := box2 HOO.out (HB6.out.trans (hb.mono HB6.out.size))
      obtain ⟨_, v0, v1, _, _, v2⟩ := box2 HOV.out (HB6.out.trans (hb.mono HB6.out.size))
      obtain ⟨hfk, _⟩ := set_keep hs7 HFW.out HGG.out HGV.out
      have HFK := Lib.hid hfk
      have HC7 := Lib.hid (show Obs 0 w7.heap.size w7 u7 k7 from Obs.move ⟨fun k _ _ => rfl, Nat.zero_le _, Nat.le_refl _⟩ (ho7.obs (hi := w7.heap.size) (Nat.le_refl _) (by have := hfk.1; omega) (fun x hx => by have := hfk.2 x hx; omega)))
      have HS7 := Lib.hid hs7
      have HX7 := Lib.hid (HX6.out.trans (hb.mono HX6.out.size))
      have HD7 := Lib.hid hb
      clear hs7 ho7 hb hfk
      obtain ⟨A7, c7, e7⟩ := Row.form HC7.out
      subst e7
      go_wp2_with fail
      clear o0 o1 o2 v0 v1 v2
      refine (rstore_any 0 w.heap.size w7 _ h o at_ v (Obs.move (Still.of_below HX7.out) HG.out) HX7.out.size HGG.out HFW.out).mono ?_
      rintro e w8 ⟨u8, done, k8, rfl, hs8, ho8, hb⟩
      obtain ⟨rfl, rfl⟩ := set_one HS7.out hs8
      have HD8x := Lib.hid (show Obs 0 w8.heap.size w8 u8 k7 from Obs.move ⟨fun k _ _ => rfl, Nat.zero_le _, Nat.le_refl _⟩ (ho8.obs (hi := w8.heap.size) (Nat.le_refl _) (by have := HFK.out.1; omega) (fun x hx => by have := HFK.out.2 x hx; omega)))
      obtain ⟨A8, c8, e8⟩ := Row.form HD8x.out
      subst e8
      have HC8 := Lib.hid (obs_up HC7.out hb)
      have t68 := HD7.out.trans (hb.mono HD7.out.size)
      have t58 := HDX6.out.trans (t68.mono HDX6.out.size)
      have t48 := HDX5.out.trans (t58.mono HDX5.out.size)
      have t38 := HDX4.out.trans (t48.mono HDX4.out.size)
      have T68 := Lib.hid t68
      have T58 := Lib.hid t58
      have T48 := Lib.hid t48
      have T38 := Lib.hid t38
      have HX8 := Lib.hid (HX7.out.trans (hb.mono HX7.out.size))
      clear hs8 ho8 hb t68 t58 t48 t38
      go_wp2_with fail
      refine (yesH (same_any 0 w8.heap.size w8 _ _ (h ++ [⟨cls, vals⟩]) (h ++ [⟨cls, vals⟩]) (obs_up HA3.out T38.out) (obs_up HA4.out T48.out) (Nat.le_refl _)) rfl).mono ?_
      rintro e w9 ⟨rfl, hb⟩
      obtain ⟨_, x0, x1, _, _, _⟩ := box2 HBX.out (T38.out.trans (hb.mono T38.out.size))
      obtain ⟨_, y0, y1, _, _, _⟩ := box2 HBY.out (T48.out.trans (hb.mono T48.out.size))
      obtain ⟨_, r0, r1, _, _, _⟩ := box2 HBR.out (T58.out.trans (hb.mono T58.out.size))
      obtain ⟨_, s0, s1, _, _, _⟩ := box2 HBS.out (T68.out.trans (hb.mono T68.out.size))
      have HC9 := Lib.hid (obs_up HC8.out hb)
      have HD9 := Lib.hid (obs_up HD8x.out hb)
      have HX9 := Lib.hid (HX8.out.trans (hb.mono HX8.out.size))
      clear hb
      cases ok
      all_goals
        go_wp2_with fail
        refine (yesH (same_any 0 w9.heap.size w9 _ _ k7 k7 HC9.out HD9.out (Nat.le_refl _)) rfl).mono ?_
        rintro e w10 ⟨rfl, hb⟩
        have HX10 := Lib.hid (HX9.out.trans (hb.mono HX9.out.size))
        clear hb x0 x1 y0 y1 r0 r1 s0 s1
        cases did
        all_goals
          go_wp2_with fail
          refine (nought_any w10 cls).mono ?_
          rintro e w11 ⟨rfl, hb⟩
          have HX11 := Lib.hid (HX10.out.trans (hb.mono HX10.out.size))
          clear hb
          go_wp2_with fail
          refine (rnought_any w11 cls).mono ?_
          rintro e w12 ⟨rfl, hb⟩
          have HX12 := Lib.hid (HX11.out.trans (hb.mono HX11.out.size))
          clear hb
          go_wp2_with fail
          go_ret
          exact ⟨rfl, HX12.out⟩
    · have e1 : decide ((50 : Int) < (vals.length : Int)) = true := decide_eq_true (by omega)
      go_wp2_with fail
      refine (L15.awake_any w2).mono ?_
      rintro e wz ⟨rfl, hbz⟩
      have HZ := Lib.hid (HX2.out.trans (hbz.mono HX2.out.size))
      clear hbz
      go_wp2_with fail
      go_ret
      exact ⟨rfl, HZ.out⟩

set_option maxRecDepth 100000 in
theorem lifted (os : Os) (started : os.Started) (H : Type) (enc : TypeId × Value → H) :
    ReturnsInHanded {} Try.checked os 3 .any (Rows.heapActsSpec.pre6 enc Try.prog Try.f3 Rows.heapActsRow.domain false) (Rows.heapActsSpec.post enc Try.prog Try.f3 false true false false) := by
  refine returnsInHanded_of_change_sized (C := Try.checked) (by kernel_rfl) started (by kernel_rfl) Try.func3
    (ChangeSpec.witness6 (enc := enc) (C := Try.checked) false ⟨#[], #[.slice none 0 0, .string ⟨#[]⟩, .slice none 0 0, .agg #[.string ⟨#[]⟩, .int .i64 0], .int .i64 0, .agg #[.string ⟨#[]⟩, .int .i64 0]], []⟩ 8 (by kernel_rfl) (by kernel_rfl) (by kernel_rfl) (by kernel_rfl)) ?_
  intro W base args ds gs before hval0 hW hcnd hsz0 _
  have hval : ∀ (j : Nat) t v, Try.f3.params[j]? = some t → args[j]? = some v → Value.okWide Try.prog W .any base t v := hval0
  have hW' := hW
  obtain ⟨p, q, hA0, hV, rfl, hfz, hnd⟩ := hW
  have hsz : (DataW.weightsEach Try.prog (Try.f3.params.toList ++ Rows.heapActsSpec.plain.varTypes Try.prog) (ds ++ gs)).all (· ≤ reachBytes) = true := hsz0
  have hA : DataW.TrodAll enc Try.prog W 0 (fun _ => true) true Try.f3.params.toList args.toList ds p := hA0
  rw [Try.params3] at hA hval hsz
  obtain ⟨v0, vs0, d0, ds0, p0, q0, hargs, rfl, rfl, h0, r0⟩ := trodAll_cons hA
  obtain ⟨v1, vs1, d1, ds1, p1, q1, rfl, rfl, rfl, h1, r1⟩ := trodAll_cons r0
  obtain ⟨v2, vs2, d2, ds2, p2, q2, rfl, rfl, rfl, h2, r2⟩ := trodAll_cons r1
  obtain ⟨v3, vs3, d3, ds3, p3, q3, rfl, rfl, rfl, h3, r3⟩ := trodAll_cons r2
  obtain ⟨v4, vs4, d4, ds4, p4, q4, rfl, rfl, rfl, h4, r4⟩ := trodAll_cons r3
  obtain ⟨v5, vs5, d5, ds5, p5, q5, rfl, rfl, rfl, h5, r5⟩ := trodAll_cons r4
  obtain ⟨rfl, rfl, rfl⟩ := trodAll_nil r5
  obtain rfl : args = #[v0, v1, v2, v3, v4, v5] := by cases args; simp_all
  obtain ⟨rfl, rfl⟩ := trodVars_none hV
  obtain ⟨xs0, hG0⟩ := OpenH.open_heap hsz (j := 0) rfl rfl (hval 0 22 v0 rfl rfl) h0
  obtain ⟨a1, rfl, rfl, rfl, _⟩ := Go.ChangeMaps.open_string Try.underlying9 (hval 1 9 v1 rfl rfl) h1
  obtain ⟨xs2, hG2⟩ := OpenH.open_vals hsz (j := 2) rfl rfl (hval 2 23 v2 rfl rfl) h2
  obtain ⟨xs3, hG3⟩ := OpenH.open_val hsz (j := 3) rfl rfl (hval 3 25 v3 rfl rfl) h3
  obtain ⟨a4, rfl, rfl, rfl, w4⟩ := open_int Try.underlying3 (hval 4 3 v4 rfl rfl) h4
  obtain ⟨xs5, hG5⟩ := OpenH.open_val hsz (j := 5) rfl rfl (hval 5 25 v5 rfl rfl) h5
  have z1 : a1.size ≤ 140737488351232 := Shell.reach_string hsz (j := 1) (t := 9) rfl rfl
  clear hA0 hval0
  simp only [List.append_nil] at hW'
  refine (walk v0 xs0 a1 v2 xs2 v3 xs3 a4 v5 xs5 hG0 z1 hG2 hG3 w4 hG5).mono fun e W' ⟨he, hg⟩ => ?_
  subst he
  exact ⟨_, rfl, Shell.lawPost (by kernel_rfl) rfl (by kernel_rfl) rfl Try.underlying4 hW' rfl hg⟩

/-- The statement. -/
theorem proved : Rows.HeapActsSaid :=
  OpenClaim.holds_of_wide 3 Try.f3 rfl rfl rfl rfl rfl rfl rfl ⟨rfl, rfl, rfl, rfl, rfl⟩ rfl rfl rfl rfl rfl (by kernel_rfl) Try.func3 (by kernel_rfl)
    (of_decide_eq_true (by kernel_rfl)) (by unfold Func.isWrapper; first | (rw [if_pos (by decide +kernel)]; kernel_rfl) | (rw [if_neg (by decide +kernel)]; exact ⟨rfl, rfl⟩))
    (fun os started H enc _ => lifted os started H enc)
end Go.Proofs.Ytnkcpbfbehciaaa.heapActs
