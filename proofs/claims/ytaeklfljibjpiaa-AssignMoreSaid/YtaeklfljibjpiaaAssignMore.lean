/-
  The law AssignMore: a sound function stays sound with one parameter more.
-/
import Derived.Test.YtaeklfljibjpiaaRows
import Derived.Test.YtaeklfljibjpiaaExM
import Derived.Test.YtaeklfljibjpiaaAsG
import Derived.Test.YtaeklfljibjpiaaOpenP
import Derived.Test.YtaeklfljibjpiaaLvFew
import Derived.Deep.RegionLaw
import Derived.StillTailTactics
import Derived.Test.YtaeklfljibjpiaaShell
import Derived.ProofKit
import Derived.OpenShut
import Derived.SizedLaws
namespace Go.Proofs.Ytaeklfljibjpiaa.assignMore
open Go.ChangeShapes Go.WideShapes Go.ChangeAt Go.RowKit
open Api Mem Sh8 Lv12 As13
theorem len_pos {cs : List Value} {n j : Nat} {u : Value} (h : cs.length = n * 2) (hu : cs[j]? = some u) : 0 < n := by
  have := (List.getElem?_eq_some_iff.1 hu).1
  omega
theorem uok_more {U : List Wd} (h : UOk U) {x : Wd} (hx : (⟨x.toArray⟩ : ByteArray).size ≤ 140737488351232) (hl : U.length ≤ 6000) : UOk (U ++ [x]) :=
  ⟨by rw [List.length_append, List.length_singleton]; omega, fun y hy => by
    rcases List.mem_append.1 hy with hy | hy
    · exact h.nm y hy
    · rw [List.mem_singleton] at hy
      subst hy
      have h9 : y.toArray.size ≤ 140737488351232 := hx
      simpa using h9⟩
theorem fok_more {f : Api.Func} (h : FOk (allP f) f.blocks) (hF : Few12 f) (x : Wd) : FOk (allP f ++ [x]) f.blocks :=
  fok_mono h (fun y hy => List.mem_append_left _ hy) (by
    have h1 := allP_len hF
    have : f.blocks.length * (allP f ++ [x]).length ≤ 30 * 6001 := Nat.mul_le_mul hF.2.2.1 (by rw [List.length_append, List.length_singleton]; omega)
    omega)
theorem par_more {f : Api.Func} (x : Wd) : ∀ v ∈ f.params ++ [⟨x, [105, 110, 116]⟩], v.name ∈ allP f ++ [x] := fun v hv => by
  rcases List.mem_append.1 hv with hv | hv
  · exact List.mem_append_left _ (par13 f v hv)
  · rw [List.mem_singleton] at hv
    subst hv
    exact List.mem_append_right _ (List.mem_singleton.2 rfl)
theorem sound_more {nm rs : Wd} {ps vs : List Api.Var} {bl : List Api.Block} {b : Api.Block} {y : Api.Var} (h : SoundP ⟨nm, rs, ps, vs, bl⟩ b) : SoundP ⟨nm, rs, ps ++ [y], vs, bl⟩ b := fun x hx => by
  have := h x hx
  simp only [List.map_append, List.mem_append]
  exact .inl this
set_option maxRecDepth 100000 in
set_option maxHeartbeats 16000000 in
theorem walk (v : Value) (q : Api.Func × List Value) (s : ByteArray) {w : World} (hq : v = .agg q.2.toArray ∧ FuncC 0 w.heap.size w q.2 q.1 ∧ OpenP.funcG q.1) (hs : s.size ≤ 140737488351232) :
    Calls Try.prog 5 #[v, .string s] w fun e w' => e = .returned (.bool true) ∧ Below w.heap.size w w' := by
  obtain ⟨rfl, hfc, hG⟩ := hq
  obtain ⟨f, cs⟩ := q
  simp only at hfc hG
  have hfc0 := hfc
  obtain ⟨u1, u2, u3, rfl, kp, kv, kb⟩ := hfc
  obtain ⟨nm, rs, ps, vs, bl⟩ := f
  simp only at kp kv kb
  obtain ⟨A1, k1, rfl⟩ := kp.form
  obtain ⟨A2, k2, rfl⟩ := kv.form
  obtain ⟨A3, k3, rfl⟩ := kb.form
  obtain ⟨W, hW⟩ : ∃ W, w.alloc (.cells #[str nm, str rs, .slice A1 ps.length k1, .slice A2 vs.length k2, .slice A3 bl.length k3] 25) = W := ⟨_, rfl⟩
  obtain ⟨o1, b1, z1⟩ := box8 (c := [str nm, str rs, .slice A1 ps.length k1, .slice A2 vs.length k2, .slice A3 bl.length k3]) hW
  have HF0 := Lib.hid hfc0
  have HG := Lib.hid hG
  have KB := Lib.hid kb
  have KP := Lib.hid kp
  have KV := Lib.hid kv
  obtain ⟨x, rfl⟩ : ∃ x : Wd, s = ⟨x.toArray⟩ := ⟨s.data.toList, by simp⟩
  have HO := Lib.hid o1
  have HB := Lib.hid b1
  have HW := Lib.hid hW
  have zlt := o1.lt
  have hpl : ps.length ≤ 4611686018427387903 := by obtain ⟨_, _, _, h, _⟩ := Row.get kp; exact h
  clear o1 b1 hW kp kv kb hfc0 hG
  go_enter Try.func5, Try.ntmps5
  go_wp2_with fail
  rw [HW.out]
  refine (L13.awake13_any W).mono ?_
  rintro e w1 ⟨rfl, hb1⟩
  have HB1 := Lib.hid (HB.out.trans (hb1.mono HB.out.size))
  have HO1 := Lib.hid (HO.out.below hb1 HO.out.lt)
  have QF := Lib.hid (few13_any 0 w.heap.size w1 _ _ (FuncC.move (Still.of_below HB1.out) HF0.out) HB1.out.size (func_s12 HG.out))
  clear hb1
  have f0 := HO1.out.cell 0
  have f1 := HO1.out.cell 1
  have f2 := HO1.out.cell 2
  have f3 := HO1.out.cell 3
  have f4 := HO1.out.cell 4
  simp only [List.getElem?_cons_succ, List.getElem?_cons_zero] at f0 f1 f2 f3 f4
  go_wp2_with fail
  refine QF.out.mono ?_
  rintro e w2 ⟨b2, rfl, hfew, hb2⟩
  have HB2 := Lib.hid (HB1.out.trans (hb2.mono HB1.out.size))
  have HO2 := Lib.hid (HO1.out.below hb2 HO1.out.lt)
  clear hb2 f0 f1 f2 f3 f4
  cases b2 with
  | false =>
    clear hfew
    go_wp2_with fail
    refine (L13.awake13_any w2).mono ?_
    rintro e w7 ⟨rfl, hb9⟩
    have HB9 := Lib.hid (HB2.out.trans (hb9.mono HB2.out.size))
    clear hb9
    go_wp2_with fail
    go_ret
    exact ⟨rfl, HB9.out⟩
  | true =>
    have HFW := Lib.hid (hfew rfl)
    have hlb : bl.length ≤ 30 := HFW.out.2.2.1
    have HU := Lib.hid (uok13 HG.out HFW.out)
    have HOK := Lib.hid (fok13 HG.out HFW.out)
    have hn0 : 0 < bl.length := HOK.out.pos
    obtain ⟨b, hx⟩ : ∃ y, bl[0]? = some y := ⟨_, List.getElem?_eq_getElem hn0⟩
    have HX := Lib.hid hx
    clear hfew
    have f0 := HO2.out.cell 0
    have f1 := HO2.out.cell 1
    have f2 := HO2.out.cell 2
    have f3 := HO2.out.cell 3
    have f4 := HO2.out.cell 4
    simp only [List.getElem?_cons_succ, List.getElem?_cons_zero] at f0 f1 f2 f3 f4
    have QR := Lib.hid (right13_any HU.out 0 w.heap.size w2 _ _ (FuncC.move (Still.of_below HB2.out) HF0.out) HB2.out.size HOK.out (par13 _) b hx)
    clear hx
    go_wp2_with fail
    refine QR.out.mono ?_
    rintro e w3 ⟨b3, rfl, hsd, hb3⟩
    have HB3 := Lib.hid (HB2.out.trans (hb3.mono HB2.out.size))
    have HO3 := Lib.hid (HO2.out.below hb3 HO2.out.lt)
    clear hb3 f0 f1 f2 f3 f4
    cases b3 with
    | false =>
      clear hsd
      go_wp2_with fail
      refine (L13.awake13_any w3).mono ?_
      rintro e w8 ⟨rfl, hb9⟩
      have HB9 := Lib.hid (HB3.out.trans (hb9.mono HB3.out.size))
      clear hb9
      go_wp2_with fail
      go_ret
      exact ⟨rfl, HB9.out⟩
    | true =>
      have HSD := Lib.hid (hsd.1 rfl)
      clear hsd
      have hal := allP_len HFW.out
      obtain ⟨csP, pb, po, hch, hnP, haP, hcP⟩ := Chk.of_row KP.out (by decide)
      have HCH := Lib.hid hch
      have HCP := Lib.hid hcP
      have HAP := Lib.hid haP
      have HONE := Lib.hid (Chk.ones_of hch (by decide) ones_varA)
      have HPL := Lib.hid (params_len HFW.out)
      have hpl3 : ps.length ≤ 3000 := HPL.out
      clear hch hcP haP hnP
      have f0 := HO3.out.cell 0
      have f1 := HO3.out.cell 1
      have f2 := HO3.out.cell 2
      have f3 := HO3.out.cell 3
      have f4 := HO3.out.cell 4
      simp only [List.getElem?_cons_succ, List.getElem?_cons_zero] at f0 f1 f2 f3 f4
      have zl3 := HO3.out.lt
      have hs3 := HB3.out.size
      obtain ⟨W4, hW4⟩ : ∃ W4, (w3.alloc (.cells #[str nm, str rs, .slice A1 ps.length k1, .slice A2 vs.length k2, .slice A3 bl.length k3] 25)).alloc (.cells #[] 34) = W4 := ⟨_, rfl⟩
      have HE4 := Lib.hid (row_laid (w3.heap.size + 1) 2 hW4 (by simp) (w3.heap.size + 1) (by simp))
      have HB4 := Lib.hid (show Below w.heap.size w W4 by rw [← hW4]; exact (HB3.out.alloc HB3.out.size _).alloc (by have := HB3.out.size; simp; omega) _)
      have HG4 := Lib.hid (show Mem.Own W4 w3.heap.size 25 [str nm, str rs, .slice A1 ps.length k1, .slice A2 vs.length k2, .slice A3 bl.length k3] by rw [← hW4]; exact (Mem.Own.made w3 25 [str nm, str rs, .slice A1 ps.length k1, .slice A2 vs.length k2, .slice A3 bl.length k3]).alloc _)
      have HO4 := Lib.hid (show Mem.Own W4 w.heap.size 25 [str nm, str rs, .slice A1 ps.length k1, .slice A2 vs.length k2, .slice A3 bl.length k3] by rw [← hW4]; exact (HO3.out.alloc _).alloc _)
      have HW4 := Lib.hid hW4
      have hs4 : W4.heap.size = w3.heap.size + 2 := by rw [← hW4]; simp
      clear hW4
      go_wp2_with (first | (at_builtin; rw [HW4.out]; refine read_all rfl _ _ 22 rfl (w3.heap.size + 1) 34 _ 2 32 Try.underlying22 info_varA rfl (by decide) _ 0 [] rfl HE4.out A1 ps.length k1 pb po csP rfl (fun h => (HAP.out h).1) HCH.out.1 (fun j u hu => (HB4.out.cell (p := ⟨pb, po + j, none⟩) (HAP.out (len_pos HCH.out.1 hu)).2.2).trans (HCP.out j u hu)) HONE.out (by unfold maxLen; omega) (by omega) (by omega) ?_; intro v5 w5 hown5 hb5; have HN5 := Lib.hid (by have := hown5; rw [Nat.zero_add, List.nil_append] at this; exact this); have HB5 := Lib.hid hb5; have hs5 := hb5.size; clear hown5 hb5) | (at_builtin; go_loud (refine push_own rfl _ _ 22 rfl (w3.heap.size + 1) 34 _ 2 32 Try.underlying22 info_varA rfl (by decide) _ ps.length _ rfl HN5.out [str x, str [105, 110, 116]] _ rfl rfl rfl (by intro u hu; simp at hu; rcases hu with rfl | rfl <;> rfl) (by unfold maxLen; omega) (by omega) (by omega) ?_); intro v7 w7 hown7 hg7; obtain ⟨A7, c7, rfl⟩ := row_form hown7; have HN7 := Lib.hid hown7; have HB7 := Lib.hid (HB5.out.grown hg7 (by omega) (fun q hq => (HN5.out.lt q hq).1)); have HG7 := Lib.hid (HG4.out.below HB7.out (by omega)); have g0 := HG7.out.cell 0; have g1 := HG7.out.cell 1; have g2 := HG7.out.cell 2; have g3 := HG7.out.cell 3; have g4 := HG7.out.cell 4; have t2 := HG7.out.thaw 2; have gl7 := HG7.out.lt; simp only [List.getElem?_cons_succ, List.getElem?_cons_zero] at g0 g1 g2 g3 g4; clear hown7 hg7))
      have hs7 := HB7.out.size
      obtain ⟨W8, hW8⟩ : ∃ W8, w7.setCell ⟨w3.heap.size, 2, none⟩ (.slice A7 (ps.length + 1) c7) = W8 := ⟨_, rfl⟩
      have hs8 : W8.heap.size = w7.heap.size := by rw [← hW8]; simp
      have HB8 := Lib.hid (show Below w.heap.size w W8 by rw [← hW8]; exact (HB4.out.trans (HB7.out.mono (by omega))).setCell (p := ⟨w3.heap.size, 2, none⟩) hs3 _)
      have HF8 := Lib.hid (show FuncC 0 W8.heap.size W8 [str nm, str rs, .slice A7 (ps.length + 1) c7, .slice A2 vs.length k2, .slice A3 bl.length k3] ⟨nm, rs, ps ++ [⟨x, [105, 110, 116]⟩], vs, bl⟩ from
        ⟨_, _, _, rfl, Chk.to_row (base := w3.heap.size + 1) (by rw [← hW8]; exact row_set HN7.out (g := w3.heap.size) (by omega) _) (Chk.Chunks.app HCH.out (Chk.Chunks.one rfl rfl)) (by decide) (by simp; omega) (Nat.le_refl _) (Nat.zero_le _),
          Vars.move (Still.wide W8 (Nat.le_refl _) HB8.out.size) (Vars.move (Still.of_below HB8.out) KV.out), Blocks.move (Still.wide W8 (Nat.le_refl _) HB8.out.size) (Blocks.move (Still.of_below HB8.out) KB.out)⟩)
      have HG8 := Lib.hid (show Mem.Own W8 w3.heap.size 25 [str nm, str rs, .slice A7 (ps.length + 1) c7, .slice A2 vs.length k2, .slice A3 bl.length k3] by rw [← hW8]; exact HG7.out.store 2 _)
      have HR8 := Lib.hid (right13_any (uok_more HU.out hs hal) 0 W8.heap.size W8 _ _ HF8.out (Nat.le_refl _) (fok_more HOK.out HFW.out x) (par_more (f := ⟨nm, rs, ps, vs, bl⟩) x) b HX.out)
      rw [hW8]
      clear hW8 g0 g1 g2 g3 g4 t2 gl7 f0 f1 f2 f3 f4
      have f0 := HG8.out.cell 0
      have f1 := HG8.out.cell 1
      have f2 := HG8.out.cell 2
      have f3 := HG8.out.cell 3
      have f4 := HG8.out.cell 4
      simp only [List.getElem?_cons_succ, List.getElem?_cons_zero] at f0 f1 f2 f3 f4
      go_wp2_with fail
      refine HR8.out.mono ?_
      rintro e w9 ⟨b9, rfl, h9, hb9⟩
      obtain rfl : b9 = true := h9.2 (sound_more HSD.out)
      have HB9 := Lib.hid (HB8.out.trans (hb9.mono HB8.out.size))
      clear h9 hb9
      go_wp2_with fail
      go_ret
      exact ⟨rfl, HB9.out⟩

set_option maxRecDepth 100000 in
theorem lifted (os : Os) (started : os.Started) (H : Type) (enc : TypeId × Value → H) :
    ReturnsInHanded {} Try.checked os 5 .any (Rows.assignMoreSpec.pre6 enc Try.prog Try.f5 Rows.assignMoreRow.domain false) (Rows.assignMoreSpec.post enc Try.prog Try.f5 false true false false) := by
  refine returnsInHanded_of_change_sized (C := Try.checked) (by kernel_rfl) started (by kernel_rfl) Try.func5
    (ChangeSpec.witness6 (enc := enc) (C := Try.checked) false ⟨#[], #[.agg #[.string ⟨#[]⟩, .string ⟨#[]⟩, .slice none 0 0, .slice none 0 0, .slice none 0 0], .string ⟨#[]⟩], []⟩ 8 (by kernel_rfl) (by kernel_rfl) (by kernel_rfl) (by kernel_rfl)) ?_
  intro W base args ds gs before hval0 hW hcnd hsz0 _
  have hval : ∀ (j : Nat) t v, Try.f5.params[j]? = some t → args[j]? = some v → Value.okWide Try.prog W .any base t v := hval0
  have hW' := hW
  obtain ⟨p, q, hA0, hV, rfl, hfz, hnd⟩ := hW
  have hsz : (DataW.weightsEach Try.prog (Try.f5.params.toList ++ Rows.assignMoreSpec.plain.varTypes Try.prog) (ds ++ gs)).all (· ≤ reachBytes) = true := hsz0
  have hA : DataW.TrodAll enc Try.prog W 0 (fun _ => true) true Try.f5.params.toList args.toList ds p := hA0
  rw [Try.params5] at hA hval hsz
  obtain ⟨v0, vs0, d0, ds0, p0, q0, hargs, rfl, rfl, h0, r0⟩ := trodAll_cons hA
  obtain ⟨v1, vs1, d1, ds1, p1, q1, rfl, rfl, rfl, h1, r1⟩ := trodAll_cons r0
  obtain ⟨rfl, rfl, rfl⟩ := trodAll_nil r1
  obtain rfl : args = #[v0, v1] := by cases args; simp_all
  obtain ⟨rfl, rfl⟩ := trodVars_none hV
  obtain ⟨xs0, hG0⟩ := OpenP.open_func hsz (j := 0) rfl rfl (hval 0 25 v0 rfl rfl) h0
  obtain ⟨a1, rfl, rfl, rfl, _⟩ := Go.ChangeMaps.open_string Try.underlying9 (hval 1 9 v1 rfl rfl) h1
  have z1 : a1.size ≤ 140737488351232 := Shell.reach_string hsz (j := 1) (t := 9) rfl rfl
  clear hA0 hval0
  simp only [List.append_nil] at hW'
  refine (walk v0 xs0 a1 hG0 z1).mono fun e W' ⟨he, hg⟩ => ?_
  subst he
  exact ⟨_, rfl, Shell.lawPost (by kernel_rfl) rfl (by kernel_rfl) rfl Try.underlying4 hW' rfl hg⟩

/-- The statement. -/
theorem proved : Rows.AssignMoreSaid :=
  OpenClaim.holds_of_wide 5 Try.f5 rfl rfl rfl rfl rfl rfl rfl ⟨rfl, rfl, rfl, rfl, rfl⟩ rfl rfl rfl rfl rfl (by kernel_rfl) Try.func5 (by kernel_rfl)
    (of_decide_eq_true (by kernel_rfl)) (by unfold Func.isWrapper; first | (rw [if_pos (by decide +kernel)]; kernel_rfl) | (rw [if_neg (by decide +kernel)]; exact ⟨rfl, rfl⟩))
    (fun os started H enc _ => lifted os started H enc)
end Go.Proofs.Ytaeklfljibjpiaa.assignMore
