/-
  Without a block that is led to, or with one more that nothing leads to, a shape is not right.
-/
import Derived.Test.YtfffcjhhdbcmpaaRows
import Derived.Test.YtfffcjhhdbcmpaaLaw08
import Derived.Test.YtfffcjhhdbcmpaaOpenP
import Derived.Test.YtfffcjhhdbcmpaaShRef
import Derived.Test.YtfffcjhhdbcmpaaShApp
import Derived.IntWalk
import Derived.Deep.RegionLaw
import Derived.Deep.RegionHeld3
import Derived.Test.YtfffcjhhdbcmpaaShell
import Derived.ProofKit
import Derived.OpenShut
import Derived.SizedLaws
namespace Go.Proofs.Ytfffcjhhdbcmpaa.shapeLess
open Go.ChangeShapes Go.WideShapes Go.ChangeAt Go.RowKit
open Api Mem Sh8
/-- a function's box, and that what was there stays. -/
theorem fn_first {w w' : World} {g : Nat} {t : TypeId} {c0 c1 c2 c3 c4 : Value} (o : Own w' g t [c0, c1, c2, c3, c4]) (b : Below g w w') : (w'.cell? ⟨g, 0, none⟩ = some c0 ∧ w'.cell? ⟨g, 1, none⟩ = some c1 ∧ w'.cell? ⟨g, 2, none⟩ = some c2 ∧ w'.cell? ⟨g, 3, none⟩ = some c3 ∧ w'.cell? ⟨g, 4, none⟩ = some c4) ∧ Hid (Own w' g t [c0, c1, c2, c3, c4]) ∧ Hid (Below g w w') :=
  ⟨⟨o.cell 0, o.cell 1, o.cell 2, o.cell 3, o.cell 4⟩, Lib.hid o, Lib.hid b⟩
theorem fn_next {w w1 w' : World} {g : Nat} {t : TypeId} {c0 c1 c2 c3 c4 : Value} (hb : Below w1.heap.size w1 w') (h : (w1.cell? ⟨g, 0, none⟩ = some c0 ∧ w1.cell? ⟨g, 1, none⟩ = some c1 ∧ w1.cell? ⟨g, 2, none⟩ = some c2 ∧ w1.cell? ⟨g, 3, none⟩ = some c3 ∧ w1.cell? ⟨g, 4, none⟩ = some c4) ∧ Hid (Own w1 g t [c0, c1, c2, c3, c4]) ∧ Hid (Below g w w1)) :
    (w'.cell? ⟨g, 0, none⟩ = some c0 ∧ w'.cell? ⟨g, 1, none⟩ = some c1 ∧ w'.cell? ⟨g, 2, none⟩ = some c2 ∧ w'.cell? ⟨g, 3, none⟩ = some c3 ∧ w'.cell? ⟨g, 4, none⟩ = some c4) ∧ Hid (Own w' g t [c0, c1, c2, c3, c4]) ∧ Hid (Below g w w') :=
  fn_first (h.2.1.out.below hb h.2.1.out.lt) (h.2.2.out.trans (hb.mono (Nat.le_of_lt h.2.1.out.lt)))
theorem bp_yes {P : Program} {f : FuncId} {args : Array Value} {p : Prop} {w w0 : World} (h : Calls P f args w (BP p w0)) (hp : p) : Calls P f args w fun e w' => e = .returned (.bool true) ∧ Below w0.heap.size w0 w' := h.mono (by
  rintro e w' ⟨b, rfl, hb, hw⟩
  obtain rfl : b = true := hb.2 hp
  exact ⟨rfl, hw⟩)
theorem bp_no {P : Program} {f : FuncId} {args : Array Value} {p : Prop} {w w0 : World} (h : Calls P f args w (BP p w0)) (hp : ¬ p) : Calls P f args w fun e w' => e = .returned (.bool false) ∧ Below w0.heap.size w0 w' := h.mono (by
  rintro e w' ⟨b, rfl, hb, hw⟩
  cases b with
  | false => exact ⟨rfl, hw⟩
  | true => exact absurd (hb.1 rfl) hp)
theorem same_b {p : Prop} {b c : Bool} (h : b = true ↔ p) (g : c = true ↔ p) : (b == c) = true := by
  rw [Bool.eq_iff_iff.2 (h.trans g.symm)]
  simp
theorem nm_of {f : Api.Func} (h : OpenP.funcG f) : nmG f.blocks := fun b hb => (h.2.2.2 b hb).1
theorem to_of {f : Api.Func} (h : OpenP.funcG f) : toG f.blocks := fun b hb x hx => (h.2.2.2 b hb).2.2.2.2.2.1 x hx
theorem ph_of {f : Api.Func} (h : OpenP.funcG f) (hf : FewP f.blocks) : phG f.blocks := fun b hb p hp =>
  ⟨by have := (hf.2 b hb).2.2 p hp; omega, fun x hx => (((h.2.2.2 b hb).2.1 p hp).2 x hx).1⟩
theorem kth {a : Int} {n : Nat} (ha : (Lit.int .u8 a).wf = true) (hn : 2 ≤ n) (hb : n ≤ 1000) : ∃ k : Nat, wrap64 (1 + (wrap64 a).tmod ((n : Int) - 1)) = (k : Int) ∧ 1 ≤ k ∧ k < n := by
  have h' : IntKind.u8.min ≤ a ∧ a ≤ IntKind.u8.max := by simpa [Lit.wf] using ha
  have e1 : IntKind.u8.min = 0 := by decide
  have e2 : IntKind.u8.max = 255 := by decide
  rw [e1, e2] at h'
  rw [IntWalk.wrap64_in a (by omega)]
  have h1 : 0 ≤ a.tmod ((n : Int) - 1) := Int.tmod_nonneg _ h'.1
  have h2 : a.tmod ((n : Int) - 1) < (n : Int) - 1 := Int.tmod_lt_of_pos _ (by omega)
  refine ⟨(1 + a.tmod ((n : Int) - 1)).toNat, ?_, by omega, by omega⟩
  rw [IntWalk.wrap64_in _ (by omega)]
  omega
theorem of_take {l : List Value} {n j : Nat} {u : Value} (h : (l.take n)[j]? = some u) : l[j]? = some u := by
  rw [List.getElem?_take] at h
  split at h
  · exact h
  · cases h
theorem of_drop {l : List Value} {n j : Nat} {u : Value} (h : (l.drop n)[j]? = some u) : l[n + j]? = some u := by rwa [List.getElem?_drop] at h
theorem of_cell {w : World} {b o n j : Nat} {u : Value} (h : w.cell? ⟨b, o + (n + j), none⟩ = some u) : w.cell? ⟨b, o + n + j, none⟩ = some u := by rwa [Nat.add_assoc]
set_option maxRecDepth 100000 in
set_option maxHeartbeats 16000000 in
theorem walk (v : Value) (q : Api.Func × List Value) (a : Int) {w : World} (hq : v = .agg q.2.toArray ∧ FuncC 0 w.heap.size w q.2 q.1 ∧ OpenP.funcG q.1) (ha : (Lit.int .u8 a).wf = true) :
    Calls Try.prog 7 #[v, .int .u8 a] w fun e w' => e = .returned (.bool true) ∧ Below w.heap.size w w' := by
  obtain ⟨rfl, hfc, hG⟩ := hq
  obtain ⟨f, cs⟩ := q
  simp only at hfc hG
  have hfc0 := hfc
  obtain ⟨u1, u2, u3, rfl, kp, kv, kb⟩ := hfc
  obtain ⟨nm, rs, ps, vs, bl⟩ := f
  simp only at kp kv kb
  obtain ⟨A1, k1, rfl⟩ := kp.form
  obtain ⟨A2, k2, rfl⟩ := kv.form
  obtain ⟨A3, k3, rfl⟩ := kb.form
  obtain ⟨W, hW⟩ : ∃ W, w.alloc (.cells #[str nm, str rs, .slice A1 ps.length k1, .slice A2 vs.length k2, .slice A3 bl.length k3] 25) = W := ⟨_, rfl⟩
  obtain ⟨o1, b1, z1⟩ := box8 (c := [str nm, str rs, .slice A1 ps.length k1, .slice A2 vs.length k2, .slice A3 bl.length k3]) hW
  have HF0 := Lib.hid hfc0
  have HG := Lib.hid hG
  have HO := Lib.hid o1
  have HB := Lib.hid b1
  have HW := Lib.hid hW
  have zlt := o1.lt
  have KB0 := Lib.hid kb
  have KP0 := Lib.hid kp
  have KV0 := Lib.hid kv
  obtain ⟨csB, bb, bo, hch, hnB, haB, hcB⟩ := Chk.of_row kb (by decide)
  have HCH := Lib.hid hch
  have HCB := Lib.hid hcB
  have HAB := Lib.hid haB
  have HONE := Lib.hid (Chk.ones_of hch (by decide) Chk.ones_block)
  clear hch hcB haB hnB
  clear o1 b1 hW kp kv kb hfc0 hG
  go_enter Try.func7, Try.ntmps7
  go_wp2_with fail
  rw [HW.out]
  refine (L08.awake_any W).mono ?_
  rintro e w1 ⟨rfl, hb1⟩
  have HB1 := Lib.hid (HB.out.trans (hb1.mono HB.out.size))
  have HO1 := Lib.hid (HO.out.below hb1 HO.out.lt)
  have QF := Lib.hid (few_any 0 w.heap.size w1 _ _ (FuncC.move (Still.of_below HB1.out) HF0.out) HB1.out.size)
  clear hb1
  have f0 := HO1.out.cell 0
  have f1 := HO1.out.cell 1
  have f2 := HO1.out.cell 2
  have f3 := HO1.out.cell 3
  have f4 := HO1.out.cell 4
  simp only [List.getElem?_cons_succ, List.getElem?_cons_zero] at f0 f1 f2 f3 f4
  go_wp2_with fail
  refine QF.out.mono ?_
  rintro e w2 ⟨b2, rfl, hfew, hb2⟩
  have HB2 := Lib.hid (HB1.out.trans (hb2.mono HB1.out.size))
  have HO2 := Lib.hid (HO1.out.below hb2 HO1.out.lt)
  clear hb2 f0 f1 f2 f3 f4
  cases b2 with
  | false =>
    clear hfew
    go_wp2_with fail
    refine (L08.awake_any w2).mono ?_
    rintro e w3 ⟨rfl, hb3⟩
    have HB3 := Lib.hid (HB2.out.trans (hb3.mono HB2.out.size))
    clear hb3
    go_wp2_with fail
    go_ret
    exact ⟨rfl, HB3.out⟩
  | true =>
    have hfw := hfew rfl
    have hlb : bl.length ≤ 60 := hfw.1
    have HFW := Lib.hid hfw
    clear hfew hfw
    have f0 := HO2.out.cell 0
    have f1 := HO2.out.cell 1
    have f2 := HO2.out.cell 2
    have f3 := HO2.out.cell 3
    have f4 := HO2.out.cell 4
    simp only [List.getElem?_cons_succ, List.getElem?_cons_zero] at f0 f1 f2 f3 f4
    go_wp2_with fail
    refine (right_any 0 w.heap.size w2 _ _ (FuncC.move (Still.of_below HB2.out) HF0.out) HB2.out.size (by show bl.length ≤ _; omega) (nm_of HG.out) (to_of HG.out)).mono ?_
    rintro e w3 ⟨b3, rfl, h3, hb3⟩
    have HB3 := Lib.hid (HB2.out.trans (hb3.mono HB2.out.size))
    have HO3 := Lib.hid (HO2.out.below hb3 HO2.out.lt)
    clear hb3 f0 f1 f2 f3 f4
    cases b3 with
    | false =>
      clear h3
      go_wp2_with fail
      refine (L08.awake_any w3).mono ?_
      rintro e w4 ⟨rfl, hb4⟩
      have HB4 := Lib.hid (HB3.out.trans (hb4.mono HB3.out.size))
      clear hb4
      go_wp2_with fail
      go_ret
      exact ⟨rfl, HB4.out⟩
    | true =>
      have HRT := Lib.hid (h3.1 rfl)
      have h0 : 0 < bl.length := List.length_pos_iff.2 (h3.1 rfl).1
      clear h3
      obtain ⟨rfl, _, hbb⟩ := HAB.out h0
      have f0 := HO3.out.cell 0
      have f1 := HO3.out.cell 1
      have f2 := HO3.out.cell 2
      have f3 := HO3.out.cell 3
      have f4 := HO3.out.cell 4
      simp only [List.getElem?_cons_succ, List.getElem?_cons_zero] at f0 f1 f2 f3 f4
      have zl3 := HO3.out.lt
      obtain ⟨W4, hW4⟩ : ∃ W4, (w3.alloc (.cells #[str nm, str rs, .slice A1 ps.length k1, .slice A2 vs.length k2, .slice (some ⟨bb, bo, none⟩) bl.length k3] 25)).alloc (.cells #[] 40) = W4 := ⟨_, rfl⟩
      have HE4 := Lib.hid (row_laid (w3.heap.size + 1) 9 hW4 (by simp) (w3.heap.size + 1) (by simp))
      have HB4 := Lib.hid (show Below w.heap.size w W4 by rw [← hW4]; exact (HB3.out.alloc HB3.out.size _).alloc (by have := HB3.out.size; simp; omega) _)
      have HG4 := Lib.hid (show Own W4 w3.heap.size 25 [str nm, str rs, .slice A1 ps.length k1, .slice A2 vs.length k2, .slice (some ⟨bb, bo, none⟩) bl.length k3] by rw [← hW4]; exact (Own.made w3 25 [str nm, str rs, .slice A1 ps.length k1, .slice A2 vs.length k2, .slice (some ⟨bb, bo, none⟩) bl.length k3]).alloc _)
      have HO4 := Lib.hid (show Own W4 w.heap.size 25 [str nm, str rs, .slice A1 ps.length k1, .slice A2 vs.length k2, .slice (some ⟨bb, bo, none⟩) bl.length k3] by rw [← hW4]; exact (HO3.out.alloc _).alloc _)
      have HW4 := Lib.hid hW4
      have hs4 : W4.heap.size = w3.heap.size + 2 := by rw [← hW4]; simp
      clear hW4
      go_wp2_with (at_builtin; rw [HW4.out]; refine read_own rfl _ _ 23 rfl (w3.heap.size + 1) 40 _ 9 136 Try.underlying23 info_block rfl (by decide) _ 0 [] rfl HE4.out bb bo bl.length k3 csB rfl HCH.out.1 (fun j u hu => (HB4.out.cell (p := ⟨bb, bo + j, none⟩) hbb).trans (HCB.out j u hu)) HONE.out (by unfold maxLen; omega) (by omega) (by omega) ?_; intro v5 w5 hown5 hb5; have HN5 := Lib.hid hown5; have HB5 := Lib.hid hb5; clear hown5 hb5)
      have QJ : Calls Try.prog 16 #[str [98, 32, 49], .slice none 0 0] w5 fun e w' => e = .returned (.agg #[str [98, 32, 49], .slice none 0 0, .slice none 0 0, i64 1, i64 0, str [], i64 0, .slice none 0 0, i64 0]) ∧ Below w5.heap.size w5 w' := L08.jump_any w5 [98, 32, 49] none 0 0
      refine QJ.mono ?_
      rintro e w6 ⟨rfl, hb6⟩
      have HN6 := Lib.hid (by have := HN5.out; rw [Nat.zero_add, List.nil_append] at this; exact row_below this hb6)
      have hs5 := HB5.out.size
      have HB6 := Lib.hid (HB5.out.trans (hb6.mono (by omega)))
      have hs6 := HB6.out.size
      clear hb6
      go_wp2_with (at_builtin; go_loud (refine push_own rfl _ _ 23 rfl (w3.heap.size + 1) 40 _ 9 136 Try.underlying23 info_block rfl (by decide) _ bl.length _ rfl HN6.out [str [98, 32, 49], .slice none 0 0, .slice none 0 0, i64 1, i64 0, str [], i64 0, .slice none 0 0, i64 0] _ rfl rfl rfl (by intro u hu; simp at hu; rcases hu with rfl | rfl | rfl | rfl | rfl | rfl | rfl | rfl <;> rfl) (by unfold maxLen; omega) (by omega) (by omega) ?_); intro v7 w7 hown7 hg7; obtain ⟨A7, c7, rfl⟩ := row_form hown7; have HN7 := Lib.hid hown7; have HB7 := Lib.hid (HB6.out.grown hg7 (by omega) (fun q hq => (HN6.out.lt q hq).1)); have HG7 := Lib.hid (HG4.out.below HB7.out (by omega)); have g0 := HG7.out.cell 0; have g1 := HG7.out.cell 1; have g2 := HG7.out.cell 2; have g3 := HG7.out.cell 3; have g4 := HG7.out.cell 4; have t4 := HG7.out.thaw 4; have gl7 := HG7.out.lt; simp only [List.getElem?_cons_succ, List.getElem?_cons_zero] at g0 g1 g2 g3 g4; clear hown7 hg7)
      have hs7 := HB7.out.size
      obtain ⟨W8, hW8⟩ : ∃ W8, w7.setCell ⟨w3.heap.size, 4, none⟩ (.slice A7 (bl.length + 1) c7) = W8 := ⟨_, rfl⟩
      have hs8 : W8.heap.size = w7.heap.size := by rw [← hW8]; simp
      have hws := HB3.out.size
      have HB8 := Lib.hid (show Below w.heap.size w W8 by rw [← hW8]; exact (HB4.out.trans (HB7.out.mono (by omega))).setCell (p := ⟨w3.heap.size, 4, none⟩) hws _)
      have HF8 := Lib.hid (show FuncC 0 W8.heap.size W8 [str nm, str rs, .slice A1 ps.length k1, .slice A2 vs.length k2, .slice A7 (bl.length + 1) c7] ⟨nm, rs, ps, vs, bl ++ [L08.jb [98, 32, 49] []]⟩ from
        ⟨_, _, _, rfl, Vars.move (Still.wide W8 (Nat.le_refl _) HB8.out.size) (Vars.move (Still.of_below HB8.out) KP0.out), Vars.move (Still.wide W8 (Nat.le_refl _) HB8.out.size) (Vars.move (Still.of_below HB8.out) KV0.out),
          Chk.to_row (base := w3.heap.size + 1) (by rw [← hW8]; exact row_set HN7.out (g := w3.heap.size) (by omega) _) (Chk.Chunks.app (chunks_move HCH.out HB8.out HB8.out.size) (Chk.Chunks.one rfl (L08.jump_c L08.row_zero8))) (by decide) (by simp; omega) (Nat.le_refl _) (Nat.zero_le _)⟩)
      have HG8 := Lib.hid (show Own W8 w3.heap.size 25 [str nm, str rs, .slice A1 ps.length k1, .slice A2 vs.length k2, .slice A7 (bl.length + 1) c7] by rw [← hW8]; exact HG7.out.store 4 _)
      have HO8 := Lib.hid (show Own W8 w.heap.size 25 [str nm, str rs, .slice A1 ps.length k1, .slice A2 vs.length k2, .slice (some ⟨bb, bo, none⟩) bl.length k3] by rw [← hW8]; exact Own.below (B := w3.heap.size) (HO4.out.below (HB7.out) (by omega)) ((Below.refl _ _).setCell (p := ⟨w3.heap.size, 4, none⟩) (Nat.le_refl _) _) zl3)
      rw [hW8]
      clear hW8 g0 g1 g2 g3 g4 t4 gl7 f0 f1 f2 f3 f4
      refine (right_any 0 W8.heap.size W8 _ _ HF8.out (Nat.le_refl _) (by simp; omega) (by
        intro b hb
        rcases List.mem_append.1 hb with hb | hb
        · exact nm_of HG.out b hb
        · simp at hb
          subst hb
          simp) (by
        intro b hb x hx
        rcases List.mem_append.1 hb with hb | hb
        · exact to_of HG.out b hb x hx
        · simp at hb
          subst hb
          simp at hx)).mono ?_
      rintro e w9 ⟨b9, rfl, h9, hb9⟩
      have HB9 := Lib.hid (HB8.out.trans (hb9.mono HB8.out.size))
      have HO9 := Lib.hid (HO8.out.below hb9 HO8.out.lt)
      obtain rfl : b9 = false := by
        cases b9 with
        | false => rfl
        | true => exact absurd (h9.1 rfl) (not_more HRT.out rfl)
      clear h9 hb9
      have f0 := HO9.out.cell 0
      have f1 := HO9.out.cell 1
      have f2 := HO9.out.cell 2
      have f3 := HO9.out.cell 3
      have f4 := HO9.out.cell 4
      simp only [List.getElem?_cons_succ, List.getElem?_cons_zero] at f0 f1 f2 f3 f4
      by_cases h2 : bl.length < 2
      · have e2 : decide ((bl.length : Int) < 2) = true := decide_eq_true (by omega)
        go_wp2_with fail
        go_ret
        exact ⟨rfl, HB9.out⟩
      · have e2 : decide ((bl.length : Int) < 2) = false := decide_eq_false (by omega)
        go_wp2_with fail
        obtain ⟨k, ek, hk1, hk2⟩ := kth ha (n := bl.length) (by omega) (by omega)
        rw [ek]
        clear f0 f1 f2 f3 f4
        obtain ⟨gh, hgh⟩ : ∃ gh, w9.heap.size = gh := ⟨_, rfl⟩
        obtain ⟨W10, hW10⟩ : ∃ W10, w9.alloc (.cells #[str nm, str rs, .slice A1 ps.length k1, .slice A2 vs.length k2, .slice (some ⟨bb, bo, none⟩) bl.length k3] 25) = W10 := ⟨_, rfl⟩
        have HB10 := Lib.hid (show Below w.heap.size w W10 by rw [← hW10]; exact HB9.out.alloc HB9.out.size _)
        have HH10 := Lib.hid (show Own W10 gh 25 [str nm, str rs, .slice A1 ps.length k1, .slice A2 vs.length k2, .slice (some ⟨bb, bo, none⟩) bl.length k3] by rw [← hW10, ← hgh]; exact Own.made w9 _ _)
        have HO10 := Lib.hid (show Own W10 w.heap.size 25 [str nm, str rs, .slice A1 ps.length k1, .slice A2 vs.length k2, .slice (some ⟨bb, bo, none⟩) bl.length k3] by rw [← hW10]; exact HO9.out.alloc _)
        have hs10 : W10.heap.size = gh + 1 := by rw [← hW10, ← hgh]; simp
        have hwg : w.heap.size < gh := by rw [← hgh]; exact HO9.out.lt
        rw [hW10]
        simp only [hgh]
        clear hW10
        have f0 := HO10.out.cell 0
        have f1 := HO10.out.cell 1
        have f2 := HO10.out.cell 2
        have f3 := HO10.out.cell 3
        have f4 := HO10.out.cell 4
        simp only [List.getElem?_cons_succ, List.getElem?_cons_zero] at f0 f1 f2 f3 f4
        have HE := Lib.hid ((row_laid (gh + 1) 9 (rfl : W10.alloc (.cells #[] 40) = _) (by omega) (gh + 1) (by omega)).drew)
        have HCK := Lib.hid (chunks_take HCH.out (k := k) (by omega))
        have HCD := Lib.hid (chunks_drop HCH.out (k + 1))
        have hk3 : bl.length ≤ k3 := by have := KB0.out; exact Row.cap this
        have hkk : k ≤ k3 := by omega
        have hk4 : k + 1 ≤ bl.length := hk2
        have ew := IntWalk.i64_in ((k : Int) + 1) ⟨by omega, by omega⟩
        have ew3 : (0 : Int) ≤ (k : Int) + 1 := by omega
        have ew4 : ((k : Int) + 1).toNat = k + 1 := by omega
        have ew5 : (k : Int) + 1 ≤ (k3 : Int) := by omega
        have ew6 : (k : Int) + 1 ≤ (bl.length : Int) := by omega
        by_cases hcap : k + 1 < k3
        · skip
          have HLK := Lib.hid (show (csB.take (k * 9)).length = k * 9 by rw [HCK.out.1, List.length_take, Nat.min_eq_left (by omega)])
          have HLD := Lib.hid (show (csB.drop ((k + 1) * 9)).length = (bl.length - (k + 1)) * 9 by rw [HCD.out.1, List.length_drop])
          have hcap2 : ¬ k3 = k + 1 := by omega
          have hcap3 : ¬ k3 - (k + 1) = 0 := by omega
          go_region_law (first
            | (refine step_own rfl _ _ 23 rfl (gh + 1) 40 _ 9 136 Try.underlying23 info_block rfl (by decide) _ 0 [] rfl HE.out bb bo k k3 (csB.take (k * 9)) rfl HLK.out (fun j u hu => (((HB10.out.alloc HB10.out.size (.cells #[] 40)).drew).cell (p := ⟨bb, bo + j, none⟩) hbb).trans (HCB.out j u (of_take hu))) (fun u hu => HONE.out u (List.mem_of_mem_take hu)) (by unfold maxLen; omega) (by omega) (by show gh + 1 ≤ (W10.alloc (.cells #[] 40)).heap.size; simp; omega) ?_; intro v11 w11 hown11 hb11; have HN11 := Lib.hid hown11; have HB11 := Lib.hid (show Below (gh + 1) W10 w11 from ((((Below.refl W10.heap.size W10).alloc (Nat.le_refl _) (.cells #[] 40)).drew).mono (by omega)).trans hb11); have HO11 := Lib.hid (HO10.out.below HB11.out (by omega)); have k4 := HO11.out.cell 4; simp only [List.getElem?_cons_succ, List.getElem?_cons_zero] at k4; clear hown11 hb11)
            | (refine step_own rfl _ _ 23 rfl (gh + 1) 40 _ 9 136 Try.underlying23 info_block rfl (by decide) _ (0 + k) _ rfl HN11.out bb (bo + (k + 1) * 9) (bl.length - (k + 1)) (k3 - (k + 1)) (csB.drop ((k + 1) * 9)) rfl HLD.out (fun j u hu => (HB10.out.trans (HB11.out.mono (by omega))).cell (p := ⟨bb, bo + (k + 1) * 9 + j, none⟩) hbb |>.trans (of_cell (HCB.out ((k + 1) * 9 + j) u (of_drop hu)))) (fun u hu => HONE.out u (List.mem_of_mem_drop hu)) (by unfold maxLen; omega) (by omega) (by have := HB11.out.size; omega) ?_; intro v12 w12 hown12 hb12; obtain ⟨A12, c12, rfl⟩ := row_form hown12; have HN12 := Lib.hid hown12; have HB12 := Lib.hid (HB11.out.trans hb12); have HH12 := Lib.hid (HH10.out.below HB12.out (by omega)); have p4 := HH12.out.cell 4; have tt4 := HH12.out.thaw 4; have gl12 := HH12.out.lt; simp only [List.getElem?_cons_succ, List.getElem?_cons_zero] at p4; clear hown12 hb12))
          all_goals
            have HN13 := Lib.hid (show w12.ownsRow (gh + 1) 40 9 (.slice A12 (k + (bl.length - (k + 1))) c12) (k + (bl.length - (k + 1))) (csB.take (k * 9) ++ csB.drop ((k + 1) * 9)) by have := HN12.out; simp only [Nat.zero_add, List.nil_append] at this; exact this)
            obtain ⟨W13, hW13⟩ : ∃ W13, w12.setCell ⟨gh, 4, none⟩ (.slice A12 (k + (bl.length - (k + 1))) c12) = W13 := ⟨_, rfl⟩
            have hs13 : W13.heap.size = w12.heap.size := by rw [← hW13]; simp
            have hs12 := HB12.out.size
            have HB13 := Lib.hid (show Below w.heap.size w W13 by rw [← hW13]; exact (HB10.out.trans (HB12.out.mono (by omega))).setCell (p := ⟨gh, 4, none⟩) (Nat.le_of_lt hwg) _)
            have HF13 := Lib.hid (show FuncC 0 W13.heap.size W13 [str nm, str rs, .slice A1 ps.length k1, .slice A2 vs.length k2, .slice A12 (k + (bl.length - (k + 1))) c12] ⟨nm, rs, ps, vs, bl.take k ++ bl.drop (k + 1)⟩ from
              ⟨_, _, _, rfl, Vars.move (Still.wide W13 (Nat.le_refl _) HB13.out.size) (Vars.move (Still.of_below HB13.out) KP0.out), Vars.move (Still.wide W13 (Nat.le_refl _) HB13.out.size) (Vars.move (Still.of_below HB13.out) KV0.out),
                Chk.to_row (base := gh + 1) (by rw [← hW13]; exact row_set HN13.out (g := gh) (by omega) _) (Chk.Chunks.app (chunks_move HCK.out HB13.out HB13.out.size) (chunks_move HCD.out HB13.out HB13.out.size)) (by decide) (by simp; omega) (Nat.le_refl _) (Nat.zero_le _)⟩)
            have HH13 := Lib.hid (show Own W13 gh 25 [str nm, str rs, .slice A1 ps.length k1, .slice A2 vs.length k2, .slice A12 (k + (bl.length - (k + 1))) c12] by rw [← hW13]; exact HH12.out.store 4 _)
            have HO13 := Lib.hid (show Own W13 w.heap.size 25 [str nm, str rs, .slice A1 ps.length k1, .slice A2 vs.length k2, .slice (some ⟨bb, bo, none⟩) bl.length k3] by rw [← hW13]; exact Own.below (B := gh) (HO10.out.below HB12.out (by omega)) ((Below.refl _ _).setCell (p := ⟨gh, 4, none⟩) (Nat.le_refl _) _) hwg)
            rw [hW13]
            clear hW13 p4 tt4 gl12
            try clear k4
            clear f0 f1 f2 f3 f4
            have f0 := HO13.out.cell 0
            have f1 := HO13.out.cell 1
            have f2 := HO13.out.cell 2
            have f3 := HO13.out.cell 3
            have f4 := HO13.out.cell 4
            simp only [List.getElem?_cons_succ, List.getElem?_cons_zero] at f0 f1 f2 f3 f4
            go_wp2_with fail
            go_loopw [8, 9] (fun u i wr => ∃ (i' : Nat) (u' : Bool), i' ≤ bl.length ∧ u = .bool u' ∧ i = .int .i64 i' ∧ Hid (u' = true → ∃ (j : Nat) (b c : Bl), j ≠ k ∧ bl[k]? = some b ∧ bl[j]? = some c ∧ b.name ∈ c.fin.dest) ∧ Hid (Below W13.heap.size W13 wr)) (fun _ i _ => bl.length - (intOf i).toNat)
            case atStart => exact ⟨0, false, Nat.zero_le _, rfl, rfl, Lib.hid (fun h => by cases h), Lib.hid (Below.refl _ _)⟩
            case round =>
            obtain ⟨i, u, hi, rfl, rfl, HU, HBr⟩ := hrel
            clear f0 f1 f2 f3 f4
            have HOI := Lib.hid (HO13.out.below HBr.out HO13.out.lt)
            have HBI := Lib.hid (HB13.out.trans (HBr.out.mono HB13.out.size))
            have f0 := HOI.out.cell 0
            have f1 := HOI.out.cell 1
            have f2 := HOI.out.cell 2
            have f3 := HOI.out.cell 3
            have f4 := HOI.out.cell 4
            simp only [List.getElem?_cons_succ, List.getElem?_cons_zero] at f0 f1 f2 f3 f4
            by_cases hlt : i < bl.length
            · cases u with
              | true =>
                go_wp2_with fail
                go_roundw
                case rel => exact ⟨i + 1, true, by omega, rfl, by go_num, HU, HBr⟩
                case measure => simp [intOf]; omega
              | false =>
                by_cases hik : i = k
                · have e9 : ((i : Int) == (k : Int)) = true := by rw [hik]; simp
                  have e8 : (i == k) = true := by simpa using hik
                  have HIK := Lib.hid hik
                  subst hik
                  go_wp2_with fail
                  go_roundw
                  case rel => exact ⟨i + 1, false, by omega, rfl, by go_num, Lib.hid (fun h => by cases h), HBr⟩
                  case measure => simp [intOf]; omega
                · have e9 : ((i : Int) == (k : Int)) = false := by simp; omega
                  have e8 : ¬ ((i : Int) = (k : Int)) := by omega
                  obtain ⟨c, hc⟩ : ∃ c, bl[i]? = some c := ⟨_, List.getElem?_eq_getElem hlt⟩
                  obtain ⟨bk, hbk⟩ : ∃ b, bl[k]? = some b := ⟨_, List.getElem?_eq_getElem (by omega)⟩
                  have QL := Lib.hid (leads_any 0 w.heap.size wr _ _ (FuncC.move (Still.of_below HBI.out) HF0.out) HBI.out.size i k c hc (by omega))
                  have HC := Lib.hid hc
                  have HBK := Lib.hid hbk
                  have HIK := Lib.hid hik
                  clear hc hbk hik
                  go_wp2_with fail
                  refine QL.out.mono ?_
                  rintro e wq ⟨bq, rfl, hbq, hwq⟩
                  have HBQ := Lib.hid (HBr.out.trans (hwq.mono HBr.out.size))
                  have HUQ := Lib.hid (show bq = true → ∃ (j : Nat) (b c : Bl), j ≠ k ∧ bl[k]? = some b ∧ bl[j]? = some c ∧ b.name ∈ c.fin.dest from fun h => by
                    obtain ⟨x, hx, hp⟩ := hbq.1 h
                    have := plc_at hp
                    rw [names_at HBK.out] at this
                    cases this
                    exact ⟨i, bk, c, HIK.out, HBK.out, HC.out, hx⟩)
                  clear hbq hwq f0 f1 f2 f3 f4
                  go_wp2_with fail
                  go_roundw
                  case rel => exact ⟨i + 1, bq, by omega, by simp [bne, e9], by go_num, HUQ, HBQ⟩
                  case measure => simp [intOf]; omega
            · have HHI := Lib.hid (HH13.out.below HBr.out HH13.out.lt)
              have q0 := HHI.out.cell 0
              have q1 := HHI.out.cell 1
              have q2 := HHI.out.cell 2
              have q3 := HHI.out.cell 3
              have q4 := HHI.out.cell 4
              simp only [List.getElem?_cons_succ, List.getElem?_cons_zero] at q0 q1 q2 q3 q4
              cases u with
              | false =>
                go_wp2_with fail
                go_ret
                exact ⟨rfl, HBI.out⟩
              | true =>
                obtain ⟨j, b, c, h1, h2', h3, h4⟩ := HU.out rfl
                have QR := Lib.hid (bp_no (right_any 0 W13.heap.size wr _ _ (FuncC.move (Still.of_below HBr.out) HF13.out) HBr.out.size (by simp; omega) (by
                  intro b hb
                  rcases List.mem_append.1 hb with hb | hb
                  · exact nm_of HG.out b (List.mem_of_mem_take hb)
                  · exact nm_of HG.out b (List.mem_of_mem_drop hb)) (by
                  intro b hb x hx
                  rcases List.mem_append.1 hb with hb | hb
                  · exact to_of HG.out b (List.mem_of_mem_take hb) x hx
                  · exact to_of HG.out b (List.mem_of_mem_drop hb) x hx)) (not_less HRT.out h2' h3 h1 h4))
                clear h1 h2' h3 h4
                go_wp2_with fail
                refine QR.out.mono ?_
                rintro e wq ⟨rfl, hwq⟩
                have HBQ := Lib.hid (HBI.out.trans (hwq.mono HBI.out.size))
                clear hwq f0 f1 f2 f3 f4
                go_wp2_with fail
                go_ret
                exact ⟨rfl, HBQ.out⟩
        · skip
          have HLK := Lib.hid (show (csB.take (k * 9)).length = k * 9 by rw [HCK.out.1, List.length_take, Nat.min_eq_left (by omega)])
          have HLD := Lib.hid (show (csB.drop ((k + 1) * 9)).length = (bl.length - (k + 1)) * 9 by rw [HCD.out.1, List.length_drop])
          have hcap2 : k3 = k + 1 := by omega
          have hdr : csB.drop ((k + 1) * 9) = [] := List.eq_nil_of_length_eq_zero (by rw [HLD.out]; omega)
          have HDR := Lib.hid hdr
          have HML := Lib.hid (show ([] : List Value).length = (bl.length - (k + 1)) * 9 by simp; omega)
          clear hdr
          subst hcap2
          have hki : (k : Int) ≤ (k : Int) + 1 := by omega
          go_region_law (first
            | (refine step_own rfl _ _ 23 rfl (gh + 1) 40 _ 9 136 Try.underlying23 info_block rfl (by decide) _ 0 [] rfl HE.out bb bo k _ (csB.take (k * 9)) rfl HLK.out (fun j u hu => (((HB10.out.alloc HB10.out.size (.cells #[] 40)).drew).cell (p := ⟨bb, bo + j, none⟩) hbb).trans (HCB.out j u (of_take hu))) (fun u hu => HONE.out u (List.mem_of_mem_take hu)) (by unfold maxLen; omega) (by omega) (by show gh + 1 ≤ (W10.alloc (.cells #[] 40)).heap.size; simp; omega) ?_; intro v11 w11 hown11 hb11; have HN11 := Lib.hid hown11; have HB11 := Lib.hid (show Below (gh + 1) W10 w11 from ((((Below.refl W10.heap.size W10).alloc (Nat.le_refl _) (.cells #[] 40)).drew).mono (by omega)).trans hb11); have HO11 := Lib.hid (HO10.out.below HB11.out (by omega)); have k4 := HO11.out.cell 4; simp only [List.getElem?_cons_succ, List.getElem?_cons_zero] at k4; clear hown11 hb11)
            | (refine step_own rfl _ _ 23 rfl (gh + 1) 40 _ 9 136 Try.underlying23 info_block rfl (by decide) _ (0 + k) _ rfl HN11.out bb bo 0 0 ([] : List Value) rfl rfl (fun j u hu => by simp at hu) (fun u hu => by cases hu) (by unfold maxLen; omega) (by omega) (by have := HB11.out.size; omega) ?_; intro v12 w12 hown12 hb12; obtain ⟨A12, c12, rfl⟩ := row_form hown12; have HN12 := Lib.hid hown12; have HB12 := Lib.hid (HB11.out.trans hb12); have HH12 := Lib.hid (HH10.out.below HB12.out (by omega)); have p4 := HH12.out.cell 4; have tt4 := HH12.out.thaw 4; have gl12 := HH12.out.lt; simp only [List.getElem?_cons_succ, List.getElem?_cons_zero] at p4; clear hown12 hb12))
          all_goals
            clear hki hcap hkk ew ew3 ew4 ew5 ew6
            have HN13 := Lib.hid (show w12.ownsRow (gh + 1) 40 9 (.slice A12 k c12) k (csB.take (k * 9) ++ csB.drop ((k + 1) * 9)) by have := HN12.out; rw [HDR.out, List.append_nil]; simp only [Nat.zero_add, Nat.add_zero, List.nil_append, List.append_nil] at this; exact this)
            obtain ⟨W13, hW13⟩ : ∃ W13, w12.setCell ⟨gh, 4, none⟩ (.slice A12 k c12) = W13 := ⟨_, rfl⟩
            have hs13 : W13.heap.size = w12.heap.size := by rw [← hW13]; simp
            have hs12 := HB12.out.size
            have HB13 := Lib.hid (show Below w.heap.size w W13 by rw [← hW13]; exact (HB10.out.trans (HB12.out.mono (by omega))).setCell (p := ⟨gh, 4, none⟩) (Nat.le_of_lt hwg) _)
            have HF13 := Lib.hid (show FuncC 0 W13.heap.size W13 [str nm, str rs, .slice A1 ps.length k1, .slice A2 vs.length k2, .slice A12 k c12] ⟨nm, rs, ps, vs, bl.take k ++ bl.drop (k + 1)⟩ from
              ⟨_, _, _, rfl, Vars.move (Still.wide W13 (Nat.le_refl _) HB13.out.size) (Vars.move (Still.of_below HB13.out) KP0.out), Vars.move (Still.wide W13 (Nat.le_refl _) HB13.out.size) (Vars.move (Still.of_below HB13.out) KV0.out),
                Chk.to_row (base := gh + 1) (by rw [← hW13]; exact row_set HN13.out (g := gh) (by omega) _) (Chk.Chunks.app (chunks_move HCK.out HB13.out HB13.out.size) (chunks_move HCD.out HB13.out HB13.out.size)) (by decide) (by simp; omega) (Nat.le_refl _) (Nat.zero_le _)⟩)
            have HH13 := Lib.hid (show Own W13 gh 25 [str nm, str rs, .slice A1 ps.length k1, .slice A2 vs.length k2, .slice A12 k c12] by rw [← hW13]; exact HH12.out.store 4 _)
            have HO13 := Lib.hid (show Own W13 w.heap.size 25 [str nm, str rs, .slice A1 ps.length k1, .slice A2 vs.length k2, .slice (some ⟨bb, bo, none⟩) bl.length (k + 1)] by rw [← hW13]; exact Own.below (B := gh) (HO10.out.below HB12.out (by omega)) ((Below.refl _ _).setCell (p := ⟨gh, 4, none⟩) (Nat.le_refl _) _) hwg)
            rw [hW13]
            clear hW13 p4 tt4 gl12
            try clear k4
            clear f0 f1 f2 f3 f4
            have f0 := HO13.out.cell 0
            have f1 := HO13.out.cell 1
            have f2 := HO13.out.cell 2
            have f3 := HO13.out.cell 3
            have f4 := HO13.out.cell 4
            simp only [List.getElem?_cons_succ, List.getElem?_cons_zero] at f0 f1 f2 f3 f4
            go_wp2_with fail
            go_loopw [8, 9] (fun u i wr => ∃ (i' : Nat) (u' : Bool), i' ≤ bl.length ∧ u = .bool u' ∧ i = .int .i64 i' ∧ Hid (u' = true → ∃ (j : Nat) (b c : Bl), j ≠ k ∧ bl[k]? = some b ∧ bl[j]? = some c ∧ b.name ∈ c.fin.dest) ∧ Hid (Below W13.heap.size W13 wr)) (fun _ i _ => bl.length - (intOf i).toNat)
            case atStart => exact ⟨0, false, Nat.zero_le _, rfl, rfl, Lib.hid (fun h => by cases h), Lib.hid (Below.refl _ _)⟩
            case round =>
            obtain ⟨i, u, hi, rfl, rfl, HU, HBr⟩ := hrel
            clear f0 f1 f2 f3 f4
            have HOI := Lib.hid (HO13.out.below HBr.out HO13.out.lt)
            have HBI := Lib.hid (HB13.out.trans (HBr.out.mono HB13.out.size))
            have f0 := HOI.out.cell 0
            have f1 := HOI.out.cell 1
            have f2 := HOI.out.cell 2
            have f3 := HOI.out.cell 3
            have f4 := HOI.out.cell 4
            simp only [List.getElem?_cons_succ, List.getElem?_cons_zero] at f0 f1 f2 f3 f4
            by_cases hlt : i < bl.length
            · cases u with
              | true =>
                go_wp2_with fail
                go_roundw
                case rel => exact ⟨i + 1, true, by omega, rfl, by go_num, HU, HBr⟩
                case measure => simp [intOf]; omega
              | false =>
                by_cases hik : i = k
                · have e9 : ((i : Int) == (k : Int)) = true := by rw [hik]; simp
                  have e8 : (i == k) = true := by simpa using hik
                  have HIK := Lib.hid hik
                  subst hik
                  go_wp2_with fail
                  go_roundw
                  case rel => exact ⟨i + 1, false, by omega, rfl, by go_num, Lib.hid (fun h => by cases h), HBr⟩
                  case measure => simp [intOf]; omega
                · have e9 : ((i : Int) == (k : Int)) = false := by simp; omega
                  have e8 : ¬ ((i : Int) = (k : Int)) := by omega
                  obtain ⟨c, hc⟩ : ∃ c, bl[i]? = some c := ⟨_, List.getElem?_eq_getElem hlt⟩
                  obtain ⟨bk, hbk⟩ : ∃ b, bl[k]? = some b := ⟨_, List.getElem?_eq_getElem (by omega)⟩
                  have QL := Lib.hid (leads_any 0 w.heap.size wr _ _ (FuncC.move (Still.of_below HBI.out) HF0.out) HBI.out.size i k c hc (by omega))
                  have HC := Lib.hid hc
                  have HBK := Lib.hid hbk
                  have HIK := Lib.hid hik
                  clear hc hbk hik
                  go_wp2_with fail
                  refine QL.out.mono ?_
                  rintro e wq ⟨bq, rfl, hbq, hwq⟩
                  have HBQ := Lib.hid (HBr.out.trans (hwq.mono HBr.out.size))
                  have HUQ := Lib.hid (show bq = true → ∃ (j : Nat) (b c : Bl), j ≠ k ∧ bl[k]? = some b ∧ bl[j]? = some c ∧ b.name ∈ c.fin.dest from fun h => by
                    obtain ⟨x, hx, hp⟩ := hbq.1 h
                    have := plc_at hp
                    rw [names_at HBK.out] at this
                    cases this
                    exact ⟨i, bk, c, HIK.out, HBK.out, HC.out, hx⟩)
                  clear hbq hwq f0 f1 f2 f3 f4
                  go_wp2_with fail
                  go_roundw
                  case rel => exact ⟨i + 1, bq, by omega, by simp [bne, e9], by go_num, HUQ, HBQ⟩
                  case measure => simp [intOf]; omega
            · have HHI := Lib.hid (HH13.out.below HBr.out HH13.out.lt)
              have q0 := HHI.out.cell 0
              have q1 := HHI.out.cell 1
              have q2 := HHI.out.cell 2
              have q3 := HHI.out.cell 3
              have q4 := HHI.out.cell 4
              simp only [List.getElem?_cons_succ, List.getElem?_cons_zero] at q0 q1 q2 q3 q4
              cases u with
              | false =>
                go_wp2_with fail
                go_ret
                exact ⟨rfl, HBI.out⟩
              | true =>
                obtain ⟨j, b, c, h1, h2', h3, h4⟩ := HU.out rfl
                have QR := Lib.hid (bp_no (right_any 0 W13.heap.size wr _ _ (FuncC.move (Still.of_below HBr.out) HF13.out) HBr.out.size (by simp; omega) (by
                  intro b hb
                  rcases List.mem_append.1 hb with hb | hb
                  · exact nm_of HG.out b (List.mem_of_mem_take hb)
                  · exact nm_of HG.out b (List.mem_of_mem_drop hb)) (by
                  intro b hb x hx
                  rcases List.mem_append.1 hb with hb | hb
                  · exact to_of HG.out b (List.mem_of_mem_take hb) x hx
                  · exact to_of HG.out b (List.mem_of_mem_drop hb) x hx)) (not_less HRT.out h2' h3 h1 h4))
                clear h1 h2' h3 h4
                go_wp2_with fail
                refine QR.out.mono ?_
                rintro e wq ⟨rfl, hwq⟩
                have HBQ := Lib.hid (HBI.out.trans (hwq.mono HBI.out.size))
                clear hwq f0 f1 f2 f3 f4
                go_wp2_with fail
                go_ret
                exact ⟨rfl, HBQ.out⟩

set_option maxRecDepth 100000 in
theorem lifted (os : Os) (started : os.Started) (H : Type) (enc : TypeId × Value → H) :
    ReturnsInHanded {} Try.checked os 7 .any (Rows.shapeLessSpec.pre6 enc Try.prog Try.f7 Rows.shapeLessRow.domain false) (Rows.shapeLessSpec.post enc Try.prog Try.f7 false true false false) := by
  refine returnsInHanded_of_change_sized (C := Try.checked) (by kernel_rfl) started (by kernel_rfl) Try.func7
    (ChangeSpec.witness6 (enc := enc) (C := Try.checked) false ⟨#[], #[.agg #[.string ⟨#[]⟩, .string ⟨#[]⟩, .slice none 0 0, .slice none 0 0, .slice none 0 0], .int .u8 0], []⟩ 8 (by kernel_rfl) (by kernel_rfl) (by kernel_rfl) (by kernel_rfl)) ?_
  intro W base args ds gs before hval0 hW hcnd hsz0 _
  have hval : ∀ (j : Nat) t v, Try.f7.params[j]? = some t → args[j]? = some v → Value.okWide Try.prog W .any base t v := hval0
  have hW' := hW
  obtain ⟨p, q, hA0, hV, rfl, hfz, hnd⟩ := hW
  have hsz : (DataW.weightsEach Try.prog (Try.f7.params.toList ++ Rows.shapeLessSpec.plain.varTypes Try.prog) (ds ++ gs)).all (· ≤ reachBytes) = true := hsz0
  have hA : DataW.TrodAll enc Try.prog W 0 (fun _ => true) true Try.f7.params.toList args.toList ds p := hA0
  rw [Try.params7] at hA hval hsz
  obtain ⟨v0, vs0, d0, ds0, p0, q0, hargs, rfl, rfl, h0, r0⟩ := trodAll_cons hA
  obtain ⟨v1, vs1, d1, ds1, p1, q1, rfl, rfl, rfl, h1, r1⟩ := trodAll_cons r0
  obtain ⟨rfl, rfl, rfl⟩ := trodAll_nil r1
  obtain rfl : args = #[v0, v1] := by cases args; simp_all
  obtain ⟨rfl, rfl⟩ := trodVars_none hV
  obtain ⟨xs0, hG0⟩ := OpenP.open_func hsz (j := 0) rfl rfl (hval 0 25 v0 rfl rfl) h0
  obtain ⟨a1, rfl, rfl, rfl, w1⟩ := open_int Try.underlying5 (hval 1 5 v1 rfl rfl) h1
  clear hA0 hval0
  simp only [List.append_nil] at hW'
  refine (walk v0 xs0 a1 hG0 w1).mono fun e W' ⟨he, hg⟩ => ?_
  subst he
  exact ⟨_, rfl, Shell.lawPost (by kernel_rfl) rfl (by kernel_rfl) rfl Try.underlying4 hW' rfl hg⟩

/-- The statement. -/
theorem proved : Rows.ShapeLessSaid :=
  OpenClaim.holds_of_wide 7 Try.f7 rfl rfl rfl rfl rfl rfl rfl ⟨rfl, rfl, rfl, rfl, rfl⟩ rfl rfl rfl rfl rfl (by kernel_rfl) Try.func7 (by kernel_rfl)
    (of_decide_eq_true (by kernel_rfl)) (by unfold Func.isWrapper; first | (rw [if_pos (by decide +kernel)]; kernel_rfl) | (rw [if_neg (by decide +kernel)]; exact ⟨rfl, rfl⟩))
    (fun os started H enc _ => lifted os started H enc)
end Go.Proofs.Ytfffcjhhdbcmpaa.shapeLess
