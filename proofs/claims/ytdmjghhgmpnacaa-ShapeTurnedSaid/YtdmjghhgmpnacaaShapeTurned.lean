/-
  In which order the blocks behind the first one stand means nothing for a shape, nor for its phis.
-/
import Derived.Test.YtdmjghhgmpnacaaRows
import Derived.Test.YtdmjghhgmpnacaaLaw08
import Derived.Test.YtdmjghhgmpnacaaOpenI
import Derived.Test.YtdmjghhgmpnacaaShRef
import Derived.Test.YtdmjghhgmpnacaaShSwap
import Derived.Test.YtdmjghhgmpnacaaShRight
import Derived.Test.YtdmjghhgmpnacaaShPhis
import Derived.Deep.RegionHeld3
import Derived.Test.YtdmjghhgmpnacaaShell
import Derived.ProofKit
import Derived.OpenShut
import Derived.SizedLaws
namespace Go.Proofs.Ytdmjghhgmpnacaa.shapeTurned
open Go.ChangeShapes Go.WideShapes Go.ChangeAt Go.RowKit
open Api Mem Sh8
/-- a function's box, and that what was there stays. -/
theorem fn_first {w w' : World} {g : Nat} {t : TypeId} {c0 c1 c2 c3 c4 : Value} (o : Own w' g t [c0, c1, c2, c3, c4]) (b : Below g w w') : (w'.cell? ⟨g, 0, none⟩ = some c0 ∧ w'.cell? ⟨g, 1, none⟩ = some c1 ∧ w'.cell? ⟨g, 2, none⟩ = some c2 ∧ w'.cell? ⟨g, 3, none⟩ = some c3 ∧ w'.cell? ⟨g, 4, none⟩ = some c4) ∧ Hid (Own w' g t [c0, c1, c2, c3, c4]) ∧ Hid (Below g w w') :=
  ⟨⟨o.cell 0, o.cell 1, o.cell 2, o.cell 3, o.cell 4⟩, Lib.hid o, Lib.hid b⟩
theorem fn_next {w w1 w' : World} {g : Nat} {t : TypeId} {c0 c1 c2 c3 c4 : Value} (hb : Below w1.heap.size w1 w') (h : (w1.cell? ⟨g, 0, none⟩ = some c0 ∧ w1.cell? ⟨g, 1, none⟩ = some c1 ∧ w1.cell? ⟨g, 2, none⟩ = some c2 ∧ w1.cell? ⟨g, 3, none⟩ = some c3 ∧ w1.cell? ⟨g, 4, none⟩ = some c4) ∧ Hid (Own w1 g t [c0, c1, c2, c3, c4]) ∧ Hid (Below g w w1)) :
    (w'.cell? ⟨g, 0, none⟩ = some c0 ∧ w'.cell? ⟨g, 1, none⟩ = some c1 ∧ w'.cell? ⟨g, 2, none⟩ = some c2 ∧ w'.cell? ⟨g, 3, none⟩ = some c3 ∧ w'.cell? ⟨g, 4, none⟩ = some c4) ∧ Hid (Own w' g t [c0, c1, c2, c3, c4]) ∧ Hid (Below g w w') :=
  fn_first (h.2.1.out.below hb h.2.1.out.lt) (h.2.2.out.trans (hb.mono (Nat.le_of_lt h.2.1.out.lt)))
theorem bp_yes {P : Program} {f : FuncId} {args : Array Value} {p : Prop} {w w0 : World} (h : Calls P f args w (BP p w0)) (hp : p) : Calls P f args w fun e w' => e = .returned (.bool true) ∧ Below w0.heap.size w0 w' := h.mono (by
  rintro e w' ⟨b, rfl, hb, hw⟩
  obtain rfl : b = true := hb.2 hp
  exact ⟨rfl, hw⟩)
theorem bp_no {P : Program} {f : FuncId} {args : Array Value} {p : Prop} {w w0 : World} (h : Calls P f args w (BP p w0)) (hp : ¬ p) : Calls P f args w fun e w' => e = .returned (.bool false) ∧ Below w0.heap.size w0 w' := h.mono (by
  rintro e w' ⟨b, rfl, hb, hw⟩
  cases b with
  | false => exact ⟨rfl, hw⟩
  | true => exact absurd (hb.1 rfl) hp)
theorem same_b {p : Prop} {b c : Bool} (h : b = true ↔ p) (g : c = true ↔ p) : (b == c) = true := by
  rw [Bool.eq_iff_iff.2 (h.trans g.symm)]
  simp
theorem nm_of {f : Api.Func} (h : OpenP.funcG f) : nmG f.blocks := fun b hb => (h.2.2.2 b hb).1
theorem to_of {f : Api.Func} (h : OpenP.funcG f) : toG f.blocks := fun b hb x hx => (h.2.2.2 b hb).2.2.2.2.2.1 x hx
theorem ph_of {f : Api.Func} (h : OpenP.funcG f) (hf : FewP f.blocks) : phG f.blocks := fun b hb p hp =>
  ⟨by have := (hf.2 b hb).2.2 p hp; omega, fun x hx => (((h.2.2.2 b hb).2.1 p hp).2 x hx).1⟩
theorem two_first {w w' : World} {k1 k2 B : Nat} {t : TypeId} {c0 c1 c2 c3 c4 e0 e1 e2 e3 e4 : Value} (o : Own w' k1 t [c0, c1, c2, c3, c4]) (p : Own w' k2 t [e0, e1, e2, e3, e4]) (b : Below B w w') : ((w'.cell? ⟨k1, 0, none⟩ = some c0 ∧ w'.cell? ⟨k1, 1, none⟩ = some c1 ∧ w'.cell? ⟨k1, 2, none⟩ = some c2 ∧ w'.cell? ⟨k1, 3, none⟩ = some c3 ∧ w'.cell? ⟨k1, 4, none⟩ = some c4) ∧ (w'.cell? ⟨k2, 0, none⟩ = some e0 ∧ w'.cell? ⟨k2, 1, none⟩ = some e1 ∧ w'.cell? ⟨k2, 2, none⟩ = some e2 ∧ w'.cell? ⟨k2, 3, none⟩ = some e3 ∧ w'.cell? ⟨k2, 4, none⟩ = some e4)) ∧ Hid (Own w' k1 t [c0, c1, c2, c3, c4] ∧ Own w' k2 t [e0, e1, e2, e3, e4]) ∧ Hid (Below B w w') :=
  ⟨⟨⟨o.cell 0, o.cell 1, o.cell 2, o.cell 3, o.cell 4⟩, p.cell 0, p.cell 1, p.cell 2, p.cell 3, p.cell 4⟩, Lib.hid ⟨o, p⟩, Lib.hid b⟩
theorem two_next {w w1 w' : World} {k1 k2 : Nat} {t : TypeId} {c0 c1 c2 c3 c4 e0 e1 e2 e3 e4 : Value} (hb : Below w1.heap.size w1 w') (h : ((w1.cell? ⟨k1, 0, none⟩ = some c0 ∧ w1.cell? ⟨k1, 1, none⟩ = some c1 ∧ w1.cell? ⟨k1, 2, none⟩ = some c2 ∧ w1.cell? ⟨k1, 3, none⟩ = some c3 ∧ w1.cell? ⟨k1, 4, none⟩ = some c4) ∧ (w1.cell? ⟨k2, 0, none⟩ = some e0 ∧ w1.cell? ⟨k2, 1, none⟩ = some e1 ∧ w1.cell? ⟨k2, 2, none⟩ = some e2 ∧ w1.cell? ⟨k2, 3, none⟩ = some e3 ∧ w1.cell? ⟨k2, 4, none⟩ = some e4)) ∧ Hid (Own w1 k1 t [c0, c1, c2, c3, c4] ∧ Own w1 k2 t [e0, e1, e2, e3, e4]) ∧ Hid (Below w.heap.size w w1)) : ((w'.cell? ⟨k1, 0, none⟩ = some c0 ∧ w'.cell? ⟨k1, 1, none⟩ = some c1 ∧ w'.cell? ⟨k1, 2, none⟩ = some c2 ∧ w'.cell? ⟨k1, 3, none⟩ = some c3 ∧ w'.cell? ⟨k1, 4, none⟩ = some c4) ∧ (w'.cell? ⟨k2, 0, none⟩ = some e0 ∧ w'.cell? ⟨k2, 1, none⟩ = some e1 ∧ w'.cell? ⟨k2, 2, none⟩ = some e2 ∧ w'.cell? ⟨k2, 3, none⟩ = some e3 ∧ w'.cell? ⟨k2, 4, none⟩ = some e4)) ∧ Hid (Own w' k1 t [c0, c1, c2, c3, c4] ∧ Own w' k2 t [e0, e1, e2, e3, e4]) ∧ Hid (Below w.heap.size w w') :=
  two_first (h.2.1.out.1.below hb h.2.1.out.1.lt) (h.2.1.out.2.below hb h.2.1.out.2.lt) (h.2.2.out.trans (hb.mono h.2.2.out.size))
theorem row_form2 {w : World} {base : Nat} {e : TypeId} {size : Nat} {A : Option Addr} {c n : Nat} {xs : List Value} (h : w.ownsRow base e size (.slice A n c) n xs) (h0 : 0 < n) : ∃ g cap, (Value.slice A n c) = .slice (some ⟨g, 0, none⟩) n cap ∧ base ≤ g ∧ g < w.heap.size ∧ n ≤ cap := by
  rcases h.2 with ⟨_, rfl⟩ | ⟨g, cap, cur, e, hb, hg, hnc, _⟩
  · omega
  · exact ⟨g, cap, e, hb, (Array.getElem?_eq_some_iff.1 hg).1, hnc⟩
theorem thaw_row {w : World} {base : Nat} {e : TypeId} {size g c n : Nat} {xs : List Value} (h : w.ownsRow base e size (.slice (some ⟨g, 0, none⟩) n c) n xs) : g < w.heap.size := by
  rcases h.2 with ⟨e, _⟩ | ⟨g2, cap, cur, e, hb, hg, hnc, _⟩
  · cases e
  · simp only [Value.slice.injEq, Option.some.injEq, Addr.mk.injEq, and_true] at e
    obtain ⟨rfl, _⟩ := e
    exact (Array.getElem?_eq_some_iff.1 hg).1
theorem turn_a {n : Nat} (i : Nat) (hn : 2 ≤ n) (h2 : n ≤ 60) : ∃ a : Nat, wrap64 (1 + (i : Int) % ((n : Int) - 1)) = (a : Int) ∧ 1 ≤ a ∧ a < n := by
  obtain ⟨m, rfl⟩ : ∃ m, n = m + 2 := ⟨n - 2, by omega⟩
  have e : ((m + 2 : Nat) : Int) - 1 = ((m + 1 : Nat) : Int) := by omega
  have hl := Nat.mod_lt i (show 0 < m + 1 by omega)
  refine ⟨1 + i % (m + 1), ?_, by omega, by omega⟩
  rw [e, show (1 : Int) + (i : Int) % ((m + 1 : Nat) : Int) = ((1 + i % (m + 1) : Nat) : Int) by push_cast; rfl]
  exact NumM.wrap_in (show NumM.In _ from ⟨by omega, by omega⟩)
theorem turn_b {n : Nat} {x : Int} (_ : NumM.In x) (hn : 2 ≤ n) (h2 : n ≤ 60) : ∃ b : Nat, wrap64 (1 + wrap64 ((IntKind.u64.wrap x).tmod ((n : Int) - 1))) = (b : Int) ∧ 1 ≤ b ∧ b < n := by
  obtain ⟨m, rfl⟩ : ∃ m, n = m + 2 := ⟨n - 2, by omega⟩
  have e : ((m + 2 : Nat) : Int) - 1 = ((m + 1 : Nat) : Int) := by omega
  have h0 : 0 ≤ IntKind.u64.wrap x := by
    have h3 : IntKind.u64.wrap x = x % 18446744073709551616 := by simp [IntKind.wrap, IntKind.signed, IntKind.bits]
    rw [h3]; omega
  obtain ⟨y, hy⟩ : ∃ y : Nat, IntKind.u64.wrap x = (y : Int) := ⟨(IntKind.u64.wrap x).toNat, by omega⟩
  have hl := Nat.mod_lt y (show 0 < m + 1 by omega)
  rw [hy, e, show (y : Int).tmod ((m + 1 : Nat) : Int) = ((y % (m + 1) : Nat) : Int) from rfl]
  rw [NumM.wrap_in (show NumM.In ((y % (m + 1) : Nat) : Int) from ⟨by omega, by omega⟩)]
  refine ⟨1 + y % (m + 1), ?_, by omega, by omega⟩
  rw [show (1 : Int) + ((y % (m + 1) : Nat) : Int) = ((1 + y % (m + 1) : Nat) : Int) by push_cast; rfl]
  exact NumM.wrap_in (show NumM.In _ from ⟨by omega, by omega⟩)
set_option maxRecDepth 100000 in
set_option maxHeartbeats 16000000 in
theorem walk (v : Value) (q : Api.Func × List Value) (vo : Value) (os : List Int) {w : World} (hq : v = .agg q.2.toArray ∧ FuncC 0 w.heap.size w q.2 q.1 ∧ OpenP.funcG q.1) (ho : Row 0 w.heap.size w 1 (fun cs x => cs = [i64 x]) vo os ∧ ∀ x ∈ os, NumM.In x) :
    Calls Try.prog 6 #[v, vo] w fun e w' => e = .returned (.bool true) ∧ Below w.heap.size w w' := by
  obtain ⟨rfl, hfc, hG⟩ := hq
  obtain ⟨f, cs⟩ := q
  simp only at hfc hG
  have hfc0 := hfc
  obtain ⟨u1, u2, u3, rfl, kp, kv, kb⟩ := hfc
  obtain ⟨nm, rs, ps, vs, bl⟩ := f
  simp only at kp kv kb
  obtain ⟨A1, k1, rfl⟩ := kp.form
  obtain ⟨A2, k2, rfl⟩ := kv.form
  obtain ⟨A3, k3, rfl⟩ := kb.form
  obtain ⟨W, hW⟩ : ∃ W, w.alloc (.cells #[str nm, str rs, .slice A1 ps.length k1, .slice A2 vs.length k2, .slice A3 bl.length k3] 25) = W := ⟨_, rfl⟩
  obtain ⟨o1, b1, z1⟩ := box8 (c := [str nm, str rs, .slice A1 ps.length k1, .slice A2 vs.length k2, .slice A3 bl.length k3]) hW
  have HF0 := Lib.hid hfc0
  have HG := Lib.hid hG
  have HO := Lib.hid o1
  have HB := Lib.hid b1
  have HW := Lib.hid hW
  have zlt := o1.lt
  have KB0 := Lib.hid kb
  have KP0 := Lib.hid kp
  have KV0 := Lib.hid kv
  obtain ⟨hor, hoi⟩ := ho
  obtain ⟨Ao, co, rfl⟩ := hor.form
  have HOR := Lib.hid hor
  have HOIN := Lib.hid hoi
  obtain ⟨csB, bb, bo, hch, hnB, haB, hcB⟩ := Chk.of_row kb (by decide)
  have HCH := Lib.hid hch
  have HCB := Lib.hid hcB
  have HAB := Lib.hid haB
  have HONE := Lib.hid (Chk.ones_of hch (by decide) Chk.ones_block)
  clear hch hcB haB hnB hor hoi
  clear o1 b1 hW kp kv kb hfc0 hG
  go_enter Try.func6, Try.ntmps6
  go_wp2_with fail
  rw [HW.out]
  refine (L08.awake_any W).mono ?_
  rintro e w1 ⟨rfl, hb1⟩
  have HB1 := Lib.hid (HB.out.trans (hb1.mono HB.out.size))
  have HO1 := Lib.hid (HO.out.below hb1 HO.out.lt)
  have QF := Lib.hid (few_any 0 w.heap.size w1 _ _ (FuncC.move (Still.of_below HB1.out) HF0.out) HB1.out.size)
  clear hb1
  have f0 := HO1.out.cell 0
  have f1 := HO1.out.cell 1
  have f2 := HO1.out.cell 2
  have f3 := HO1.out.cell 3
  have f4 := HO1.out.cell 4
  simp only [List.getElem?_cons_succ, List.getElem?_cons_zero] at f0 f1 f2 f3 f4
  go_wp2_with fail
  refine QF.out.mono ?_
  rintro e w2 ⟨b2, rfl, hfew, hb2⟩
  have HB2 := Lib.hid (HB1.out.trans (hb2.mono HB1.out.size))
  have HO2 := Lib.hid (HO1.out.below hb2 HO1.out.lt)
  clear hb2 f0 f1 f2 f3 f4
  cases b2 with
  | false =>
    clear hfew
    go_wp2_with fail
    refine (L08.awake_any w2).mono ?_
    rintro e w3 ⟨rfl, hb3⟩
    have HB3 := Lib.hid (HB2.out.trans (hb3.mono HB2.out.size))
    clear hb3
    go_wp2_with fail
    go_ret
    exact ⟨rfl, HB3.out⟩
  | true =>
    have hfw := hfew rfl
    have hlb : bl.length ≤ 60 := hfw.1
    have HFW := Lib.hid hfw
    clear hfew hfw
    have f0 := HO2.out.cell 0
    have f1 := HO2.out.cell 1
    have f2 := HO2.out.cell 2
    have f3 := HO2.out.cell 3
    have f4 := HO2.out.cell 4
    simp only [List.getElem?_cons_succ, List.getElem?_cons_zero] at f0 f1 f2 f3 f4
    by_cases hgo : 2 ≤ bl.length ∧ os.length ≤ 200
    · obtain ⟨hn2, ho2⟩ := hgo
      have e1 : decide ((bl.length : Int) < 2) = false := decide_eq_false (by omega)
      have e2 : decide ((200 : Int) < (os.length : Int)) = false := decide_eq_false (by omega)
      obtain ⟨rfl, _, hbb⟩ := HAB.out (by omega)
      have zl2 := HO2.out.lt
      obtain ⟨W4, hW4⟩ : ∃ W4, (w2.alloc (.cells #[str nm, str rs, .slice A1 ps.length k1, .slice A2 vs.length k2, .slice (some ⟨bb, bo, none⟩) bl.length k3] 25)).alloc (.cells #[] 40) = W4 := ⟨_, rfl⟩
      have HE4 := Lib.hid (row_laid (w2.heap.size + 1) 9 hW4 (by simp) (w2.heap.size + 1) (by simp))
      have HB4 := Lib.hid (show Below w.heap.size w W4 by rw [← hW4]; exact (HB2.out.alloc HB2.out.size _).alloc (by have := HB2.out.size; simp; omega) _)
      have HG4 := Lib.hid (show Own W4 w2.heap.size 25 [str nm, str rs, .slice A1 ps.length k1, .slice A2 vs.length k2, .slice (some ⟨bb, bo, none⟩) bl.length k3] by rw [← hW4]; exact (Own.made w2 25 [str nm, str rs, .slice A1 ps.length k1, .slice A2 vs.length k2, .slice (some ⟨bb, bo, none⟩) bl.length k3]).alloc _)
      have HO4 := Lib.hid (show Own W4 w.heap.size 25 [str nm, str rs, .slice A1 ps.length k1, .slice A2 vs.length k2, .slice (some ⟨bb, bo, none⟩) bl.length k3] by rw [← hW4]; exact (HO2.out.alloc _).alloc _)
      have HW4 := Lib.hid hW4
      have hs4 : W4.heap.size = w2.heap.size + 2 := by rw [← hW4]; simp
      clear hW4
      go_wp2_with (at_builtin; rw [HW4.out]; refine read_own rfl _ _ 23 rfl (w2.heap.size + 1) 40 _ 9 136 Try.underlying23 info_block rfl (by decide) _ 0 [] rfl HE4.out bb bo bl.length k3 csB rfl HCH.out.1 (fun j u hu => (HB4.out.cell (p := ⟨bb, bo + j, none⟩) hbb).trans (HCB.out j u hu)) HONE.out (by unfold maxLen; omega) (by omega) (by omega) ?_; intro v5 w5 hown5 hb5; obtain ⟨A5, c5, rfl⟩ := row_form hown5; have HN5 := Lib.hid (by have := hown5; rw [Nat.zero_add, List.nil_append] at this; exact this); have HB5 := Lib.hid hb5; have HG5 := Lib.hid (HG4.out.below hb5 (by omega)); have HO5 := Lib.hid (HO4.out.below hb5 (by omega)); have g4 := HG5.out.cell 4; have t4 := HG5.out.thaw 4; have gl5 := HG5.out.lt; have p4 := HO5.out.cell 4; have pl5 := HO5.out.lt; simp only [List.getElem?_cons_succ, List.getElem?_cons_zero] at g4 p4; clear hown5 hb5)
      obtain ⟨gb, cap5, e9, hgb1, hgb2, hgb3⟩ := row_form2 HN5.out (by omega)
      simp only [Value.slice.injEq, true_and] at e9
      obtain ⟨rfl, rfl⟩ := e9
      obtain ⟨W6, hW6⟩ : ∃ W6, w5.setCell ⟨w2.heap.size, 4, none⟩ (.slice (some ⟨gb, 0, none⟩) bl.length c5) = W6 := ⟨_, rfl⟩
      have HN6 := Lib.hid (show W6.ownsRow (w2.heap.size + 1) 40 9 (.slice (some ⟨gb, 0, none⟩) bl.length c5) bl.length csB by rw [← hW6]; exact RowKit.ownsRow_setCell_below HN5.out (a := ⟨w2.heap.size, 4, none⟩) (Nat.lt_succ_self _) _)
      have HG6 := Lib.hid (show Own W6 w2.heap.size 25 [str nm, str rs, .slice A1 ps.length k1, .slice A2 vs.length k2, .slice (some ⟨gb, 0, none⟩) bl.length c5] by rw [← hW6]; exact HG5.out.store 4 _)
      have HO6 := Lib.hid (show Own W6 w.heap.size 25 [str nm, str rs, .slice A1 ps.length k1, .slice A2 vs.length k2, .slice (some ⟨bb, bo, none⟩) bl.length k3] by rw [← hW6]; exact (Below.heap_setCell _ _ _ _ (show w.heap.size ≠ w2.heap.size by omega)).trans HO5.out)
      have HB6 := Lib.hid (show Below w.heap.size w W6 by rw [← hW6]; exact (HB4.out.trans (HB5.out.mono (by omega))).setCell (p := ⟨w2.heap.size, 4, none⟩) (by show w.heap.size ≤ w2.heap.size; omega) _)
      obtain ⟨b0, r0, hbl⟩ : ∃ b0 r0, bl = b0 :: r0 := by cases bl with | nil => simp at hn2 | cons b r => exact ⟨b, r, rfl⟩
      have HBL := Lib.hid hbl
      have hgbw : w2.heap.size < gb := hgb1
      have hzw2 : w.heap.size < w2.heap.size := by omega
      rw [hW6]
      clear hW6 hbl e1 e2 g4 t4 gl5 p4 pl5
      go_loopw [7] (fun i wr => ∃ (i' : Nat) (csL : List Value) (cl : List Api.Block) (r : List Api.Block), i' ≤ os.length ∧ i = .int .i64 i' ∧ Hid (cl = b0 :: r ∧ r.Perm r0) ∧ Hid (Chk.Chunks 9 (BlockC 0 w.heap.size w) csL cl) ∧ Hid (wr.ownsRow (w2.heap.size + 1) 40 9 (.slice (some ⟨gb, 0, none⟩) bl.length c5) bl.length csL) ∧ Hid (Own wr w2.heap.size 25 [str nm, str rs, .slice A1 ps.length k1, .slice A2 vs.length k2, .slice (some ⟨gb, 0, none⟩) bl.length c5]) ∧ Hid (Own wr w.heap.size 25 [str nm, str rs, .slice A1 ps.length k1, .slice A2 vs.length k2, .slice (some ⟨bb, bo, none⟩) bl.length k3]) ∧ Hid (Below w.heap.size w wr)) (fun i _ => os.length - (intOf i).toNat)
      case atStart => exact ⟨0, csB, bl, r0, Nat.zero_le _, rfl, Lib.hid ⟨HBL.out, List.Perm.refl _⟩, HCH, HN6, HG6, HO6, HB6⟩
      case round =>
      obtain ⟨i, csL, cl, r, hi, rfl, HR, HCL, HNr, HGr, HOr, HBr⟩ := hrel
      have hcl : cl.length = bl.length := by rw [HR.out.1, HBL.out]; simp [HR.out.2.length_eq]
      by_cases hlt : i < os.length
      · obtain ⟨x, hx⟩ : ∃ y, os[i]? = some y := ⟨_, List.getElem?_eq_getElem hlt⟩
        obtain ⟨bq, oq, hnq, hmq, aq, jq⟩ := HOR.out.get
        obtain ⟨rfl, _, hbq⟩ := aq (by omega)
        obtain ⟨csq, _, qq, huq⟩ := jq i _ hx
        subst huq
        have n0 : wr.cell? ⟨bq, oq + i, none⟩ = some (i64 x) := by
          have := (HBr.out.cell (p := ⟨bq, oq + i * 1 + 0, none⟩) hbq).trans (qq 0 _ rfl)
          simpa using this
        have hix := HOIN.out x (List.mem_of_getElem? hx)
        clear qq jq aq hx
        obtain ⟨a, ha, ha1, ha2⟩ : ∃ a : Nat, wrap64 (1 + (i : Int) % ((bl.length : Int) - 1)) = (a : Int) ∧ 1 ≤ a ∧ a < bl.length := turn_a i hn2 hlb
        obtain ⟨b, hb, hb1, hb2⟩ : ∃ b : Nat, wrap64 (1 + wrap64 ((IntKind.u64.wrap x).tmod ((bl.length : Int) - 1))) = (b : Int) ∧ 1 ≤ b ∧ b < bl.length := turn_b hix hn2 hlb
        have g4 := HGr.out.cell 4
        simp only [List.getElem?_cons_succ, List.getElem?_cons_zero] at g4
        go_wp2_with fail
        skip
        clear ha hb n0 hix
        by_cases hab : a = b
        · subst hab
          clear hb1 hb2
          obtain ⟨⟨bn, phs, cod, ⟨tk, ⟨ak, as_, an⟩, td, tn⟩⟩, hca⟩ : ∃ y, cl[a]? = some y := ⟨_, List.getElem?_eq_getElem (by omega)⟩
          obtain ⟨da, hda1, hm2, hda3⟩ := HCL.out.2 a _ hca
          obtain ⟨x1, x2, y1, ea1, kph, kco, x4, ea2, kto⟩ := id hda3
          subst ea2
          subst ea1
          obtain ⟨F1, d1, rfl⟩ := kph.form
          obtain ⟨F2, d2, rfl⟩ := kco.form
          obtain ⟨F4, d4, rfl⟩ := kto.form
          obtain ⟨m0, m1, m2, m3, m4, m5, m6, m7, m8⟩ := at9 (w := wr) (b := gb) (k := a * 9) (fun j u hj => (HNr.out.cellAt (a * 9 + j) (by have := (List.getElem?_eq_some_iff.1 hj).1; simp only [List.length_cons, List.length_nil] at this; omega)).trans (hm2 j u hj))
          have tm0 := HNr.out.frozenAt (a * 9)
          have tm1 := HNr.out.frozenAt (a * 9 + 1)
          have tm2 := HNr.out.frozenAt (a * 9 + 2)
          have tm3 := HNr.out.frozenAt (a * 9 + 3)
          have tm4 := HNr.out.frozenAt (a * 9 + 4)
          have tm5 := HNr.out.frozenAt (a * 9 + 5)
          have tm6 := HNr.out.frozenAt (a * 9 + 6)
          have tm7 := HNr.out.frozenAt (a * 9 + 7)
          have tm8 := HNr.out.frozenAt (a * 9 + 8)
          have hgl : gb < wr.heap.size := thaw_row HNr.out
          have HSW := Lib.hid (swap_head (a := a) (b := a) (by rw [← HR.out.1]; exact hca) (by rw [← HR.out.1]; exact hca) ha1 ha1)
          have HC1 := Lib.hid (chunks_put (chunks_put HCL.out (show a < cl.length by omega) hda1 hda3) (show a < _ by rw [List.length_set]; omega) hda1 hda3)
          clear hm2 hda1 hda3 kph kco kto hca
          go_region
          obtain ⟨W9, hW9⟩ : ∃ W, ((((((((((((((((((wr.setCell ⟨gb, a * 9, none⟩ (str bn)).setCell ⟨gb, a * 9 + 1, none⟩ (.slice F1 phs.length d1)).setCell ⟨gb, a * 9 + 2, none⟩ (.slice F2 cod.length d2)).setCell ⟨gb, a * 9 + 3, none⟩ (i64 tk)).setCell ⟨gb, a * 9 + 4, none⟩ (i64 ak)).setCell ⟨gb, a * 9 + 5, none⟩ (str as_)).setCell ⟨gb, a * 9 + 6, none⟩ (i64 an)).setCell ⟨gb, a * 9 + 7, none⟩ (.slice F4 td.length d4)).setCell ⟨gb, a * 9 + 8, none⟩ (i64 tn)).setCell ⟨gb, a * 9, none⟩ (str bn)).setCell ⟨gb, a * 9 + 1, none⟩ (.slice F1 phs.length d1)).setCell ⟨gb, a * 9 + 2, none⟩ (.slice F2 cod.length d2)).setCell ⟨gb, a * 9 + 3, none⟩ (i64 tk)).setCell ⟨gb, a * 9 + 4, none⟩ (i64 ak)).setCell ⟨gb, a * 9 + 5, none⟩ (str as_)).setCell ⟨gb, a * 9 + 6, none⟩ (i64 an)).setCell ⟨gb, a * 9 + 7, none⟩ (.slice F4 td.length d4)).setCell ⟨gb, a * 9 + 8, none⟩ (i64 tn)).drew = W := ⟨_, rfl⟩
          obtain ⟨j1, j2, j3⟩ := swap9 (a := a) (b := a) HNr.out (str bn) (.slice F1 phs.length d1) (.slice F2 cod.length d2) (i64 tk) (i64 ak) (str as_) (i64 an) (.slice F4 td.length d4) (i64 tn) (str bn) (.slice F1 phs.length d1) (.slice F2 cod.length d2) (i64 tk) (i64 ak) (str as_) (i64 an) (.slice F4 td.length d4) (i64 tn) hW9
          rw [hW9]
          have J1 := Lib.hid j1
          have J2 := Lib.hid (j2 _ _ _ (by omega) HGr.out)
          have J3 := Lib.hid (j2 _ _ _ (by omega) HOr.out)
          have J4 := Lib.hid (j3 _ _ (by omega) HBr.out)
          obtain ⟨r2, hr1, hr2⟩ := HSW.out
          have e7 := hr1
          rw [← HR.out.1] at e7
          have HR2 := Lib.hid (And.intro e7 (hr2.trans HR.out.2))
          clear e7
          clear j1 j2 j3 hW9 hr1 hr2 m0 tm0 m1 tm1 m2 tm2 m3 tm3 m4 tm4 m5 tm5 m6 tm6 m7 tm7 m8 tm8 g4
          go_wp2_with fail
          go_roundw
          case rel => exact ⟨i + 1, _, _, r2, by omega, by go_num, HR2, HC1, J1, J2, J3, J4⟩
          case measure => simp [intOf]; omega
        · have hab2 : ¬ b = a := fun e => hab e.symm
          obtain ⟨⟨bn, phs, cod, ⟨tk, ⟨ak, as_, an⟩, td, tn⟩⟩, hca⟩ : ∃ y, cl[a]? = some y := ⟨_, List.getElem?_eq_getElem (by omega)⟩
          obtain ⟨da, hda1, hm2, hda3⟩ := HCL.out.2 a _ hca
          obtain ⟨x1, x2, y1, ea1, kph, kco, x4, ea2, kto⟩ := id hda3
          subst ea2
          subst ea1
          obtain ⟨F1, d1, rfl⟩ := kph.form
          obtain ⟨F2, d2, rfl⟩ := kco.form
          obtain ⟨F4, d4, rfl⟩ := kto.form
          obtain ⟨⟨bn2, phs2, cod2, ⟨tk2, ⟨ak2, as2, an2⟩, td2, tn2⟩⟩, hcb⟩ : ∃ y, cl[b]? = some y := ⟨_, List.getElem?_eq_getElem (by omega)⟩
          obtain ⟨db, hdb1, hq2, hdb3⟩ := HCL.out.2 b _ hcb
          obtain ⟨z1, z2, y2, eb1, kph2, kco2, z4, eb2, kto2⟩ := id hdb3
          subst eb2
          subst eb1
          obtain ⟨G1, d5, rfl⟩ := kph2.form
          obtain ⟨G2, d6, rfl⟩ := kco2.form
          obtain ⟨G4, d7, rfl⟩ := kto2.form
          obtain ⟨m0, m1, m2, m3, m4, m5, m6, m7, m8⟩ := at9 (w := wr) (b := gb) (k := a * 9) (fun j u hj => (HNr.out.cellAt (a * 9 + j) (by have := (List.getElem?_eq_some_iff.1 hj).1; simp only [List.length_cons, List.length_nil] at this; omega)).trans (hm2 j u hj))
          obtain ⟨q0, q1, q2, q3, q4, q5, q6, q7, q8⟩ := at9 (w := wr) (b := gb) (k := b * 9) (fun j u hj => (HNr.out.cellAt (b * 9 + j) (by have := (List.getElem?_eq_some_iff.1 hj).1; simp only [List.length_cons, List.length_nil] at this; omega)).trans (hq2 j u hj))
          have tm0 := HNr.out.frozenAt (a * 9)
          have tm1 := HNr.out.frozenAt (a * 9 + 1)
          have tm2 := HNr.out.frozenAt (a * 9 + 2)
          have tm3 := HNr.out.frozenAt (a * 9 + 3)
          have tm4 := HNr.out.frozenAt (a * 9 + 4)
          have tm5 := HNr.out.frozenAt (a * 9 + 5)
          have tm6 := HNr.out.frozenAt (a * 9 + 6)
          have tm7 := HNr.out.frozenAt (a * 9 + 7)
          have tm8 := HNr.out.frozenAt (a * 9 + 8)
          have tq0 := HNr.out.frozenAt (b * 9)
          have tq1 := HNr.out.frozenAt (b * 9 + 1)
          have tq2 := HNr.out.frozenAt (b * 9 + 2)
          have tq3 := HNr.out.frozenAt (b * 9 + 3)
          have tq4 := HNr.out.frozenAt (b * 9 + 4)
          have tq5 := HNr.out.frozenAt (b * 9 + 5)
          have tq6 := HNr.out.frozenAt (b * 9 + 6)
          have tq7 := HNr.out.frozenAt (b * 9 + 7)
          have tq8 := HNr.out.frozenAt (b * 9 + 8)
          have hgl : gb < wr.heap.size := thaw_row HNr.out
          have HSW := Lib.hid (swap_head (a := a) (b := b) (by rw [← HR.out.1]; exact hca) (by rw [← HR.out.1]; exact hcb) ha1 hb1)
          have HC1 := Lib.hid (chunks_put (chunks_put HCL.out (show a < cl.length by omega) hdb1 hdb3) (show b < _ by rw [List.length_set]; omega) hda1 hda3)
          clear hm2 hda1 hda3 kph kco kto hca hq2 hdb1 hdb3 kph2 kco2 kto2 hcb
          go_region
          obtain ⟨W9, hW9⟩ : ∃ W, ((((((((((((((((((wr.setCell ⟨gb, a * 9, none⟩ (str bn2)).setCell ⟨gb, a * 9 + 1, none⟩ (.slice G1 phs2.length d5)).setCell ⟨gb, a * 9 + 2, none⟩ (.slice G2 cod2.length d6)).setCell ⟨gb, a * 9 + 3, none⟩ (i64 tk2)).setCell ⟨gb, a * 9 + 4, none⟩ (i64 ak2)).setCell ⟨gb, a * 9 + 5, none⟩ (str as2)).setCell ⟨gb, a * 9 + 6, none⟩ (i64 an2)).setCell ⟨gb, a * 9 + 7, none⟩ (.slice G4 td2.length d7)).setCell ⟨gb, a * 9 + 8, none⟩ (i64 tn2)).setCell ⟨gb, b * 9, none⟩ (str bn)).setCell ⟨gb, b * 9 + 1, none⟩ (.slice F1 phs.length d1)).setCell ⟨gb, b * 9 + 2, none⟩ (.slice F2 cod.length d2)).setCell ⟨gb, b * 9 + 3, none⟩ (i64 tk)).setCell ⟨gb, b * 9 + 4, none⟩ (i64 ak)).setCell ⟨gb, b * 9 + 5, none⟩ (str as_)).setCell ⟨gb, b * 9 + 6, none⟩ (i64 an)).setCell ⟨gb, b * 9 + 7, none⟩ (.slice F4 td.length d4)).setCell ⟨gb, b * 9 + 8, none⟩ (i64 tn)).drew = W := ⟨_, rfl⟩
          obtain ⟨j1, j2, j3⟩ := swap9 (a := a) (b := b) HNr.out (str bn2) (.slice G1 phs2.length d5) (.slice G2 cod2.length d6) (i64 tk2) (i64 ak2) (str as2) (i64 an2) (.slice G4 td2.length d7) (i64 tn2) (str bn) (.slice F1 phs.length d1) (.slice F2 cod.length d2) (i64 tk) (i64 ak) (str as_) (i64 an) (.slice F4 td.length d4) (i64 tn) hW9
          rw [hW9]
          have J1 := Lib.hid j1
          have J2 := Lib.hid (j2 _ _ _ (by omega) HGr.out)
          have J3 := Lib.hid (j2 _ _ _ (by omega) HOr.out)
          have J4 := Lib.hid (j3 _ _ (by omega) HBr.out)
          obtain ⟨r2, hr1, hr2⟩ := HSW.out
          have e7 := hr1
          rw [← HR.out.1] at e7
          have HR2 := Lib.hid (And.intro e7 (hr2.trans HR.out.2))
          clear e7
          clear j1 j2 j3 hW9 hr1 hr2 m0 tm0 m1 tm1 m2 tm2 m3 tm3 m4 tm4 m5 tm5 m6 tm6 m7 tm7 m8 tm8 q0 tq0 q1 tq1 q2 tq2 q3 tq3 q4 tq4 q5 tq5 q6 tq6 q7 tq7 q8 tq8 g4
          go_wp2_with fail
          go_roundw
          case rel => exact ⟨i + 1, _, _, r2, by omega, by go_num, HR2, HC1, J1, J2, J3, J4⟩
          case measure => simp [intOf]; omega
      · have HFG := Lib.hid (show FuncC 0 wr.heap.size wr [str nm, str rs, .slice A1 ps.length k1, .slice A2 vs.length k2, .slice (some ⟨gb, 0, none⟩) bl.length c5] ⟨nm, rs, ps, vs, cl⟩ from ⟨_, _, _, rfl, Vars.move ⟨fun k _ hk => HBr.out.block k hk, Nat.le_refl _, HBr.out.size⟩ KP0.out, Vars.move ⟨fun k _ hk => HBr.out.block k hk, Nat.le_refl _, HBr.out.size⟩ KV0.out, Chk.to_row HNr.out (HCL.out.mono (fun ds x h => BlockC.move ⟨fun k _ hk => HBr.out.block k hk, Nat.le_refl _, HBr.out.size⟩ h)) (by decide) (show cl.length ≤ 4611686018427387903 by omega) (Nat.le_refl _) (Nat.zero_le _)⟩)
        have hsub : ∀ c ∈ cl, c ∈ bl := fun c hc => by
          rw [HR.out.1] at hc
          rw [HBL.out]
          rcases List.mem_cons.1 hc with rfl | hc
          · exact List.mem_cons_self
          · exact List.mem_cons_of_mem _ (HR.out.2.mem_iff.1 hc)
        have HNM := Lib.hid (show nmG cl from fun c hc => nm_of HG.out c (hsub c hc))
        have HTO := Lib.hid (show toG cl from fun c hc => to_of HG.out c (hsub c hc))
        have HPH := Lib.hid (show phG cl from fun c hc => ph_of HG.out HFW.out c (hsub c hc))
        have HZr := Lib.hid (Below.refl wr.heap.size wr)
        clear hsub
        by_cases hR : RightP bl
        · have hRg : RightP cl := by rw [HR.out.1]; rw [HBL.out] at hR; exact (right_perm HR.out.2.symm).1 hR
          have QRf := Lib.hid (fun (w5 : World) (hb : Below wr.heap.size wr w5) => bp_yes (right_any 0 w.heap.size w5 _ _ (FuncC.move (Still.of_below (HBr.out.trans (hb.mono HBr.out.size))) HF0.out) (HBr.out.trans (hb.mono HBr.out.size)).size (by show bl.length ≤ _; omega) (nm_of HG.out) (to_of HG.out)) hR)
          have QRg := Lib.hid (fun (w5 : World) (hb : Below wr.heap.size wr w5) => bp_yes (right_any 0 wr.heap.size w5 _ _ (FuncC.move (Still.of_below hb) HFG.out) hb.size (by show cl.length ≤ _; omega) HNM.out HTO.out) hRg)
          have HRf := Lib.hid hR
          have HRg := Lib.hid hRg
          clear hR hRg
          go_wp2_with fail
          go_region_held3 (fun w' => ((w'.cell? ⟨w.heap.size, 0, none⟩ = some (str nm) ∧ w'.cell? ⟨w.heap.size, 1, none⟩ = some (str rs) ∧ w'.cell? ⟨w.heap.size, 2, none⟩ = some (.slice A1 ps.length k1) ∧ w'.cell? ⟨w.heap.size, 3, none⟩ = some (.slice A2 vs.length k2) ∧ w'.cell? ⟨w.heap.size, 4, none⟩ = some (.slice (some ⟨bb, bo, none⟩) bl.length k3)) ∧ (w'.cell? ⟨w2.heap.size, 0, none⟩ = some (str nm) ∧ w'.cell? ⟨w2.heap.size, 1, none⟩ = some (str rs) ∧ w'.cell? ⟨w2.heap.size, 2, none⟩ = some (.slice A1 ps.length k1) ∧ w'.cell? ⟨w2.heap.size, 3, none⟩ = some (.slice A2 vs.length k2) ∧ w'.cell? ⟨w2.heap.size, 4, none⟩ = some (.slice (some ⟨gb, 0, none⟩) bl.length c5))) ∧ Hid (Own w' w.heap.size 25 [str nm, str rs, .slice A1 ps.length k1, .slice A2 vs.length k2, .slice (some ⟨bb, bo, none⟩) bl.length k3] ∧ Own w' w2.heap.size 25 [str nm, str rs, .slice A1 ps.length k1, .slice A2 vs.length k2, .slice (some ⟨gb, 0, none⟩) bl.length c5]) ∧ Hid (Below wr.heap.size wr w'))
            (first | exact two_first HOr.out HGr.out HZr.out | exact two_first HOr.out.drew HGr.out.drew HZr.out.drew | exact two_next hb (by assumption) | exact two_first HO5.out HG5b.out HB5b.out | exact two_first HO5.out.drew HG5b.out.drew HB5b.out.drew)
            (first | (go_at_call 12; (with_reducible refine (QRf.out _ (Hid.out (And.right (And.right (by assumption))))).mono ?_); rintro e w' ⟨rfl, hb⟩) | (go_at_call 12; (with_reducible refine (QRg.out _ (Hid.out (And.right (And.right (by assumption))))).mono ?_); rintro e w' ⟨rfl, hb⟩))
          rename_i hHeld
          have HO5 := Lib.hid hHeld.2.1.out.1
          have HG5b := Lib.hid hHeld.2.1.out.2
          have HB5b := hHeld.2.2
          clear hHeld
          by_cases hP : PhisP bl
          · have hPg : PhisP cl := by rw [HR.out.1]; rw [HBL.out] at hP; exact (phis_perm HR.out.2.symm).1 hP
            have QPf := Lib.hid (fun (w5 : World) (hb : Below wr.heap.size wr w5) => bp_yes (phis_any 0 w.heap.size w5 _ _ (FuncC.move (Still.of_below (HBr.out.trans (hb.mono HBr.out.size))) HF0.out) (HBr.out.trans (hb.mono HBr.out.size)).size (by show bl.length ≤ _; omega) (nm_of HG.out) (to_of HG.out) (ph_of HG.out HFW.out) HRf.out) hP)
            have QPg := Lib.hid (fun (w5 : World) (hb : Below wr.heap.size wr w5) => bp_yes (phis_any 0 wr.heap.size w5 _ _ (FuncC.move (Still.of_below hb) HFG.out) hb.size (by show cl.length ≤ _; omega) HNM.out HTO.out HPH.out HRg.out) hPg)
            clear hP hPg
            go_wp2_with fail
            go_region_held3 (fun w' => ((w'.cell? ⟨w.heap.size, 0, none⟩ = some (str nm) ∧ w'.cell? ⟨w.heap.size, 1, none⟩ = some (str rs) ∧ w'.cell? ⟨w.heap.size, 2, none⟩ = some (.slice A1 ps.length k1) ∧ w'.cell? ⟨w.heap.size, 3, none⟩ = some (.slice A2 vs.length k2) ∧ w'.cell? ⟨w.heap.size, 4, none⟩ = some (.slice (some ⟨bb, bo, none⟩) bl.length k3)) ∧ (w'.cell? ⟨w2.heap.size, 0, none⟩ = some (str nm) ∧ w'.cell? ⟨w2.heap.size, 1, none⟩ = some (str rs) ∧ w'.cell? ⟨w2.heap.size, 2, none⟩ = some (.slice A1 ps.length k1) ∧ w'.cell? ⟨w2.heap.size, 3, none⟩ = some (.slice A2 vs.length k2) ∧ w'.cell? ⟨w2.heap.size, 4, none⟩ = some (.slice (some ⟨gb, 0, none⟩) bl.length c5))) ∧ Hid (Own w' w.heap.size 25 [str nm, str rs, .slice A1 ps.length k1, .slice A2 vs.length k2, .slice (some ⟨bb, bo, none⟩) bl.length k3] ∧ Own w' w2.heap.size 25 [str nm, str rs, .slice A1 ps.length k1, .slice A2 vs.length k2, .slice (some ⟨gb, 0, none⟩) bl.length c5]) ∧ Hid (Below wr.heap.size wr w'))
              (first | exact two_first HOr.out HGr.out HZr.out | exact two_first HOr.out.drew HGr.out.drew HZr.out.drew | exact two_next hb (by assumption) | exact two_first HO5.out HG5b.out HB5b.out | exact two_first HO5.out.drew HG5b.out.drew HB5b.out.drew)
              (first | (go_at_call 12; (with_reducible refine (QRf.out _ (Hid.out (And.right (And.right (by assumption))))).mono ?_); rintro e w' ⟨rfl, hb⟩) | (go_at_call 14; (with_reducible refine (QPf.out _ (Hid.out (And.right (And.right (by assumption))))).mono ?_); rintro e w' ⟨rfl, hb⟩) | (go_at_call 14; (with_reducible refine (QPg.out _ (Hid.out (And.right (And.right (by assumption))))).mono ?_); rintro e w' ⟨rfl, hb⟩))
            rename_i hHeld
            have HB6b := hHeld.2.2
            clear hHeld
            go_wp2_with fail
            go_ret
            exact ⟨by simp, HBr.out.trans (HB6b.out.mono HBr.out.size)⟩
          · have hPg : ¬ PhisP cl := by rw [HR.out.1]; rw [HBL.out] at hP; exact fun h => hP ((phis_perm HR.out.2).1 h)
            have QPf := Lib.hid (fun (w5 : World) (hb : Below wr.heap.size wr w5) => bp_no (phis_any 0 w.heap.size w5 _ _ (FuncC.move (Still.of_below (HBr.out.trans (hb.mono HBr.out.size))) HF0.out) (HBr.out.trans (hb.mono HBr.out.size)).size (by show bl.length ≤ _; omega) (nm_of HG.out) (to_of HG.out) (ph_of HG.out HFW.out) HRf.out) hP)
            have QPg := Lib.hid (fun (w5 : World) (hb : Below wr.heap.size wr w5) => bp_no (phis_any 0 wr.heap.size w5 _ _ (FuncC.move (Still.of_below hb) HFG.out) hb.size (by show cl.length ≤ _; omega) HNM.out HTO.out HPH.out HRg.out) hPg)
            clear hP hPg
            go_wp2_with fail
            go_region_held3 (fun w' => ((w'.cell? ⟨w.heap.size, 0, none⟩ = some (str nm) ∧ w'.cell? ⟨w.heap.size, 1, none⟩ = some (str rs) ∧ w'.cell? ⟨w.heap.size, 2, none⟩ = some (.slice A1 ps.length k1) ∧ w'.cell? ⟨w.heap.size, 3, none⟩ = some (.slice A2 vs.length k2) ∧ w'.cell? ⟨w.heap.size, 4, none⟩ = some (.slice (some ⟨bb, bo, none⟩) bl.length k3)) ∧ (w'.cell? ⟨w2.heap.size, 0, none⟩ = some (str nm) ∧ w'.cell? ⟨w2.heap.size, 1, none⟩ = some (str rs) ∧ w'.cell? ⟨w2.heap.size, 2, none⟩ = some (.slice A1 ps.length k1) ∧ w'.cell? ⟨w2.heap.size, 3, none⟩ = some (.slice A2 vs.length k2) ∧ w'.cell? ⟨w2.heap.size, 4, none⟩ = some (.slice (some ⟨gb, 0, none⟩) bl.length c5))) ∧ Hid (Own w' w.heap.size 25 [str nm, str rs, .slice A1 ps.length k1, .slice A2 vs.length k2, .slice (some ⟨bb, bo, none⟩) bl.length k3] ∧ Own w' w2.heap.size 25 [str nm, str rs, .slice A1 ps.length k1, .slice A2 vs.length k2, .slice (some ⟨gb, 0, none⟩) bl.length c5]) ∧ Hid (Below wr.heap.size wr w'))
              (first | exact two_first HOr.out HGr.out HZr.out | exact two_first HOr.out.drew HGr.out.drew HZr.out.drew | exact two_next hb (by assumption) | exact two_first HO5.out HG5b.out HB5b.out | exact two_first HO5.out.drew HG5b.out.drew HB5b.out.drew)
              (first | (go_at_call 12; (with_reducible refine (QRf.out _ (Hid.out (And.right (And.right (by assumption))))).mono ?_); rintro e w' ⟨rfl, hb⟩) | (go_at_call 14; (with_reducible refine (QPf.out _ (Hid.out (And.right (And.right (by assumption))))).mono ?_); rintro e w' ⟨rfl, hb⟩) | (go_at_call 14; (with_reducible refine (QPg.out _ (Hid.out (And.right (And.right (by assumption))))).mono ?_); rintro e w' ⟨rfl, hb⟩))
            rename_i hHeld
            have HB6b := hHeld.2.2
            clear hHeld
            go_wp2_with fail
            go_ret
            exact ⟨by simp, HBr.out.trans (HB6b.out.mono HBr.out.size)⟩
        · have hRg : ¬ RightP cl := by rw [HR.out.1]; rw [HBL.out] at hR; exact fun h => hR ((right_perm HR.out.2).1 h)
          have QRf := Lib.hid (fun (w5 : World) (hb : Below wr.heap.size wr w5) => bp_no (right_any 0 w.heap.size w5 _ _ (FuncC.move (Still.of_below (HBr.out.trans (hb.mono HBr.out.size))) HF0.out) (HBr.out.trans (hb.mono HBr.out.size)).size (by show bl.length ≤ _; omega) (nm_of HG.out) (to_of HG.out)) hR)
          have QRg := Lib.hid (fun (w5 : World) (hb : Below wr.heap.size wr w5) => bp_no (right_any 0 wr.heap.size w5 _ _ (FuncC.move (Still.of_below hb) HFG.out) hb.size (by show cl.length ≤ _; omega) HNM.out HTO.out) hRg)
          clear hR hRg
          go_wp2_with fail
          go_region_held3 (fun w' => ((w'.cell? ⟨w.heap.size, 0, none⟩ = some (str nm) ∧ w'.cell? ⟨w.heap.size, 1, none⟩ = some (str rs) ∧ w'.cell? ⟨w.heap.size, 2, none⟩ = some (.slice A1 ps.length k1) ∧ w'.cell? ⟨w.heap.size, 3, none⟩ = some (.slice A2 vs.length k2) ∧ w'.cell? ⟨w.heap.size, 4, none⟩ = some (.slice (some ⟨bb, bo, none⟩) bl.length k3)) ∧ (w'.cell? ⟨w2.heap.size, 0, none⟩ = some (str nm) ∧ w'.cell? ⟨w2.heap.size, 1, none⟩ = some (str rs) ∧ w'.cell? ⟨w2.heap.size, 2, none⟩ = some (.slice A1 ps.length k1) ∧ w'.cell? ⟨w2.heap.size, 3, none⟩ = some (.slice A2 vs.length k2) ∧ w'.cell? ⟨w2.heap.size, 4, none⟩ = some (.slice (some ⟨gb, 0, none⟩) bl.length c5))) ∧ Hid (Own w' w.heap.size 25 [str nm, str rs, .slice A1 ps.length k1, .slice A2 vs.length k2, .slice (some ⟨bb, bo, none⟩) bl.length k3] ∧ Own w' w2.heap.size 25 [str nm, str rs, .slice A1 ps.length k1, .slice A2 vs.length k2, .slice (some ⟨gb, 0, none⟩) bl.length c5]) ∧ Hid (Below wr.heap.size wr w'))
            (first | exact two_first HOr.out HGr.out HZr.out | exact two_first HOr.out.drew HGr.out.drew HZr.out.drew | exact two_next hb (by assumption) | exact two_first HO5.out HG5b.out HB5b.out | exact two_first HO5.out.drew HG5b.out.drew HB5b.out.drew)
            (first | (go_at_call 12; (with_reducible refine (QRf.out _ (Hid.out (And.right (And.right (by assumption))))).mono ?_); rintro e w' ⟨rfl, hb⟩) | (go_at_call 12; (with_reducible refine (QRg.out _ (Hid.out (And.right (And.right (by assumption))))).mono ?_); rintro e w' ⟨rfl, hb⟩))
          rename_i hHeld
          have HO5 := Lib.hid hHeld.2.1.out.1
          have HG5b := Lib.hid hHeld.2.1.out.2
          have HB5b := hHeld.2.2
          clear hHeld
          have f0 := HO5.out.cell 0
          have f1 := HO5.out.cell 1
          have f2 := HO5.out.cell 2
          have f3 := HO5.out.cell 3
          have f4 := HO5.out.cell 4
          simp only [List.getElem?_cons_succ, List.getElem?_cons_zero] at f0 f1 f2 f3 f4
          go_wp2_with fail
          go_region_law (go_simp; go_at_call 12; (with_reducible refine (QRf.out _ HB5b.out.drew).mono ?_); rintro e w6 ⟨rfl, hb6⟩; have HB6b := Lib.hid (HB5b.out.drew.trans (hb6.mono HB5b.out.drew.size)); clear hb6)
          all_goals
            go_wp2_with fail
            go_ret
            exact ⟨by first | rfl | kernel_rfl | (simp; done) | go_simp, HBr.out.trans (HB6b.out.mono HBr.out.size)⟩
    · clear hlb
      by_cases h2 : bl.length < 2
      · have e1 : decide ((bl.length : Int) < 2) = true := decide_eq_true (by omega)
        clear hgo
        go_wp2_with fail
        refine (L08.awake_any w2).mono ?_
        rintro e w3 ⟨rfl, hb3⟩
        have HB3 := Lib.hid (HB2.out.trans (hb3.mono HB2.out.size))
        clear hb3
        go_wp2_with fail
        go_ret
        exact ⟨rfl, HB3.out⟩
      · have e1 : decide ((bl.length : Int) < 2) = false := decide_eq_false (by omega)
        have e2 : decide ((200 : Int) < (os.length : Int)) = true := decide_eq_true (by omega)
        clear hgo
        go_wp2_with fail
        refine (L08.awake_any w2).mono ?_
        rintro e w3 ⟨rfl, hb3⟩
        have HB3 := Lib.hid (HB2.out.trans (hb3.mono HB2.out.size))
        clear hb3
        go_wp2_with fail
        go_ret
        exact ⟨rfl, HB3.out⟩

set_option maxRecDepth 100000 in
theorem lifted (os : Os) (started : os.Started) (H : Type) (enc : TypeId × Value → H) :
    ReturnsInHanded {} Try.checked os 6 .any (Rows.shapeTurnedSpec.pre6 enc Try.prog Try.f6 Rows.shapeTurnedRow.domain false) (Rows.shapeTurnedSpec.post enc Try.prog Try.f6 false true false false) := by
  refine returnsInHanded_of_change_sized (C := Try.checked) (by kernel_rfl) started (by kernel_rfl) Try.func6
    (ChangeSpec.witness6 (enc := enc) (C := Try.checked) false ⟨#[], #[.agg #[.string ⟨#[]⟩, .string ⟨#[]⟩, .slice none 0 0, .slice none 0 0, .slice none 0 0], .slice none 0 0], []⟩ 8 (by kernel_rfl) (by kernel_rfl) (by kernel_rfl) (by kernel_rfl)) ?_
  intro W base args ds gs before hval0 hW hcnd hsz0 _
  have hval : ∀ (j : Nat) t v, Try.f6.params[j]? = some t → args[j]? = some v → Value.okWide Try.prog W .any base t v := hval0
  have hW' := hW
  obtain ⟨p, q, hA0, hV, rfl, hfz, hnd⟩ := hW
  have hsz : (DataW.weightsEach Try.prog (Try.f6.params.toList ++ Rows.shapeTurnedSpec.plain.varTypes Try.prog) (ds ++ gs)).all (· ≤ reachBytes) = true := hsz0
  have hA : DataW.TrodAll enc Try.prog W 0 (fun _ => true) true Try.f6.params.toList args.toList ds p := hA0
  rw [Try.params6] at hA hval hsz
  obtain ⟨v0, vs0, d0, ds0, p0, q0, hargs, rfl, rfl, h0, r0⟩ := trodAll_cons hA
  obtain ⟨v1, vs1, d1, ds1, p1, q1, rfl, rfl, rfl, h1, r1⟩ := trodAll_cons r0
  obtain ⟨rfl, rfl, rfl⟩ := trodAll_nil r1
  obtain rfl : args = #[v0, v1] := by cases args; simp_all
  obtain ⟨rfl, rfl⟩ := trodVars_none hV
  obtain ⟨xs0, hG0⟩ := OpenP.open_func hsz (j := 0) rfl rfl (hval 0 25 v0 rfl rfl) h0
  obtain ⟨xs1, hG1⟩ := OpenI.open_ints hsz (j := 1) rfl rfl (hval 1 41 v1 rfl rfl) h1
  clear hA0 hval0
  simp only [List.append_nil] at hW'
  refine (walk v0 xs0 v1 xs1 hG0 hG1).mono fun e W' ⟨he, hg⟩ => ?_
  subst he
  exact ⟨_, rfl, Shell.lawPost (by kernel_rfl) rfl (by kernel_rfl) rfl Try.underlying4 hW' rfl hg⟩

/-- The statement. -/
theorem proved : Rows.ShapeTurnedSaid :=
  OpenClaim.holds_of_wide 6 Try.f6 rfl rfl rfl rfl rfl rfl rfl ⟨rfl, rfl, rfl, rfl, rfl⟩ rfl rfl rfl rfl rfl (by kernel_rfl) Try.func6 (by kernel_rfl)
    (of_decide_eq_true (by kernel_rfl)) (by unfold Func.isWrapper; first | (rw [if_pos (by decide +kernel)]; kernel_rfl) | (rw [if_neg (by decide +kernel)]; exact ⟨rfl, rfl⟩))
    (fun os started H enc _ => lifted os started H enc)
end Go.Proofs.Ytdmjghhgmpnacaa.shapeTurned
