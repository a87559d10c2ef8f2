/-
  In a function whose shape is right each block can be come to from the first one, and each end leads to blocks that there are.
-/
import Derived.Test.YtfffcjhhdbcmpaaRows
import Derived.Test.YtfffcjhhdbcmpaaLaw08
import Derived.Test.YtfffcjhhdbcmpaaOpenP
import Derived.Test.YtfffcjhhdbcmpaaShSat
import Derived.Test.YtfffcjhhdbcmpaaShRef
import Derived.Test.YtfffcjhhdbcmpaaShCome
import Derived.Deep.RegionHeld3
import Derived.Test.YtfffcjhhdbcmpaaShell
import Derived.ProofKit
import Derived.OpenShut
import Derived.SizedLaws
namespace Go.Proofs.Ytfffcjhhdbcmpaa.shapeCome
open Go.ChangeShapes Go.WideShapes Go.ChangeAt Go.RowKit
open Api Mem Sh8
/-- a function's box, and that what was there stays. -/
theorem fn_first {w w' : World} {g : Nat} {t : TypeId} {c0 c1 c2 c3 c4 : Value} (o : Own w' g t [c0, c1, c2, c3, c4]) (b : Below g w w') : (w'.cell? ⟨g, 0, none⟩ = some c0 ∧ w'.cell? ⟨g, 1, none⟩ = some c1 ∧ w'.cell? ⟨g, 2, none⟩ = some c2 ∧ w'.cell? ⟨g, 3, none⟩ = some c3 ∧ w'.cell? ⟨g, 4, none⟩ = some c4) ∧ Hid (Own w' g t [c0, c1, c2, c3, c4]) ∧ Hid (Below g w w') :=
  ⟨⟨o.cell 0, o.cell 1, o.cell 2, o.cell 3, o.cell 4⟩, Lib.hid o, Lib.hid b⟩
theorem fn_next {w w1 w' : World} {g : Nat} {t : TypeId} {c0 c1 c2 c3 c4 : Value} (hb : Below w1.heap.size w1 w') (h : (w1.cell? ⟨g, 0, none⟩ = some c0 ∧ w1.cell? ⟨g, 1, none⟩ = some c1 ∧ w1.cell? ⟨g, 2, none⟩ = some c2 ∧ w1.cell? ⟨g, 3, none⟩ = some c3 ∧ w1.cell? ⟨g, 4, none⟩ = some c4) ∧ Hid (Own w1 g t [c0, c1, c2, c3, c4]) ∧ Hid (Below g w w1)) :
    (w'.cell? ⟨g, 0, none⟩ = some c0 ∧ w'.cell? ⟨g, 1, none⟩ = some c1 ∧ w'.cell? ⟨g, 2, none⟩ = some c2 ∧ w'.cell? ⟨g, 3, none⟩ = some c3 ∧ w'.cell? ⟨g, 4, none⟩ = some c4) ∧ Hid (Own w' g t [c0, c1, c2, c3, c4]) ∧ Hid (Below g w w') :=
  fn_first (h.2.1.out.below hb h.2.1.out.lt) (h.2.2.out.trans (hb.mono (Nat.le_of_lt h.2.1.out.lt)))
theorem bp_yes {P : Program} {f : FuncId} {args : Array Value} {p : Prop} {w w0 : World} (h : Calls P f args w (BP p w0)) (hp : p) : Calls P f args w fun e w' => e = .returned (.bool true) ∧ Below w0.heap.size w0 w' := h.mono (by
  rintro e w' ⟨b, rfl, hb, hw⟩
  obtain rfl : b = true := hb.2 hp
  exact ⟨rfl, hw⟩)
theorem bp_no {P : Program} {f : FuncId} {args : Array Value} {p : Prop} {w w0 : World} (h : Calls P f args w (BP p w0)) (hp : ¬ p) : Calls P f args w fun e w' => e = .returned (.bool false) ∧ Below w0.heap.size w0 w' := h.mono (by
  rintro e w' ⟨b, rfl, hb, hw⟩
  cases b with
  | false => exact ⟨rfl, hw⟩
  | true => exact absurd (hb.1 rfl) hp)
theorem same_b {p : Prop} {b c : Bool} (h : b = true ↔ p) (g : c = true ↔ p) : (b == c) = true := by
  rw [Bool.eq_iff_iff.2 (h.trans g.symm)]
  simp
theorem nm_of {f : Api.Func} (h : OpenP.funcG f) : nmG f.blocks := fun b hb => (h.2.2.2 b hb).1
theorem to_of {f : Api.Func} (h : OpenP.funcG f) : toG f.blocks := fun b hb x hx => (h.2.2.2 b hb).2.2.2.2.2.1 x hx
theorem ph_of {f : Api.Func} (h : OpenP.funcG f) (hf : FewP f.blocks) : phG f.blocks := fun b hb p hp =>
  ⟨by have := (hf.2 b hb).2.2 p hp; omega, fun x hx => (((h.2.2.2 b hb).2.1 p hp).2 x hx).1⟩
theorem List.set_getElem?_self' {C : List Bool} {p : Nat} {b : Bool} (h : C[p]? = some b) : C.set p b = C := by
  obtain ⟨h1, h2⟩ := List.getElem?_eq_some_iff.1 h
  rw [← h2]
  exact List.set_getElem_self h1
theorem cm_first {w' W5 : World} {g gl b o : Nat} {t t2 : TypeId} {c0 c1 c2 c3 c4 u : Value} {cl : List Value} (ob : Own w' g t [c0, c1, c2, c3, c4]) (n0 : w'.cell? ⟨b, o, none⟩ = some u) (ol : Own w' gl t2 cl) (hb : Below gl W5 w') :
    (w'.cell? ⟨g, 0, none⟩ = some c0 ∧ w'.cell? ⟨g, 1, none⟩ = some c1 ∧ w'.cell? ⟨g, 2, none⟩ = some c2 ∧ w'.cell? ⟨g, 3, none⟩ = some c3 ∧ w'.cell? ⟨g, 4, none⟩ = some c4 ∧ w'.cell? ⟨b, o, none⟩ = some u) ∧ Hid (Own w' g t [c0, c1, c2, c3, c4]) ∧ Hid (Own w' gl t2 cl) ∧ Hid (Below gl W5 w') :=
  ⟨⟨ob.cell 0, ob.cell 1, ob.cell 2, ob.cell 3, ob.cell 4, n0⟩, Lib.hid ob, Lib.hid ol, Lib.hid hb⟩
theorem cm_next {w1 w' W5 : World} {g gl b o : Nat} {t t2 : TypeId} {c0 c1 c2 c3 c4 u : Value} {cl : List Value} (hb : Below w1.heap.size w1 w')
    (h : (w1.cell? ⟨g, 0, none⟩ = some c0 ∧ w1.cell? ⟨g, 1, none⟩ = some c1 ∧ w1.cell? ⟨g, 2, none⟩ = some c2 ∧ w1.cell? ⟨g, 3, none⟩ = some c3 ∧ w1.cell? ⟨g, 4, none⟩ = some c4 ∧ w1.cell? ⟨b, o, none⟩ = some u) ∧ Hid (Own w1 g t [c0, c1, c2, c3, c4]) ∧ Hid (Own w1 gl t2 cl) ∧ Hid (Below gl W5 w1)) :
    (w'.cell? ⟨g, 0, none⟩ = some c0 ∧ w'.cell? ⟨g, 1, none⟩ = some c1 ∧ w'.cell? ⟨g, 2, none⟩ = some c2 ∧ w'.cell? ⟨g, 3, none⟩ = some c3 ∧ w'.cell? ⟨g, 4, none⟩ = some c4 ∧ w'.cell? ⟨b, o, none⟩ = some u) ∧ Hid (Own w' g t [c0, c1, c2, c3, c4]) ∧ Hid (Own w' gl t2 cl) ∧ Hid (Below gl W5 w') :=
  cm_first (h.2.1.out.below hb h.2.1.out.lt) ((hb.cell (p := ⟨b, o, none⟩) (World.block_lt_of_cell? w1 _ h.1.2.2.2.2.2)).trans h.1.2.2.2.2.2) (h.2.2.1.out.below hb h.2.2.1.out.lt) (h.2.2.2.out.trans (hb.mono (Nat.le_of_lt h.2.2.1.out.lt)))
set_option maxRecDepth 100000 in
set_option maxHeartbeats 16000000 in
theorem walk (v : Value) (q : Api.Func × List Value) {w : World} (hq : v = .agg q.2.toArray ∧ FuncC 0 w.heap.size w q.2 q.1 ∧ OpenP.funcG q.1) :
    Calls Try.prog 5 #[v] w fun e w' => e = .returned (.bool true) ∧ Below w.heap.size w w' := by
  obtain ⟨rfl, hfc, hG⟩ := hq
  obtain ⟨f, cs⟩ := q
  simp only at hfc hG
  have hfc0 := hfc
  obtain ⟨u1, u2, u3, rfl, kp, kv, kb⟩ := hfc
  obtain ⟨nm, rs, ps, vs, bl⟩ := f
  simp only at kp kv kb
  obtain ⟨A1, k1, rfl⟩ := kp.form
  obtain ⟨A2, k2, rfl⟩ := kv.form
  obtain ⟨A3, k3, rfl⟩ := kb.form
  obtain ⟨W, hW⟩ : ∃ W, w.alloc (.cells #[str nm, str rs, .slice A1 ps.length k1, .slice A2 vs.length k2, .slice A3 bl.length k3] 25) = W := ⟨_, rfl⟩
  obtain ⟨o1, b1, z1⟩ := box8 (c := [str nm, str rs, .slice A1 ps.length k1, .slice A2 vs.length k2, .slice A3 bl.length k3]) hW
  have HF0 := Lib.hid hfc0
  have HG := Lib.hid hG
  have HO := Lib.hid o1
  have HB := Lib.hid b1
  have HW := Lib.hid hW
  have zlt := o1.lt
  have KB0 := Lib.hid kb
  clear o1 b1 hW kp kv kb hfc0 hG
  go_enter Try.func5, Try.ntmps5
  go_wp2_with fail
  rw [HW.out]
  refine (L08.awake_any W).mono ?_
  rintro e w1 ⟨rfl, hb1⟩
  have HB1 := Lib.hid (HB.out.trans (hb1.mono HB.out.size))
  have HO1 := Lib.hid (HO.out.below hb1 HO.out.lt)
  have QF := Lib.hid (few_any 0 w.heap.size w1 _ _ (FuncC.move (Still.of_below HB1.out) HF0.out) HB1.out.size)
  clear hb1
  have f0 := HO1.out.cell 0
  have f1 := HO1.out.cell 1
  have f2 := HO1.out.cell 2
  have f3 := HO1.out.cell 3
  have f4 := HO1.out.cell 4
  simp only [List.getElem?_cons_succ, List.getElem?_cons_zero] at f0 f1 f2 f3 f4
  go_wp2_with fail
  refine QF.out.mono ?_
  rintro e w2 ⟨b2, rfl, hfew, hb2⟩
  have HB2 := Lib.hid (HB1.out.trans (hb2.mono HB1.out.size))
  have HO2 := Lib.hid (HO1.out.below hb2 HO1.out.lt)
  clear hb2 f0 f1 f2 f3 f4
  cases b2 with
  | false =>
    clear hfew
    go_wp2_with fail
    refine (L08.awake_any w2).mono ?_
    rintro e w3 ⟨rfl, hb3⟩
    have HB3 := Lib.hid (HB2.out.trans (hb3.mono HB2.out.size))
    clear hb3
    go_wp2_with fail
    go_ret
    exact ⟨rfl, HB3.out⟩
  | true =>
    have hfw := hfew rfl
    have hlb : bl.length ≤ 60 := hfw.1
    have HFW := Lib.hid hfw
    clear hfew hfw
    have f0 := HO2.out.cell 0
    have f1 := HO2.out.cell 1
    have f2 := HO2.out.cell 2
    have f3 := HO2.out.cell 3
    have f4 := HO2.out.cell 4
    simp only [List.getElem?_cons_succ, List.getElem?_cons_zero] at f0 f1 f2 f3 f4
    go_wp2_with fail
    refine (right_any 0 w.heap.size w2 _ _ (FuncC.move (Still.of_below HB2.out) HF0.out) HB2.out.size (by show bl.length ≤ _; omega) (nm_of HG.out) (to_of HG.out)).mono ?_
    rintro e w3 ⟨b3, rfl, h3, hb3⟩
    have HB3 := Lib.hid (HB2.out.trans (hb3.mono HB2.out.size))
    have HO3 := Lib.hid (HO2.out.below hb3 HO2.out.lt)
    clear hb3 f0 f1 f2 f3 f4
    cases b3 with
    | false =>
      clear h3
      go_wp2_with fail
      refine (L08.awake_any w3).mono ?_
      rintro e w4 ⟨rfl, hb4⟩
      have HB4 := Lib.hid (HB3.out.trans (hb4.mono HB3.out.size))
      clear hb4
      go_wp2_with fail
      go_ret
      exact ⟨rfl, HB4.out⟩
    | true =>
      have HRT := Lib.hid (h3.1 rfl)
      have h0 : 0 < bl.length := List.length_pos_iff.2 (h3.1 rfl).1
      clear h3
      have f0 := HO3.out.cell 0
      have f1 := HO3.out.cell 1
      have f2 := HO3.out.cell 2
      have f3 := HO3.out.cell 3
      have f4 := HO3.out.cell 4
      simp only [List.getElem?_cons_succ, List.getElem?_cons_zero] at f0 f1 f2 f3 f4
      have hmm := fun (w : World) => run_row (P := Try.prog) (t := 31) Try.underlying31 info_bool rfl (by decide) bl.length (by omega) w
      have zl3 := HO3.out.lt
      have e2 := (Own.made w3 4 (List.replicate bl.length (.bool false))).cell 0
      have c2 : (w3.alloc (.cells (List.replicate bl.length (.bool false)).toArray 4)).cell? ⟨w3.heap.size, 0, none⟩ = some (.bool false) := by rw [e2]; simp [h0]
      have t2 := (Own.made w3 4 (List.replicate bl.length (.bool false))).thaw 0
      have HN0 := Lib.hid h0
      clear e2
      go_wp2_with fail
      rw [show (Array.replicate bl.length (Value.bool false)).setIfInBounds 0 (.bool true) = ((C0 bl.length).map .bool).toArray by apply Array.ext'; simp]
      obtain ⟨gl, hgl⟩ : ∃ gl, w3.heap.size = gl := ⟨_, rfl⟩
      obtain ⟨W5, hW5⟩ : ∃ W5, w3.alloc (.cells ((C0 bl.length).map .bool).toArray 4) = W5 := ⟨_, rfl⟩
      have HL := Lib.hid (show Own W5 gl 4 ((C0 bl.length).map Value.bool) by rw [← hW5, ← hgl]; exact Own.made w3 _ _)
      have HB5 := Lib.hid (show Below w.heap.size w W5 by rw [← hW5]; exact HB3.out.alloc HB3.out.size _)
      have HO5 := Lib.hid (show Own W5 w.heap.size 25 [str nm, str rs, .slice A1 ps.length k1, .slice A2 vs.length k2, .slice A3 bl.length k3] by rw [← hW5]; exact HO3.out.alloc _)
      have hlg : w.heap.size < gl := by rw [← hgl]; exact zl3
      simp only [hgl, hW5]
      clear hW5 hgl f0 f1 f2 f3 f4 c2 t2 zl3 h0
      go_loopw [4] (fun r wr => ∃ (r' : Nat) (C : List Bool), r' ≤ bl.length ∧ r = .int .i64 r' ∧ Hid (Own wr gl 4 (C.map Value.bool)) ∧ Hid (Rnd bl C r') ∧ Hid (Below gl W5 wr)) (fun r _ => bl.length - (intOf r).toNat)
      case atStart => exact ⟨0, C0 bl.length, Nat.zero_le _, rfl, HL, Lib.hid (rnd_start HN0.out), Lib.hid (Below.refl _ _)⟩
      case round =>
      obtain ⟨r, C, hr, rfl, HC, HRN, HBr⟩ := hrel
      have HOI := Lib.hid (HO5.out.below HBr.out hlg)
      have f4 := HOI.out.cell 4
      simp only [List.getElem?_cons_succ, List.getElem?_cons_zero] at f4
      by_cases hlt : r < bl.length
      · go_wp2_with fail
        go_loopw [5] (fun i wr2 => ∃ (i' : Nat) (C2 : List Bool), i' ≤ bl.length ∧ i = .int .i64 i' ∧ Hid (Own wr2 gl 4 (C2.map Value.bool)) ∧ Hid (Sat bl C C2 i' []) ∧ Hid (Below gl W5 wr2)) (fun i _ => bl.length - (intOf i).toNat)
        case atStart => exact ⟨0, C, Nat.zero_le _, rfl, HC, Lib.hid (sat_start HRN.out.1 HRN.out.2.1), HBr⟩
        case round =>
        obtain ⟨i, C2, hi2, rfl, HC2, HS2, HBr2⟩ := hrel
        clear f4 HOI
        have HOI := Lib.hid (HO5.out.below HBr2.out hlg)
        have HBI := Lib.hid (HB5.out.trans (HBr2.out.mono (Nat.le_of_lt hlg)))
        have f4 := HOI.out.cell 4
        simp only [List.getElem?_cons_succ, List.getElem?_cons_zero] at f4
        by_cases hlt2 : i < bl.length
        · obtain ⟨⟨bn, phs, cod, ⟨tk, ⟨ak, as_, an⟩, td, tn⟩⟩, hx⟩ : ∃ y, bl[i]? = some y := ⟨_, List.getElem?_eq_getElem hlt2⟩
          have HX := Lib.hid hx
          clear hx
          obtain ⟨b3, of3, hn3, hm3, a3, j3⟩ := Row.get KB0.out
          obtain ⟨rfl, _, hb3⟩ := a3 (show 0 < bl.length by omega)
          obtain ⟨cs3, _, q3, hu⟩ := j3 i _ HX.out
          obtain ⟨x1, x2, x3, e1', kph, kco, x4, e2', kto⟩ := hu
          subst e2'
          subst e1'
          obtain ⟨m0, m1, m2, m3, m4, m5, m6, m7, m8⟩ := at9 (cells_later q3 HBI.out hb3)
          obtain ⟨At, kt, rfl⟩ := Row.form kto
          have htl : td.length ≤ 4611686018427387903 := by obtain ⟨_, _, _, h, _⟩ := Row.get kto; exact h
          have KT := Lib.hid kto
          have HEN := Lib.hid (HRT.out.2.2.1 _ (List.mem_of_getElem? HX.out))
          clear q3 j3 a3 kph kco kto
          go_wp2_with fail
          go_loopw [7] (fun k wr3 => ∃ (k' : Nat) (C3 : List Bool), k' ≤ td.length ∧ k = .int .i64 k' ∧ Hid (Own wr3 gl 4 (C3.map Value.bool)) ∧ Hid (Sat bl C C3 i (td.take k')) ∧ Hid (Below gl W5 wr3)) (fun k _ => td.length - (intOf k).toNat)
          case atStart => exact ⟨0, C2, Nat.zero_le _, rfl, HC2, Lib.hid (by simpa using HS2.out), HBr2⟩
          case round =>
          obtain ⟨j, C3, hj, rfl, HC3, HS3, HBr3⟩ := hrel
          clear f4 HOI HBI m0 m1 m2 m3 m4 m5 m6 m7 m8
          by_cases hlt3 : j < td.length
          · obtain ⟨x, hxj⟩ : ∃ y, td[j]? = some y := ⟨_, List.getElem?_eq_getElem hlt3⟩
            have HBI := Lib.hid (HB5.out.trans (HBr3.out.mono (Nat.le_of_lt hlg)))
            have HOI := Lib.hid (HO5.out.below HBr3.out hlg)
            have kt2 := KT.out
            obtain ⟨b5, of5, hn5, hm5, a5, j5⟩ := Row.get kt2
            obtain ⟨rfl, _, hb5⟩ := a5 (show 0 < td.length by omega)
            obtain ⟨cs5, _, q5, hu5⟩ := j5 j _ hxj
            subst hu5
            have n0 := cells_later q5 HBI.out hb5 0 _ rfl
            simp only [Nat.mul_one, Nat.add_zero] at n0
            clear q5 j5 a5 kt2

            have f0 := HOI.out.cell 0
            have f1 := HOI.out.cell 1
            have f2 := HOI.out.cell 2
            have f3 := HOI.out.cell 3
            have f4 := HOI.out.cell 4
            simp only [List.getElem?_cons_succ, List.getElem?_cons_zero] at f0 f1 f2 f3 f4
            have HXJ := Lib.hid hxj
            obtain ⟨p, hp⟩ := plc_mem ((HEN.out).2 x (List.mem_of_getElem? hxj)).1
            have hpl : p < bl.length := by have := plc_lt hp; rwa [names_len] at this
            have hp0 : p ≠ 0 := fun e => (HEN.out.2 x (List.mem_of_getElem? hxj)).2 (by have := plc_at hp; rwa [e] at this)
            have ep : ((p : Int) == 0) = false := by simpa using hp0
            have QP := Lib.hid (fun (w' : World) (hb : Below gl W5 w') => place_any 0 w.heap.size w' _ _ (FuncC.move (Still.of_below (HB5.out.trans (hb.mono (Nat.le_of_lt hlg)))) HF0.out) (HB5.out.trans (hb.mono (Nat.le_of_lt hlg))).size x)
            simp only [hp, plN, plB, Option.getD_some, Option.isSome_some] at QP
            have HP := Lib.hid hp
            have HP0 := Lib.hid hp0
            have HTK : Hid (td.take (j + 1) = td.take j ++ [x]) := Lib.hid (by
              obtain ⟨hj9, e9⟩ := List.getElem?_eq_some_iff.1 hxj
              rw [List.take_succ_eq_append_getElem hj9, e9])
            have hcl := HS3.out.len
            obtain ⟨cp, hcp⟩ : ∃ c, C3[p]? = some c := ⟨_, List.getElem?_eq_getElem (by omega)⟩
            obtain ⟨ci, hci⟩ : ∃ c, C3[i]? = some c := ⟨_, List.getElem?_eq_getElem (by omega)⟩
            have HCP := Lib.hid hcp
            have HCI := Lib.hid hci
            clear hxj hp hp0 hcl hcp hci
            go_wp2_with fail
            go_region_held3 (fun w' => (w'.cell? ⟨w.heap.size, 0, none⟩ = some (str nm) ∧ w'.cell? ⟨w.heap.size, 1, none⟩ = some (str rs) ∧ w'.cell? ⟨w.heap.size, 2, none⟩ = some (.slice A1 ps.length k1) ∧ w'.cell? ⟨w.heap.size, 3, none⟩ = some (.slice A2 vs.length k2) ∧ w'.cell? ⟨w.heap.size, 4, none⟩ = some (.slice (some ⟨b3, of3, none⟩) bl.length k3) ∧ w'.cell? ⟨b5, of5 + j, none⟩ = some (str x)) ∧ Hid (Own w' w.heap.size 25 [str nm, str rs, .slice A1 ps.length k1, .slice A2 vs.length k2, .slice (some ⟨b3, of3, none⟩) bl.length k3]) ∧ Hid (Own w' gl 4 (C3.map Value.bool)) ∧ Hid (Below gl W5 w'))
              (first | exact cm_first HOI.out n0 HC3.out HBr3.out | exact cm_first HOI.out.drew n0 HC3.out.drew HBr3.out.drew | exact cm_next hb (by assumption))
              (first | (go_at_call 10; (with_reducible refine (QP.out _ (Hid.out (And.right (And.right (And.right (by assumption)))))).mono ?_); rintro e w' ⟨rfl, hb⟩))
            rename_i hHeld
            obtain ⟨-, -, HC6, HB6⟩ := hHeld
            have cp6 := (HC6.out.cell p).trans (show (C3.map Value.bool)[p]? = some (Value.bool cp) by rw [List.getElem?_map, HCP.out]; rfl)
            have ci6 := (HC6.out.cell i).trans (show (C3.map Value.bool)[i]? = some (Value.bool ci) by rw [List.getElem?_map, HCI.out]; rfl)
            have t6 := HC6.out.thaw p
            have yl6 := HC6.out.lt
            clear f0 f1 f2 f3 f4 n0
            have HST := Lib.hid (HC6.out.store p (.bool true))
            have HB7 := Lib.hid (HB6.out.setCell (p := ⟨gl, p, none⟩) (Nat.le_refl _) (.bool true))
            cases cp with
            | true =>
              have HNX := Lib.hid (show Sat bl C C3 i (td.take (j + 1)) by rw [HTK.out]; exact HS3.out.skip HP.out (.inl HCP.out))
              have HC7 := Lib.hid (show Own (w'.setCell ⟨gl, p, none⟩ (.bool true)) gl 4 (C3.map Value.bool) by
                have := HST.out
                rw [← List.map_set, cnt_same HCP.out] at this
                exact this)
              go_wp2_with fail
              go_roundw
              case rel => exact ⟨j + 1, C3, by omega, by go_num, HC7, HNX, HB7⟩
              case measure => simp [intOf]; omega
            | false =>
              cases ci with
              | true =>
                have HNX := Lib.hid (show Sat bl C (C3.set p true) i (td.take (j + 1)) by rw [HTK.out]; exact HS3.out.mark HX.out (by obtain ⟨q1, q2⟩ := List.getElem?_eq_some_iff.1 HXJ.out; exact List.mem_of_getElem? HXJ.out) HP.out HCP.out HCI.out)
                have HC7 := Lib.hid (show Own (w'.setCell ⟨gl, p, none⟩ (.bool true)) gl 4 ((C3.set p true).map Value.bool) by rw [List.map_set]; exact HST.out)
                go_wp2_with fail
                go_roundw
                case rel => exact ⟨j + 1, C3.set p true, by omega, by go_num, HC7, HNX, HB7⟩
                case measure => simp [intOf]; omega
              | false =>
                have HNX := Lib.hid (show Sat bl C C3 i (td.take (j + 1)) by rw [HTK.out]; exact HS3.out.skip HP.out (.inr HCI.out))
                have HC7 := Lib.hid (show Own (w'.setCell ⟨gl, p, none⟩ (.bool false)) gl 4 (C3.map Value.bool) by
                  have := HC6.out.store p (.bool false)
                  rw [← List.map_set, List.set_getElem?_self' HCP.out] at this
                  exact this)
                have HB8 := Lib.hid (HB6.out.setCell (p := ⟨gl, p, none⟩) (Nat.le_refl _) (.bool false))
                go_wp2_with fail
                go_roundw
                case rel => exact ⟨j + 1, C3, by omega, by go_num, HC7, HNX, HB8⟩
                case measure => simp [intOf]; omega
          · have HNX := Lib.hid (Sat.next (b := ⟨bn, phs, cod, ⟨tk, ⟨ak, as_, an⟩, td, tn⟩⟩) (by have := HS3.out; rwa [List.take_of_length_le (by omega)] at this) HX.out)
            go_wp2_with fail
            go_roundw
            case rel => exact ⟨i + 1, C3, by omega, by go_num, HC3, HNX, HBr3⟩
            case measure => simp [intOf]; omega
        · have HNX := Lib.hid (HRN.out.next HS2.out (by omega))
          go_wp2_with fail
          go_roundw
          case rel => exact ⟨r + 1, C2, by omega, by go_num, HC2, HNX, HBr2⟩
          case measure => simp [intOf]; omega
      · have HAL := Lib.hid (HRN.out.fin (by omega) HRT.out)
        have hcl := HRN.out.1
        go_wp2_with fail
        go_loopw [10] (fun i wr2 => ∃ (p : Nat), p ≤ bl.length ∧ i = .int .i64 p ∧ wr2 = wr) (fun i _ => bl.length - (intOf i).toNat)
        case atStart => exact ⟨0, Nat.zero_le _, rfl, rfl⟩
        case round =>
        obtain ⟨p, hp, rfl, rfl⟩ := hrel
        by_cases hlt4 : p < bl.length
        · have c8 := (HC.out.cell p).trans (show (C.map Value.bool)[p]? = some (Value.bool true) by rw [List.getElem?_map, HAL.out p hlt4]; rfl)
          go_wp2_with fail
          go_roundw
          case rel => exact ⟨p + 1, by omega, by go_num, trivial⟩
          case measure => simp [intOf]; omega
        · go_wp2_with fail
          go_ret
          exact ⟨rfl, HB5.out.trans (HBr.out.mono (Nat.le_of_lt hlg))⟩

set_option maxRecDepth 100000 in
theorem lifted (os : Os) (started : os.Started) (H : Type) (enc : TypeId × Value → H) :
    ReturnsInHanded {} Try.checked os 5 .any (Rows.shapeComeSpec.pre6 enc Try.prog Try.f5 Rows.shapeComeRow.domain false) (Rows.shapeComeSpec.post enc Try.prog Try.f5 false true false false) := by
  refine returnsInHanded_of_change_sized (C := Try.checked) (by kernel_rfl) started (by kernel_rfl) Try.func5
    (ChangeSpec.witness6 (enc := enc) (C := Try.checked) false ⟨#[], #[.agg #[.string ⟨#[]⟩, .string ⟨#[]⟩, .slice none 0 0, .slice none 0 0, .slice none 0 0]], []⟩ 8 (by kernel_rfl) (by kernel_rfl) (by kernel_rfl) (by kernel_rfl)) ?_
  intro W base args ds gs before hval0 hW hcnd hsz0 _
  have hval : ∀ (j : Nat) t v, Try.f5.params[j]? = some t → args[j]? = some v → Value.okWide Try.prog W .any base t v := hval0
  have hW' := hW
  obtain ⟨p, q, hA0, hV, rfl, hfz, hnd⟩ := hW
  have hsz : (DataW.weightsEach Try.prog (Try.f5.params.toList ++ Rows.shapeComeSpec.plain.varTypes Try.prog) (ds ++ gs)).all (· ≤ reachBytes) = true := hsz0
  have hA : DataW.TrodAll enc Try.prog W 0 (fun _ => true) true Try.f5.params.toList args.toList ds p := hA0
  rw [Try.params5] at hA hval hsz
  obtain ⟨v0, vs0, d0, ds0, p0, q0, hargs, rfl, rfl, h0, r0⟩ := trodAll_cons hA
  obtain ⟨rfl, rfl, rfl⟩ := trodAll_nil r0
  obtain rfl : args = #[v0] := by cases args; simp_all
  obtain ⟨rfl, rfl⟩ := trodVars_none hV
  obtain ⟨xs0, hG0⟩ := OpenP.open_func hsz (j := 0) rfl rfl (hval 0 25 v0 rfl rfl) h0
  clear hA0 hval0
  simp only [List.append_nil] at hW'
  refine (walk v0 xs0 hG0).mono fun e W' ⟨he, hg⟩ => ?_
  subst he
  exact ⟨_, rfl, Shell.lawPost (by kernel_rfl) rfl (by kernel_rfl) rfl Try.underlying4 hW' rfl hg⟩

/-- The statement. -/
theorem proved : Rows.ShapeComeSaid :=
  OpenClaim.holds_of_wide 5 Try.f5 rfl rfl rfl rfl rfl rfl rfl ⟨rfl, rfl, rfl, rfl, rfl⟩ rfl rfl rfl rfl rfl (by kernel_rfl) Try.func5 (by kernel_rfl)
    (of_decide_eq_true (by kernel_rfl)) (by unfold Func.isWrapper; first | (rw [if_pos (by decide +kernel)]; kernel_rfl) | (rw [if_neg (by decide +kernel)]; exact ⟨rfl, rfl⟩))
    (fun os started H enc _ => lifted os started H enc)
end Go.Proofs.Ytfffcjhhdbcmpaa.shapeCome
