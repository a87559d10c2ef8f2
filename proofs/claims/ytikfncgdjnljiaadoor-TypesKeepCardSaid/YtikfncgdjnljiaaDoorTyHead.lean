/-
  Package types: whether heads are right.
-/
import Derived.Test.YtikfncgdjnljiaaDoorTyCat
namespace Go.Proofs.YtikfncgdjnljiaaDoor.Ty7
open Go.RowKit Api Syn WordM Mem Sh8 Go.Maps

def big7 : Nat := 17179869184
/-- No row is longer than any machine holds. -/
def LenP (p : Prog) : Prop := p.classes.length ≤ big7 ∧ p.globals.length ≤ big7 ∧ p.externs.length ≤ big7 ∧ p.funcs.length ≤ big7 ∧ (∀ c ∈ p.classes, c.fields.length ≤ big7) ∧ ∀ f ∈ p.funcs, f.params.length ≤ big7 ∧ f.vars.length ≤ big7
/-- Names and types are no longer either. -/
def NamP (p : Prog) : Prop := (∀ c ∈ p.classes, c.name.length ≤ 140737488351232 ∧ ∀ v ∈ c.fields, v.name.length ≤ 140737488351232 ∧ v.type.length ≤ 140737488351232) ∧ (∀ v ∈ p.globals, v.name.length ≤ 140737488351232 ∧ v.type.length ≤ 140737488351232) ∧ (∀ e ∈ p.externs, e.name.length ≤ 140737488351232) ∧ ∀ f ∈ p.funcs, (f.name.length ≤ 140737488351232 ∧ f.result.length ≤ 140737488351232) ∧ (∀ v ∈ f.params, v.name.length ≤ 140737488351232 ∧ v.type.length ≤ 140737488351232) ∧ ∀ v ∈ f.vars, v.name.length ≤ 140737488351232 ∧ v.type.length ≤ 140737488351232
theorem five7 {w : World} {b : Nat} {t : TypeId} {c0 c1 c2 c3 c4 : Value} (o : Own w b t [c0, c1, c2, c3, c4]) : w.cell? ⟨b, 0, none⟩ = some c0 ∧ w.cell? ⟨b, 1, none⟩ = some c1 ∧ w.cell? ⟨b, 2, none⟩ = some c2 ∧ w.cell? ⟨b, 3, none⟩ = some c3 ∧ w.cell? ⟨b, 4, none⟩ = some c4 :=
  ⟨(o.cell 0).trans rfl, (o.cell 1).trans rfl, (o.cell 2).trans rfl, (o.cell 3).trans rfl, (o.cell 4).trans rfl⟩
theorem addr7 {α : Type} {lo hi size : Nat} {w : World} {A : Option Addr} {n cap : Nat} {P : List Value → α → Prop} {l : List α} (h : Row lo hi w size P (.slice A n cap) l) (h0 : 0 < n) : ∃ b off, A = some ⟨b, off, none⟩ := by
  obtain ⟨b, off, _, _, ha, _⟩ := h.get
  exact ⟨b, off, (ha h0).1⟩
theorem item7 {α : Type} {lo hi size : Nat} {w w' : World} {b off n cap i : Nat} {P : List Value → α → Prop} {l : List α} {x : α} (h : Row lo hi w size P (.slice (some ⟨b, off, none⟩) n cap) l) (hx : l[i]? = some x) (hb : Below hi w w') : ∃ cs, cs.length = size ∧ P cs x ∧ ∀ j u, cs[j]? = some u → w'.cell? ⟨b, off + i * size + j, none⟩ = some u := by
  obtain ⟨b', off', hn, hm, ha, hc⟩ := h.get
  have hi := (List.getElem?_eq_some_iff.1 hx).1
  obtain ⟨e, h1, h2⟩ := ha (by omega)
  simp only [Option.some.injEq, Addr.mk.injEq, and_true] at e
  obtain ⟨rfl, rfl⟩ := e
  obtain ⟨cs, c1, c2, c3⟩ := hc i x hx
  exact ⟨cs, c1, c3, cells_later c2 hb h2⟩
theorem class_cells {lo hi : Nat} {w w' : World} {b off n cap i : Nat} {l : List Class} {nm : Wd} {fl : List Var} (h : Classes lo hi w (.slice (some ⟨b, off, none⟩) n cap) l) (hx : l[i]? = some ⟨nm, fl⟩) (hb : Below hi w w') : ∃ u, w'.cell? ⟨b, off + i * 2, none⟩ = some (str nm) ∧ w'.cell? ⟨b, off + i * 2 + 1, none⟩ = some u ∧ Vars lo hi w u fl := by
  obtain ⟨cs, _, hp, hc⟩ := item7 h hx hb
  obtain ⟨u, rfl, hu⟩ := hp
  exact ⟨u, hc 0 _ rfl, hc 1 _ rfl, hu⟩
theorem func_cells {lo hi : Nat} {w w' : World} {b off n cap i : Nat} {l : List Api.Func} {nm rs : Wd} {ps vs : List Var} {bl : List Api.Block} (h : Funcs lo hi w (.slice (some ⟨b, off, none⟩) n cap) l) (hx : l[i]? = some ⟨nm, rs, ps, vs, bl⟩) (hb : Below hi w w') : ∃ u1 u2 u3, w'.cell? ⟨b, off + i * 5, none⟩ = some (str nm) ∧ w'.cell? ⟨b, off + i * 5 + 1, none⟩ = some (str rs) ∧ w'.cell? ⟨b, off + i * 5 + 2, none⟩ = some u1 ∧ w'.cell? ⟨b, off + i * 5 + 3, none⟩ = some u2 ∧ w'.cell? ⟨b, off + i * 5 + 4, none⟩ = some u3 ∧ Vars lo hi w u1 ps ∧ Vars lo hi w u2 vs ∧ ∃ B k, u3 = .slice B bl.length k := by
  obtain ⟨cs, _, hp, hc⟩ := item7 h hx hb
  obtain ⟨u1, u2, u3, rfl, h1, h2, h3⟩ := hp
  exact ⟨u1, u2, u3, hc 0 _ rfl, hc 1 _ rfl, hc 2 _ rfl, hc 3 _ rfl, hc 4 _ rfl, h1, h2, h3.form⟩
set_option maxRecDepth 100000 in
set_option maxHeartbeats 16000000 in
theorem heads_any (lo hi : Nat) (w : World) (cs : List Value) (q : Prog) (hq : ProgC lo hi w cs q) (hh : hi ≤ w.heap.size) (hL : LenP q) (hN : NamP q) :
    Calls Tryd.prog 30 #[.agg cs.toArray] w fun e w' => e = .returned (.bool (headsT q)) ∧ Below w.heap.size w w' := by
  obtain ⟨u1, u2, u3, u4, rfl, k1, k2, k3, k4⟩ := hq
  obtain ⟨B1, c1, rfl⟩ := k1.form
  obtain ⟨B2, c2, rfl⟩ := k2.form
  obtain ⟨B3, c3, rfl⟩ := k3.form
  obtain ⟨B4, c4, rfl⟩ := k4.form
  obtain ⟨W, hW⟩ : ∃ W, w.alloc (.cells #[.bool q.ssa, .slice B1 q.classes.length c1, .slice B2 q.globals.length c2, .slice B3 q.externs.length c3, .slice B4 q.funcs.length c4] 27) = W := ⟨_, rfl⟩
  have hO : Own W w.heap.size 27 [.bool q.ssa, .slice B1 q.classes.length c1, .slice B2 q.globals.length c2, .slice B3 q.externs.length c3, .slice B4 q.funcs.length c4] := by rw [← hW]; exact Own.made w _ _
  have hb : Below w.heap.size w W := by rw [← hW]; exact (Below.refl _ _).alloc (Nat.le_refl _) _
  obtain ⟨l1, l2, l3, l4, l5, l6⟩ := hL
  unfold big7 at l1 l2 l3 l4
  obtain ⟨m1, m2, m3, m4⟩ := hN
  have HB := Lib.hid hb
  have HO := Lib.hid hO
  have HW := Lib.hid hW
  have K1 := Lib.hid k1
  have K2 := Lib.hid k2
  have K3 := Lib.hid k3
  have K4 := Lib.hid k4
  have L5 := Lib.hid l5
  have L6 := Lib.hid l6
  have M1 := Lib.hid m1
  have M2 := Lib.hid m2
  have M3 := Lib.hid m3
  have M4 := Lib.hid m4
  have Q1 := Lib.hid fun (w' : World) (hb' : Below w.heap.size w w') => unlikeClass_any lo hi w' _ q.classes (Classes.move (Still.of_below (hb'.mono hh)) k1) (Nat.le_trans hh hb'.size) (by omega) (fun x hx => (m1 x hx).1)
  have Q3 := Lib.hid fun (w' : World) (hb' : Below w.heap.size w w') => unlikeExtern_any lo hi w' _ q.externs (Externs.move (Still.of_below (hb'.mono hh)) k3) (Nat.le_trans hh hb'.size) (by omega) (fun x hx => m3 x hx)
  have Q4 := Lib.hid fun (w' : World) (hb' : Below w.heap.size w w') => unlikeFunc_any lo hi w' _ q.funcs (Funcs.move (Still.of_below (hb'.mono hh)) k4) (Nat.le_trans hh hb'.size) (by omega) (fun x hx => (m4 x hx).1.1)
  have QN := Lib.hid fun (w' : World) (hb' : Below w.heap.size w w') => namesClass_any lo hi w' _ q.classes (Classes.move (Still.of_below (hb'.mono hh)) k1) (Nat.le_trans hh hb'.size) (by omega) (fun x hx => (m1 x hx).1)
  have hres : headsT q = headsT q := rfl
  unfold headsT
  obtain ⟨x1, hx1⟩ : ∃ x, unlikeT (q.classes.map fun x => x.name) = x := ⟨_, rfl⟩
  obtain ⟨x2, hx2⟩ : ∃ x, unlikeT (q.externs.map fun x => x.name) = x := ⟨_, rfl⟩
  obtain ⟨x3, hx3⟩ : ∃ x, unlikeT (q.funcs.map fun x => x.name) = x := ⟨_, rfl⟩
  rw [hx1, hx2, hx3]
  rw [hx1] at Q1
  rw [hx2] at Q3
  rw [hx3] at Q4
  obtain ⟨y1, hy1⟩ : ∃ y, (q.classes.all fun c => declT (q.classes.map fun x => x.name) c.fields) = y := ⟨_, rfl⟩
  obtain ⟨y2, hy2⟩ : ∃ y, (q.funcs.all fun f => isT (q.classes.map fun x => x.name) f.result && declT (q.classes.map fun x => x.name) (f.params ++ f.vars)) = y := ⟨_, rfl⟩
  obtain ⟨y3, hy3⟩ : ∃ y, declT (q.classes.map fun x => x.name) q.globals = y := ⟨_, rfl⟩
  rw [hy1, hy2, hy3]
  have Y1 := Lib.hid hy1
  have Y2 := Lib.hid hy2
  have Y3 := Lib.hid hy3
  clear hW hO hb k1 k2 k3 k4 l5 l6 m1 m2 m3 m4 hx1 hx2 hx3 hy1 hy2 hy3 hres
  go_enter Tryd.func30, Tryd.ntmps30
  go_wp2_with fail
  rw [HW.out]
  refine (Q1.out W HB.out).mono ?_
  rintro e w1 ⟨rfl, hb1⟩
  have HO1 := Lib.hid (HO.out.below hb1 HO.out.lt)
  have HB1 := Lib.hid (HB.out.trans (hb1.mono HB.out.size))
  obtain ⟨a0, a1, a2, a3, a4⟩ := five7 HO1.out
  clear hb1
  cases x1 with
  | false =>
    go_wp2_with fail
    go_ret
    exact ⟨by simp, HB1.out⟩
  | true =>
    go_wp2_with fail
    refine (Q3.out w1 HB1.out).mono ?_
    rintro e w2 ⟨rfl, hb2⟩
    have HO2 := Lib.hid (HO1.out.below hb2 HO1.out.lt)
    have HB2 := Lib.hid (HB1.out.trans (hb2.mono HB1.out.size))
    clear a0 a1 a2 a3 a4
    obtain ⟨a0, a1, a2, a3, a4⟩ := five7 HO2.out
    clear hb2
    cases x2 with
    | false =>
      go_wp2_with fail
      go_ret
      exact ⟨by simp, HB2.out⟩
    | true =>
      go_wp2_with fail
      refine (Q4.out w2 HB2.out).mono ?_
      rintro e w3 ⟨rfl, hb3⟩
      have HO3 := Lib.hid (HO2.out.below hb3 HO2.out.lt)
      have HB3 := Lib.hid (HB2.out.trans (hb3.mono HB2.out.size))
      clear a0 a1 a2 a3 a4
      obtain ⟨a0, a1, a2, a3, a4⟩ := five7 HO3.out
      clear hb3
      cases x3 with
      | false =>
        go_wp2_with fail
        go_ret
        exact ⟨by simp, HB3.out⟩
      | true =>
        go_wp2_with fail
        refine (QN.out w3 HB3.out).mono ?_
        rintro e w4 ⟨g, rfl, hg1, hg2, hown, hb4⟩
        have HO4 := Lib.hid (HO3.out.below hb4 HO3.out.lt)
        have HB4 := Lib.hid (HB3.out.trans (hb4.mono HB3.out.size))
        clear a0 a1 a2 a3 a4
        obtain ⟨a0, a1, a2, a3, a4⟩ := five7 HO4.out
        have HM := Lib.hid hown
        obtain ⟨cn, hcn⟩ : ∃ cn, (q.classes.map fun x => x.name) = cn := ⟨_, rfl⟩
        rw [hcn] at HM Y1 Y2 Y3
        have HMb := Lib.hid fun (wr : World) (h : Below w4.heap.size w4 wr) => names_below HM.out h hg2
        have HOb := Lib.hid fun (wr : World) (h : Below w4.heap.size w4 wr) => five7 (HO4.out.below h HO4.out.lt)
        have HBb := Lib.hid fun (wr : World) (h : Below w4.heap.size w4 wr) => HB4.out.trans (h.mono HB4.out.size)
        clear hb4 hown hcn
        go_wp2_with fail
        go_loopw [30] (fun i wr => ∃ k : Nat, k ≤ q.classes.length ∧ i = .int .i64 k ∧ Hid ((q.classes.take k).all (fun c => declT cn c.fields) = true) ∧ Hid (Below w4.heap.size w4 wr)) (fun i _ => q.classes.length - (intOf i).toNat)
        case atStart => exact ⟨0, Nat.zero_le _, rfl, Lib.hid (by simp), Lib.hid (Below.refl _ _)⟩
        case round =>
        obtain ⟨k, hk, rfl, HK, HBr⟩ := hrel
        clear a0 a1 a2 a3 a4
        by_cases hlt : k < q.classes.length
        · obtain ⟨⟨nm, fl⟩, hx⟩ : ∃ x, q.classes[k]? = some x := ⟨_, List.getElem?_eq_getElem hlt⟩
          obtain ⟨b1, o1, rfl⟩ := addr7 K1.out (by omega)
          obtain ⟨u, n0, n1, hu⟩ := class_cells K1.out hx ((HBb.out wr HBr.out).mono hh)
          obtain ⟨C1, k1, rfl⟩ := hu.form
          have hmx := (M1.out _ (List.mem_of_getElem? hx)).2
          have hlx := L5.out _ (List.mem_of_getElem? hx)
          unfold big7 at hlx
          simp only at hlx
          have HBX := Lib.hid (HBr.out.alloc HBr.out.size (.cells #[str nm, .slice C1 fl.length k1] 36))
          have QD := Lib.hid (declare_any lo hi (wr.alloc (.cells #[str nm, .slice C1 fl.length k1] 36)) g cn.length cn (HMb.out _ HBX.out) _ fl (Vars.move (Still.of_below ((HBb.out _ HBX.out).mono hh)) hu) (Nat.le_trans hh (HBb.out _ HBX.out).size) (by omega) hmx)
          have hx2 : (q.classes.take (k + 1)).all (fun c => declT cn c.fields) = ((q.classes.take k).all (fun c => declT cn c.fields) && declT cn fl) := by
            obtain ⟨h1, h2⟩ := List.getElem?_eq_some_iff.1 hx
            rw [List.take_succ_eq_append_getElem h1, h2, List.all_append]
            simp
          have hbad : declT cn fl = false → y1 = false := fun h => by
            rw [← Y1.out, ← Bool.not_eq_true, List.all_eq_true]
            intro hall
            have := hall _ (List.mem_of_getElem? hx)
            simp only [h] at this
            cases this
          rw [HK.out, Bool.true_and] at hx2
          obtain ⟨tb, htb⟩ : ∃ tb, declT cn fl = tb := ⟨_, rfl⟩
          rw [htb] at QD hx2 hbad
          have HX2 := Lib.hid hx2
          have HBAD := Lib.hid hbad
          clear hx hx2 hbad htb hmx hlx hu
          go_wp2_with fail
          refine QD.out.mono ?_
          rintro e w5 ⟨rfl, hb5⟩
          have HB5 := Lib.hid (HBX.out.trans (hb5.mono HBX.out.size))
          clear hb5
          cases tb with
          | false =>
            obtain rfl := HBAD.out (by first | rfl | trivial)
            go_wp2_with fail
            go_ret
            exact ⟨by simp, HBb.out _ HB5.out⟩
          | true =>
            go_wp2_with fail
            go_roundw
            case rel => exact ⟨k + 1, by omega, by go_num, HX2, HB5⟩
            case measure => simp [intOf]; omega
        · have hall : q.classes.take k = q.classes := List.take_of_length_le (by omega)
          have hk9 := HK.out
          rw [hall, Y1.out] at hk9
          subst hk9
          clear hall
          obtain ⟨a0, a1, a2, a3, a4⟩ := HOb.out wr HBr.out
          go_wp2_with fail
          go_loopw [43] (fun i wr => ∃ k : Nat, k ≤ q.funcs.length ∧ i = .int .i64 k ∧ Hid ((q.funcs.take k).all (fun f => isT cn f.result && declT cn (f.params ++ f.vars)) = true) ∧ Hid (Below w4.heap.size w4 wr)) (fun i _ => q.funcs.length - (intOf i).toNat)
          case atStart => exact ⟨0, Nat.zero_le _, rfl, Lib.hid (by simp), HBr⟩
          case round =>
          obtain ⟨k, hk, rfl, HK, HBr⟩ := hrel
          clear a0 a1 a2 a3 a4
          by_cases hlt : k < q.funcs.length
          · obtain ⟨⟨nm, rs, ps, vs, bl⟩, hx⟩ : ∃ x, q.funcs[k]? = some x := ⟨_, List.getElem?_eq_getElem hlt⟩
            obtain ⟨b1, o1, rfl⟩ := addr7 K4.out (by omega)
            obtain ⟨v1, v2, v3, n0, n1, n2, n3, n4, hu1, hu2, D3, d3, rfl⟩ := func_cells K4.out hx ((HBb.out wr HBr.out).mono hh)
            obtain ⟨D1, d1, rfl⟩ := hu1.form
            obtain ⟨D2, d2, rfl⟩ := hu2.form
            have hmx := M4.out _ (List.mem_of_getElem? hx)
            have hlx := L6.out _ (List.mem_of_getElem? hx)
            unfold big7 at hlx
            simp only at hlx hmx
            obtain ⟨hlx1, hlx2⟩ := hlx
            have HMX := Lib.hid hmx
            obtain ⟨WX, hWX⟩ : ∃ W, wr.alloc (.cells #[str nm, str rs, .slice D1 ps.length d1, .slice D2 vs.length d2, .slice D3 bl.length d3] 30) = W := ⟨_, rfl⟩
            have HBX := Lib.hid (show Below w4.heap.size w4 WX by rw [← hWX]; exact HBr.out.alloc HBr.out.size _)
            have HOX := Lib.hid (show Own WX wr.heap.size 30 [str nm, str rs, .slice D1 ps.length d1, .slice D2 vs.length d2, .slice D3 bl.length d3] by rw [← hWX]; exact Own.made wr _ _)
            have HWX := Lib.hid hWX
            have QT := Lib.hid (isType_any WX g cn.length cn (HMb.out _ HBX.out) rs hmx.1.2)
            have hx2 : (q.funcs.take (k + 1)).all (fun f => isT cn f.result && declT cn (f.params ++ f.vars)) = ((q.funcs.take k).all (fun f => isT cn f.result && declT cn (f.params ++ f.vars)) && (isT cn rs && declT cn (ps ++ vs))) := by
              obtain ⟨h1, h2⟩ := List.getElem?_eq_some_iff.1 hx
              rw [List.take_succ_eq_append_getElem h1, h2, List.all_append]
              simp
            have hbad : (isT cn rs && declT cn (ps ++ vs)) = false → y2 = false := fun h => by
              rw [← Y2.out, ← Bool.not_eq_true, List.all_eq_true]
              intro hall
              have := hall _ (List.mem_of_getElem? hx)
              simp only [h] at this
              cases this
            rw [HK.out, Bool.true_and] at hx2
            obtain ⟨t1, ht1⟩ : ∃ tb, isT cn rs = tb := ⟨_, rfl⟩
            obtain ⟨t2, ht2⟩ : ∃ tb, declT cn (ps ++ vs) = tb := ⟨_, rfl⟩
            rw [ht1] at QT
            rw [ht1, ht2] at hx2 hbad
            have HX2 := Lib.hid hx2
            have HBAD := Lib.hid hbad
            have HT2 := Lib.hid ht2
            have HU1 := Lib.hid hu1
            have HU2 := Lib.hid hu2
            clear hx hx2 hbad ht1 ht2 hmx hu1 hu2 hWX
            go_wp2_with fail
            rw [HWX.out]
            refine QT.out.mono ?_
            rintro e w5 ⟨rfl, hb5⟩
            have HB5 := Lib.hid (HBX.out.trans (hb5.mono HBX.out.size))
            have HO5 := Lib.hid (HOX.out.below hb5 HOX.out.lt)
            obtain ⟨f0, f1, f2, f3, f4⟩ := five7 HO5.out
            clear hb5
            cases t1 with
            | false =>
              have hy := HBAD.out (by first | rfl | trivial)
              subst hy
              go_wp2_with fail
              go_ret
              exact ⟨by simp, HBb.out _ HB5.out⟩
            | true =>
              obtain ⟨W6, hW6⟩ : ∃ W, w5.alloc (.cells #[.slice D1 ps.length d1, .slice D2 vs.length d2] 23) = W := ⟨_, rfl⟩
              have HB6 := Lib.hid (show Below w4.heap.size w4 W6 by rw [← hW6]; exact HB5.out.alloc HB5.out.size _)
              have HO6 := Lib.hid (show Own W6 w5.heap.size 23 [.slice D1 ps.length d1, .slice D2 vs.length d2] by rw [← hW6]; exact Own.made w5 _ _)
              have HW6 := Lib.hid hW6
              have QC := Lib.hid (cat_any lo hi W6 w5.heap.size _ _ ps vs (Vars.move (Still.of_below ((HBb.out _ HB6.out).mono hh)) HU1.out) (Vars.move (Still.of_below ((HBb.out _ HB6.out).mono hh)) HU2.out) HO6.out (Nat.le_trans hh (HBb.out _ HB6.out).size) hlx1 hlx2)
              clear hW6
              go_wp2_with fail
              rw [HW6.out]
              refine QC.out.mono ?_
              rintro e w7 ⟨vc, rfl, hv, hb7⟩
              have HB7 := Lib.hid (HB6.out.trans (hb7.mono HB6.out.size))
              have QD := Lib.hid (declare_any _ _ w7 g cn.length cn (HMb.out _ HB7.out) vc (ps ++ vs) hv (Nat.le_refl _) (by rw [List.length_append]; omega) (fun x hx => by
                rcases List.mem_append.1 hx with hx | hx
                · exact HMX.out.2.1 x hx
                · exact HMX.out.2.2 x hx))
              rw [HT2.out] at QD
              clear hv hb7
              go_wp2_with fail
              refine QD.out.mono ?_
              rintro e w8 ⟨rfl, hb8⟩
              have HB8 := Lib.hid (HB7.out.trans (hb8.mono HB7.out.size))
              clear hb8
              cases t2 with
              | false =>
                have hy := HBAD.out (by first | rfl | trivial)
                subst hy
                go_wp2_with fail
                go_ret
                exact ⟨by simp, HBb.out _ HB8.out⟩
              | true =>
                go_wp2_with fail
                go_roundw
                case rel => exact ⟨k + 1, by omega, by go_num, HX2, HB8⟩
                case measure => simp [intOf]; omega
          · have hall : q.funcs.take k = q.funcs := List.take_of_length_le (by omega)
            have hk9 := HK.out
            rw [hall, Y2.out] at hk9
            subst hk9
            clear hall
            obtain ⟨a0, a1, a2, a3, a4⟩ := HOb.out wr HBr.out
            have QD := Lib.hid (declare_any lo hi wr g cn.length cn (HMb.out _ HBr.out) _ q.globals (Vars.move (Still.of_below ((HBb.out _ HBr.out).mono hh)) K2.out) (Nat.le_trans hh (HBb.out _ HBr.out).size) (by omega) M2.out)
            rw [Y3.out] at QD
            go_wp2_with fail
            refine QD.out.mono ?_
            rintro e w5 ⟨rfl, hb5⟩
            have HB5 := Lib.hid (HBr.out.trans (hb5.mono HBr.out.size))
            clear hb5
            go_wp2_with fail
            go_ret
            exact ⟨by simp, HBb.out _ HB5.out⟩
end Go.Proofs.YtikfncgdjnljiaaDoor.Ty7
