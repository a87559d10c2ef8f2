/-
  Layer 15: New and Store.
-/
import Derived.Test.YtclikfeaodfmkaaHpNew
import Derived.IntWalk
namespace Go.Proofs.Ytclikfeaodfmkaa.Hp15
open Go.RowKit Api Mem

def NewRP (H : Hp) (x : Ob) (w : World) (e : Ending) (w' : World) : Prop := ∃ v, e = .returned (.tuple #[v, vlA ⟨wRef, (H.length : Int) + 1⟩]) ∧ HOwn w' w.heap.size v (H ++ [x]) ∧ Below w.heap.size w w'
/-- what is written, and whether it is. -/
def SetP (H : Hp) (o : Vl) (at_ : Int) (v : Vl) (H' : Hp) (ok : Bool) : Prop := (ok = true ∧ HasF H o at_ ∧ ∃ x, H[plH o]? = some x ∧ H' = H.set (plH o) ⟨x.cls, x.vals.set at_.toNat v⟩) ∨ (ok = false ∧ ¬ HasF H o at_ ∧ H' = H)
def StoreRP (H : Hp) (o : Vl) (at_ : Int) (v : Vl) (w : World) (e : Ending) (w' : World) : Prop := ∃ u ok H', e = .returned (.tuple #[u, .bool ok]) ∧ SetP H o at_ v H' ok ∧ HOwn w' w.heap.size u H' ∧ Below w.heap.size w w'
set_option maxRecDepth 100000 in
set_option maxHeartbeats 8000000 in
theorem new_any (lo hi : Nat) (w : World) (v u : Value) (H : Hp) (cls : Wd) (l : List Vl) (hv : Obs lo hi w v H) (hu : Vls lo hi w u l) (hh : hi ≤ w.heap.size) (hG : hpG H) (hL : LenH H) (hx : obG ⟨cls, l⟩) (hl : l.length ≤ 1099511627776) :
    Calls Try.prog 7 #[v, str cls, u] w (NewRP H ⟨cls, l⟩ w) := by
  obtain ⟨A1, k1, rfl⟩ := Row.form hv
  obtain ⟨A2, k2, rfl⟩ := Row.form hu
  obtain ⟨io, hi1, hi2, hi3, hi4⟩ := info_parts info_obj
  have HII : Hid (Try.prog.info? 33 = some io ∧ io.zero = some (.agg #[str [], .slice none 0 0]) ∧ io.size = 2 ∧ io.bytes = 40) := Lib.hid ⟨hi1, hi2, hi3, hi4⟩
  obtain ⟨W, hW⟩ : ∃ W, w.alloc (.cells #[str [], i64 0] 25) = W := ⟨_, rfl⟩
  have HBW := Lib.hid (show Below w.heap.size w W from hW ▸ up15 w _)
  have HR := Lib.hid (show Mem.Own W w.heap.size 25 [str [], i64 0] from hW ▸ Own.made w _ _)
  have HW := Lib.hid hW
  have HV := Lib.hid hv
  have HU := Lib.hid hu
  have HGG := Lib.hid hG
  have HLL := Lib.hid hL
  have HX := Lib.hid hx
  have HL := Lib.hid hl
  have hla := row_len hv
  have hla2 := row_len hu
  clear hv hu hW hG hL hx hl hi1 hi2 hi3 hi4
  go_enter Try.func7, Try.ntmps7
  go_wp2_with fail
  rw [show ({ data := #[] } : ByteArray) = ⟨([] : Wd).toArray⟩ from rfl, HW.out]
  refine (anew_any lo hi W _ H (Obs.move (Still.of_below (HBW.out.mono hh)) HV.out) (Nat.le_trans hh HBW.out.size) HGG.out HLL.out).mono ?_
  rintro e w1 ⟨v1, rfl, ho1, hb1⟩
  obtain ⟨Av, cv, rfl⟩ := ho1.form
  have HO1 := Lib.hid ho1
  have HB1 := Lib.hid (HBW.out.trans (hb1.mono HBW.out.size))
  have HR1 := Lib.hid (box2 HR.out hb1).1
  have HWL := Lib.hid hb1.size
  clear ho1 hb1
  go_wp2_with fail
  refine (anewObject_any lo hi w1 _ ⟨cls, l⟩ (Vls.move (Still.of_below (HB1.out.mono hh)) HU.out) (Nat.le_trans hh HB1.out.size) HX.out HL.out).mono ?_
  rintro e w3 ⟨u3, rfl, hu3, hb3⟩
  obtain ⟨Au, cu, rfl⟩ := hu3.form
  have HB3 := Lib.hid (HB1.out.trans (hb3.mono HB1.out.size))
  have HB13 := Lib.hid hb3
  obtain ⟨us, hus, hap⟩ := HO1.out
  have HUS := Lib.hid hus
  have HAJ := Lib.hid ((hap.join (R2 := [inV (.slice Au l.length cu) l]) hb3 ⟨fun r hr => by rw [List.mem_singleton] at hr; subst hr; exact hu3, by cases e : (Value.slice Au l.length cu).ownBlock <;> simp [e]⟩ HWL.out).perm (List.Perm.swap _ _ _))
  have HR3 := Lib.hid (box2 HR1.out hb3).1
  clear hap hus hu3 hb3
  have hw3 : W.heap.size ≤ w3.heap.size := Nat.le_trans HWL.out HB13.out.size
  go_wp2_with (at_builtin; go_loud (skip; refine Hold.wpList_grow (R := inV (.slice Au l.length cu) l :: inns us H) rfl _ _ 22 rfl W.heap.size (outO (.slice Av H.length cv) us H) io _ 40 Try.underlying22 HII.out.1 HII.out.2.1 HII.out.2.2.1 HII.out.2.2.2 rfl (Nat.succ_pos 1) rfl HAJ.out [str cls, .slice Au l.length cu] w3.heap.size rfl rfl rfl (by intro z hz; simp at hz; rcases hz with rfl | rfl <;> rfl) (by show H.length + 1 ≤ _; have := HLL.out.1; omega) (by show (H.length + 1) * 40 ≤ _; have := HLL.out.1; omega) hw3 ?_; intro v8 w8 hA8 hB8; have HO8 := Lib.hid (HOwn.snoc (x := ⟨cls, l⟩) HUS.out hA8); have HB8 := Lib.hid hB8; have hr8 := (box2 (HR3.out.below hB8 HR.out.lt) (Below.refl _ _)); obtain ⟨_, r0, r1, t0, t1, tl⟩ := hr8; obtain ⟨A8, c8, e8⟩ := HO8.out.form; rw [List.length_append, List.length_singleton] at e8; subst e8; clear hA8 hB8))
  exact bodyPost_ret (v := .tuple #[.slice A8 (H.length + 1) c8, vlA ⟨wRef, (H.length : Int) + 1⟩]) (by rw [results_tc15 rfl]; go_simp) rfl ⟨_, rfl, ((HO8.out.aside ⟨w.heap.size, 0, none⟩ HR.out.lt _).aside ⟨w.heap.size, 1, none⟩ HR.out.lt _).lower HBW.out.size, ((HB3.out.trans (HB8.out.mono HBW.out.size)).setCell (p := ⟨w.heap.size, 0, none⟩) (Nat.le_refl _) _).setCell (p := ⟨w.heap.size, 1, none⟩) (Nat.le_refl _) _⟩
set_option maxRecDepth 100000 in
set_option maxHeartbeats 8000000 in
theorem store_any (lo hi : Nat) (w : World) (v : Value) (H : Hp) (o : Vl) (at_ : Int) (y : Vl) (hv : Obs lo hi w v H) (hh : hi ≤ w.heap.size) (hG : hpG H) (hL : LenH H) (hy : vlG y) :
    Calls Try.prog 8 #[v, vlA o, i64 at_, vlA y] w (StoreRP H o at_ y w) := by
  obtain ⟨A1, k1, rfl⟩ := Row.form hv
  obtain ⟨W, hW⟩ : ∃ W, (w.alloc (.cells #[str o.ty, i64 o.n] 25)).alloc (.cells #[str y.ty, i64 y.n] 25) = W := ⟨_, rfl⟩
  have HBW := Lib.hid (show Below w.heap.size w W from hW ▸ (up15 w _).trans ((up15 _ _).mono (by simp)))
  have HO := Lib.hid (show Mem.Own W w.heap.size 25 [str o.ty, i64 o.n] from hW ▸ (Own.made w _ _).alloc _)
  have HR := Lib.hid (show Mem.Own W (w.heap.size + 1) 25 [str y.ty, i64 y.n] from hW ▸ (show w.heap.size + 1 = (w.alloc (.cells #[str o.ty, i64 o.n] 25)).heap.size by simp) ▸ Own.made _ _ _)
  have HW := Lib.hid hW
  have HV := Lib.hid hv
  have HGG := Lib.hid hG
  have HLL := Lib.hid hL
  have HY := Lib.hid hy
  have hla := row_len hv
  clear hv hW hG hL hy
  go_enter Try.func8, Try.ntmps8
  go_wp2_with fail
  rw [HW.out]
  refine (anew_any lo hi W _ H (Obs.move (Still.of_below (HBW.out.mono hh)) HV.out) (Nat.le_trans hh HBW.out.size) HGG.out HLL.out).mono ?_
  rintro e w1 ⟨v1, rfl, ho1, hb1⟩
  obtain ⟨Av, cv, rfl⟩ := ho1.form
  have HO1 := Lib.hid ho1
  have HB1 := Lib.hid (HBW.out.trans (hb1.mono HBW.out.size))
  have HWL := Lib.hid hb1.size
  obtain ⟨hr1, r0, r1, _, _, _⟩ := box2 HR.out hb1
  obtain ⟨hp1, p0, p1, _, _, _⟩ := box2 HO.out hb1
  have HR1 := Lib.hid hr1
  have HP1 := Lib.hid hp1
  clear ho1 hb1 hr1 hp1
  have QF := Lib.hid (hasField_any lo hi w1 _ H (Obs.move (Still.of_below (HB1.out.mono hh)) HV.out) (Nat.le_trans hh HB1.out.size) o at_)
  by_cases hf : HasF H o at_
  · have HF := Lib.hid hf
    obtain ⟨hl, h2, z, hz, h3⟩ := hf
    obtain ⟨k, x, rfl, hx, hpl⟩ := leads_nat hl
    rw [show plH ⟨wRef, (k : Int) + 1⟩ = k from hpl, hx] at hz
    obtain rfl := Option.some.inj hz
    obtain ⟨j, rfl⟩ : ∃ j : Nat, at_ = (j : Int) := ⟨at_.toNat, by omega⟩
    have hjl : j < x.vals.length := by omega
    have hkl := (List.getElem?_eq_some_iff.1 hx).1
    have HS := Lib.hid (show SetP H ⟨wRef, (k : Int) + 1⟩ j y (H.set k ⟨x.cls, x.vals.set j y⟩) true from .inl ⟨rfl, HF.out, x, by rw [show plH ⟨wRef, (k : Int) + 1⟩ = k from hpl]; exact hx, by rw [show plH ⟨wRef, (k : Int) + 1⟩ = k from hpl]; simp⟩)
    have HX := Lib.hid hx
    clear hl hpl hx h2 h3
    go_wp2_with fail
    refine (yesH QF.out HF.out).mono ?_
    rintro e w2 ⟨rfl, hb2⟩
    have HB2 := Lib.hid (HB1.out.trans (hb2.mono HB1.out.size))
    have HO2 := Lib.hid (HO1.out.below hb2)
    have HWL2 := Lib.hid (Nat.le_trans HWL.out hb2.size)
    obtain ⟨hr1, r20, r21, _, _, _⟩ := box2 HR1.out hb2
    obtain ⟨hp1, p20, p21, _, _, _⟩ := box2 HP1.out hb2
    have HR2 := Lib.hid hr1
    have HP2 := Lib.hid hp1
    obtain ⟨g, c, b, kk, e3, h1, h2, h2g, mc, hkk, ⟨y0, f0⟩, ⟨y1, f1⟩, f2, f3, f4⟩ := HO2.out.write HX.out hjl
    injection e3 with e4 e5 e6
    subst e4
    subst e6
    have hd : Below w2.heap.size w2 w2.drew := (Below.refl _ _).drew
    have QV := Lib.hid (anewVal_any w2.drew y HY.out)
    have HF4 := Lib.hid f4
    have HH1 := Lib.hid (Nat.le_trans HBW.out.size h1)
    have HD := Lib.hid hd
    have ek : IntKind.i64.wrap (k : Int) = (k : Int) := IntWalk.i64_in _ ⟨by omega, by omega⟩
    clear hb2 hr1 hp1 f4 hd e5 h1
    go_wp2_with fail
    go_region_law (go_simp; go_at_call 19; (with_reducible refine QV.out.mono ?_); rintro e w3 ⟨rfl, hb⟩; have hb9 := HD.out.trans hb; obtain ⟨_, s20, s21, _, _, _⟩ := box2 HR2.out hb9; obtain ⟨_, t20, t21, _, _, _⟩ := box2 HP2.out hb9; have nc := (hb9.cell (p := ⟨g, k * 2 + 1, none⟩) h2g).trans mc; have n0 := (hb9.cell (p := ⟨b, j * 2, none⟩) h2).trans f0; have n1 := (hb9.cell (p := ⟨b, j * 2 + 1, none⟩) h2).trans f1; have n2 := (hb9.frozen (p := ⟨b, j * 2, none⟩) h2).trans f2; have n3 := (hb9.frozen (p := ⟨b, j * 2 + 1, none⟩) h2).trans f3; have n4 := Nat.lt_of_lt_of_le h2 hb9.size; have n5 := Nat.lt_of_lt_of_le h2g hb9.size; have HB9 := Lib.hid hb9; clear hb hb9)
    all_goals
      go_wp2_with fail
      go_ret2
      exact ⟨_, true, _, rfl, HS.out, (HF4.out w3 y HB9.out).lower HBW.out.size, ((HB2.out.trans (HB9.out.mono HB2.out.size)).setCell (p := ⟨b, j * 2, none⟩) HH1.out _).setCell (p := ⟨b, j * 2 + 1, none⟩) HH1.out _⟩
  · have HF := Lib.hid hf
    have HS := Lib.hid (show SetP H o at_ y H false from .inr ⟨rfl, hf, rfl⟩)
    clear hf
    go_wp2_with fail
    refine (notH QF.out HF.out).mono ?_
    rintro e w2 ⟨rfl, hb2⟩
    have HB2 := Lib.hid (HB1.out.trans (hb2.mono HB1.out.size))
    have HO2 := Lib.hid (HO1.out.below hb2)
    clear hb2
    go_wp2_with fail
    go_ret2
    exact ⟨_, false, H, rfl, HS.out, HO2.out.lower HBW.out.size, HB2.out⟩
end Go.Proofs.Ytclikfeaodfmkaa.Hp15
