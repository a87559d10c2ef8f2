/-
  Layer 15: fields that are found.
-/
import Derived.Test.YtclikfeaodfmkaaHpRead
import Derived.Test.YtclikfeaodfmkaaCallsN
import Derived.Deep.RegionLaw
import Derived.Deep.RegionHeld3
import Derived.StillTailTactics
namespace Go.Proofs.Ytclikfeaodfmkaa.Hp15
open Go.RowKit Api Mem
def HasF (h : Hp) (o : Vl) (at_ : Int) : Prop := LeadsP h o ∧ 0 ≤ at_ ∧ ∃ x, h[plH o]? = some x ∧ at_ < x.vals.length
theorem yesH {P : Program} {f : FuncId} {args : Array Value} {p : Prop} {w w0 : World} (h : Calls P f args w (BPH p w0)) (hp : p) : Calls P f args w fun e w' => e = .returned (.bool true) ∧ Below w0.heap.size w0 w' := h.mono (by
  rintro e w' ⟨b, rfl, hb, hw⟩
  obtain rfl : b = true := hb.2 hp
  exact ⟨rfl, hw⟩)
theorem notH {P : Program} {f : FuncId} {args : Array Value} {p : Prop} {w w0 : World} (h : Calls P f args w (BPH p w0)) (hp : ¬ p) : Calls P f args w fun e w' => e = .returned (.bool false) ∧ Below w0.heap.size w0 w' := h.mono (by
  rintro e w' ⟨b, rfl, hb, hw⟩
  cases b with
  | false => exact ⟨rfl, hw⟩
  | true => exact absurd (hb.1 rfl) hp)
theorem leads_nat {h : Hp} {o : Vl} (hl : LeadsP h o) : ∃ (k : Nat) (x : Ob), o = ⟨wRef, (k : Int) + 1⟩ ∧ h[k]? = some x ∧ plH o = k := by
  obtain ⟨ty, n⟩ := o
  obtain ⟨h1, h2, h3⟩ := hl
  simp only at h1 h2 h3
  have hk : (n - 1).toNat < h.length := by omega
  exact ⟨(n - 1).toNat, _, by rw [h1]; congr 1; omega, List.getElem?_eq_getElem hk, rfl⟩
/-- the field, and whether there is one. -/
def FieldP (h : Hp) (o : Vl) (at_ : Int) (r : Vl) (ok : Bool) : Prop := (ok = true ∧ HasF h o at_ ∧ ∃ x, h[plH o]? = some x ∧ x.vals[at_.toNat]? = some r) ∨ (ok = false ∧ ¬ HasF h o at_ ∧ r = ⟨[], 0⟩)
def LoadP (h : Hp) (o : Vl) (at_ : Int) (w : World) (e : Ending) (w' : World) : Prop := ∃ r ok, e = .returned (.tuple #[vlA r, .bool ok]) ∧ FieldP h o at_ r ok ∧ Below w.heap.size w w'
theorem field_one {h : Hp} {o : Vl} {at_ : Int} {r r2 : Vl} {ok ok2 : Bool} (h1 : FieldP h o at_ r ok) (h2 : FieldP h o at_ r2 ok2) : r = r2 ∧ ok = ok2 := by
  rcases h1 with ⟨rfl, a1, x, a2, a3⟩ | ⟨rfl, a1, rfl⟩ <;> rcases h2 with ⟨rfl, b1, y, b2, b3⟩ | ⟨rfl, b1, rfl⟩
  · rw [a2] at b2
    cases b2
    rw [a3] at b3
    exact ⟨Option.some.inj b3, rfl⟩
  · exact absurd a1 b1
  · exact absurd b1 a1
  · exact ⟨rfl, rfl⟩
theorem pos_cap {α : Type} {lo hi : Nat} {w : World} {A : Option Addr} {n cap : Nat} {P : List Value → α → Prop} {l : List α} (h : Row lo hi w 2 P (.slice A n cap) l) : n ≤ cap := Row.cap h
set_option maxRecDepth 100000 in
set_option maxHeartbeats 8000000 in
theorem hasField_any (lo hi : Nat) (w : World) (v : Value) (h : Hp) (hv : Obs lo hi w v h) (hh : hi ≤ w.heap.size) (o : Vl) (at_ : Int) :
    Calls Try.prog 18 #[v, vlA o, i64 at_] w (BPH (HasF h o at_) w) := by
  obtain ⟨A1, k1, rfl⟩ := Row.form hv
  have hla := row_len hv
  obtain ⟨W, hW⟩ : ∃ W, w.alloc (.cells #[str o.ty, i64 o.n] 25) = W := ⟨_, rfl⟩
  have HBW := Lib.hid (show Below w.heap.size w W from hW ▸ up15 w _)
  have HOW := Lib.hid (show Mem.Own W w.heap.size 25 [str o.ty, i64 o.n] from hW ▸ Own.made w _ _)
  have QL := Lib.hid (leads_any lo hi W _ h (Obs.move (Still.of_below (HBW.out.mono hh)) hv) o)
  have HW := Lib.hid hW
  clear hW
  by_cases hl : LeadsP h o
  · have HL := Lib.hid hl
    obtain ⟨k, x, rfl, hx, hpl⟩ := leads_nat hl
    have hkl := (List.getElem?_eq_some_iff.1 hx).1
    have HHX := Lib.hid hx
    obtain ⟨b1, o1, rfl, _⟩ := addr2 hv (by omega)
    obtain ⟨A2, k2, hvx, hc⟩ := ob_at hv hx
    have HC := Lib.hid hc
    have HX := Lib.hid hvx
    by_cases h2 : 0 ≤ at_
    · by_cases h3 : at_ < x.vals.length
      · have HP := Lib.hid (show HasF h ⟨wRef, (k : Int) + 1⟩ at_ from ⟨hl, h2, x, by rw [hpl]; exact hx, h3⟩)
        clear hv hl hpl hc hx hvx
        go_enter Try.func18, Try.ntmps18
        go_wp2_with fail
        rw [HW.out]
        refine (yesH QL.out HL.out).mono ?_
        rintro e w1 ⟨rfl, hb⟩
        have HB1 := Lib.hid (HBW.out.trans (hb.mono HBW.out.size))
        have m1 := (HC.out w1 (HB1.out.mono hh)).2
        have p0 := (HOW.out.below hb HOW.out.lt).cell 0
        have p1 := (HOW.out.below hb HOW.out.lt).cell 1
        simp only [List.getElem?_cons_succ, List.getElem?_cons_zero] at p0 p1
        clear hb
        go_wp2_with fail
        go_ret
        exact ⟨true, rfl, ⟨fun _ => HP.out, fun _ => rfl⟩, HB1.out⟩
      · have HP := Lib.hid (show ¬ HasF h ⟨wRef, (k : Int) + 1⟩ at_ from fun hf => by
          obtain ⟨_, _, y, hy, hz⟩ := hf
          rw [show plH ⟨wRef, (k : Int) + 1⟩ = k from hpl, hx] at hy
          cases hy
          exact h3 hz)
        have e3 : decide (at_ < (x.vals.length : Int)) = false := decide_eq_false h3
        clear hv hl hpl hc hx hvx
        go_enter Try.func18, Try.ntmps18
        go_wp2_with fail
        rw [HW.out]
        refine (yesH QL.out HL.out).mono ?_
        rintro e w1 ⟨rfl, hb⟩
        have HB1 := Lib.hid (HBW.out.trans (hb.mono HBW.out.size))
        have m1 := (HC.out w1 (HB1.out.mono hh)).2
        have p0 := (HOW.out.below hb HOW.out.lt).cell 0
        have p1 := (HOW.out.below hb HOW.out.lt).cell 1
        simp only [List.getElem?_cons_succ, List.getElem?_cons_zero] at p0 p1
        clear hb
        go_wp2_with fail
        go_ret
        exact ⟨false, rfl, ⟨fun h => (by cases h), fun h => absurd h HP.out⟩, HB1.out⟩
    · have HP := Lib.hid (show ¬ HasF h ⟨wRef, (k : Int) + 1⟩ at_ from fun hf => h2 hf.2.1)
      have e2 : decide (0 ≤ at_) = false := decide_eq_false h2
      clear hv hl hpl hc hx hvx
      go_enter Try.func18, Try.ntmps18
      go_wp2_with fail
      rw [HW.out]
      refine (yesH QL.out HL.out).mono ?_
      rintro e w1 ⟨rfl, hb⟩
      have HB1 := Lib.hid (HBW.out.trans (hb.mono HBW.out.size))
      clear hb
      go_wp2_with fail
      go_ret
      exact ⟨false, rfl, ⟨fun h => (by cases h), fun h => absurd h HP.out⟩, HB1.out⟩
  · have HL := Lib.hid hl
    have HP := Lib.hid (show ¬ HasF h o at_ from fun hf => hl hf.1)
    clear hv hl
    go_enter Try.func18, Try.ntmps18
    go_wp2_with fail
    rw [HW.out]
    refine (notH QL.out HL.out).mono ?_
    rintro e w1 ⟨rfl, hb⟩
    have HB1 := Lib.hid (HBW.out.trans (hb.mono HBW.out.size))
    clear hb
    go_wp2_with fail
    go_ret
    exact ⟨false, rfl, ⟨fun h => (by cases h), fun h => absurd h HP.out⟩, HB1.out⟩
set_option maxRecDepth 100000 in
set_option maxHeartbeats 8000000 in
theorem anewVal_any (w : World) (x : Vl) (hx : vlG x) :
    Calls Try.prog 19 #[vlA x] w fun e w' => e = .returned (vlA x) ∧ Below w.heap.size w w' := by
  obtain ⟨ty, n⟩ := x
  obtain ⟨W, hW⟩ : ∃ W, (w.alloc (.cells #[str ty, i64 n] 25)).alloc (.cells #[str [], i64 0] 25) = W := ⟨_, rfl⟩
  have HBW := Lib.hid (show Below w.heap.size w W from hW ▸ (up15 w _).trans ((up15 _ _).mono (by simp)))
  have HO := Lib.hid (show Mem.Own W w.heap.size 25 [str ty, i64 n] from hW ▸ (Own.made w _ _).alloc _)
  have HR := Lib.hid (show Mem.Own W (w.heap.size + 1) 25 [str [], i64 0] from hW ▸ (show w.heap.size + 1 = (w.alloc (.cells #[str ty, i64 n] 25)).heap.size by simp) ▸ Own.made _ _ _)
  have HC := Lib.hid (clone_any ⟨ty.toArray⟩ W.drew (by have h1 : ty.length ≤ 140737488351232 := hx.1; simp [ByteArray.size]; omega))
  have HW := Lib.hid hW
  have p0 := HO.out.cell 0
  have p1 := HO.out.cell 1
  simp only [List.getElem?_cons_succ, List.getElem?_cons_zero] at p0 p1
  clear hx hW
  go_enter Try.func19, Try.ntmps19
  go_wp2_with fail
  rw [show ({ data := #[] } : ByteArray) = ⟨([] : Wd).toArray⟩ from rfl, HW.out]
  go_region_law (go_simp; go_at_call 23; (with_reducible refine HC.out.mono ?_); rintro e w1 ⟨rfl, hb⟩; obtain ⟨ho1, q0, q1, s0, s1, sl⟩ := box2 HO.out.drew hb; obtain ⟨ho2, r0, r1, t0, t1, tl⟩ := box2 HR.out.drew hb; have HB1 := Lib.hid (HBW.out.drew.trans (hb.mono HBW.out.size)); clear hb)
  all_goals
    go_wp2_with fail
    exact bodyPost_ret (v := vlA ⟨ty, n⟩) (by rw [results_cell15 rfl]; go_simp) rfl ⟨rfl, (HB1.out.setCell (p := ⟨w.heap.size + 1, 0, none⟩) (Nat.le_succ _) _).setCell (p := ⟨w.heap.size + 1, 1, none⟩) (Nat.le_succ _) _⟩
set_option maxRecDepth 100000 in
set_option maxHeartbeats 8000000 in
theorem load_any (lo hi : Nat) (w : World) (v : Value) (h : Hp) (hv : Obs lo hi w v h) (hh : hi ≤ w.heap.size) (hG : hpG h) (o : Vl) (at_ : Int) :
    Calls Try.prog 12 #[v, vlA o, i64 at_] w (LoadP h o at_ w) := by
  obtain ⟨A1, k1, rfl⟩ := Row.form hv
  have hla := row_len hv
  obtain ⟨W, hW⟩ : ∃ W, (w.alloc (.cells #[str o.ty, i64 o.n] 25)).alloc (.cells #[str [], i64 0] 25) = W := ⟨_, rfl⟩
  have HBW := Lib.hid (show Below w.heap.size w W from hW ▸ (up15 w _).trans ((up15 _ _).mono (by simp)))
  have HOW := Lib.hid (show Mem.Own W w.heap.size 25 [str o.ty, i64 o.n] from hW ▸ (Own.made w _ _).alloc _)
  have QL := Lib.hid (hasField_any lo hi W _ h (Obs.move (Still.of_below (HBW.out.mono hh)) hv) (Nat.le_trans hh HBW.out.size) o at_)
  have HR := Lib.hid (show Mem.Own W (w.heap.size + 1) 25 [str [], i64 0] from hW ▸ (show w.heap.size + 1 = (w.alloc (.cells #[str o.ty, i64 o.n] 25)).heap.size by simp) ▸ Own.made _ _ _)
  have HW := Lib.hid hW
  clear hW
  by_cases hf : HasF h o at_
  · have HF := Lib.hid hf
    obtain ⟨hl, h2, y, hy, h3⟩ := hf
    obtain ⟨k, x, rfl, hx, hpl⟩ := leads_nat hl
    rw [show plH ⟨wRef, (k : Int) + 1⟩ = k from hpl, hx] at hy
    obtain rfl := Option.some.inj hy
    obtain ⟨j, rfl⟩ : ∃ j : Nat, at_ = (j : Int) := ⟨at_.toNat, by omega⟩
    have hjl : j < x.vals.length := by omega
    obtain ⟨z, hz⟩ : ∃ z, x.vals[j]? = some z := ⟨_, List.getElem?_eq_getElem hjl⟩
    have hkl := (List.getElem?_eq_some_iff.1 hx).1
    have HP := Lib.hid (show FieldP h ⟨wRef, (k : Int) + 1⟩ j z true from .inl ⟨rfl, HF.out, x, by rw [show plH ⟨wRef, (k : Int) + 1⟩ = k from hpl]; exact hx, by simpa using hz⟩)
    have HZG := Lib.hid ((hG x (List.mem_of_getElem? hx)).2 z (List.mem_of_getElem? hz))
    obtain ⟨b1, o1, rfl, _⟩ := addr2 hv (by omega)
    obtain ⟨A2, k2, hvx, hc⟩ := ob_at hv hx
    have HC := Lib.hid hc
    have HX := Lib.hid hvx
    obtain ⟨b2, o2, rfl, _⟩ := addr2 hvx (by omega)
    have HZ := Lib.hid (fun (w' : World) (hb : Below hi w w') => vl_at hvx hz hb)
    clear hv hl hpl hc hx hvx hz h2 h3
    go_enter Try.func12, Try.ntmps12
    go_wp2_with fail
    rw [show ({ data := #[] } : ByteArray) = ⟨([] : Wd).toArray⟩ from rfl]
    rw [HW.out]
    refine (yesH QL.out HF.out).mono ?_
    rintro e w1 ⟨rfl, hb⟩
    have HB1 := Lib.hid (HBW.out.trans (hb.mono HBW.out.size))
    have m1 := (HC.out w1 (HB1.out.mono hh)).2
    obtain ⟨m2, m3⟩ := HZ.out w1 (HB1.out.mono hh)
    obtain ⟨ho1, q0, q1, s0, s1, sl⟩ := box2 HOW.out hb
    have HO2 := Lib.hid ho1
    obtain ⟨hr1, r0, r1, t0, t1, tl⟩ := box2 HR.out hb
    have HR2 := Lib.hid hr1
    clear hb ho1 hr1
    go_wp2_with fail
    refine (anewVal_any _ z HZG.out).mono ?_
    rintro e w2 ⟨rfl, hb⟩
    have HB2 := Lib.hid (HB1.out.trans (hb.mono HB1.out.size))
    obtain ⟨hr3, r20, r21, t20, t21, tl2⟩ := box2 HR2.out hb
    clear hb hr3
    go_wp2_with fail
    exact bodyPost_ret (v := .tuple #[vlA z, .bool true]) (by rw [results_ct15 rfl]; go_simp) rfl ⟨z, true, rfl, HP.out, (HB2.out.setCell (p := ⟨w.heap.size + 1, 0, none⟩) (Nat.le_succ _) _).setCell (p := ⟨w.heap.size + 1, 1, none⟩) (Nat.le_succ _) _⟩
  · have HF := Lib.hid hf
    have HP := Lib.hid (show FieldP h o at_ ⟨[], 0⟩ false from .inr ⟨rfl, hf, rfl⟩)
    clear hv hf
    go_enter Try.func12, Try.ntmps12
    go_wp2_with fail
    rw [show ({ data := #[] } : ByteArray) = ⟨([] : Wd).toArray⟩ from rfl]
    rw [HW.out]
    refine (notH QL.out HF.out).mono ?_
    rintro e w1 ⟨rfl, hb⟩
    have HB1 := Lib.hid (HBW.out.trans (hb.mono HBW.out.size))
    obtain ⟨hr1, r0, r1, t0, t1, tl⟩ := box2 HR.out hb
    clear hb hr1
    go_wp2_with fail
    exact bodyPost_ret (v := .tuple #[vlA ⟨[], 0⟩, .bool false]) (by rw [results_ct15 rfl]; go_simp) rfl ⟨⟨[], 0⟩, false, rfl, HP.out, (HB1.out.setCell (p := ⟨w.heap.size + 1, 0, none⟩) (Nat.le_succ _) _).setCell (p := ⟨w.heap.size + 1, 1, none⟩) (Nat.le_succ _) _⟩
set_option maxRecDepth 100000 in
set_option maxHeartbeats 8000000 in
theorem rload_any (lo hi : Nat) (w : World) (v : Value) (h : Hp) (hv : Obs lo hi w v h) (hh : hi ≤ w.heap.size) (o : Vl) (at_ : Int) :
    Calls Try.prog 15 #[v, vlA o, i64 at_] w (LoadP h o at_ w) := by
  obtain ⟨A1, k1, rfl⟩ := Row.form hv
  have hla := row_len hv
  obtain ⟨W, hW⟩ : ∃ W, (w.alloc (.cells #[str o.ty, i64 o.n] 25)).alloc (.cells #[str [], i64 0] 25) = W := ⟨_, rfl⟩
  have HBW := Lib.hid (show Below w.heap.size w W from hW ▸ (up15 w _).trans ((up15 _ _).mono (by simp)))
  have HOW := Lib.hid (show Mem.Own W w.heap.size 25 [str o.ty, i64 o.n] from hW ▸ (Own.made w _ _).alloc _)
  have QL := Lib.hid (rleads_any lo hi W _ h (Obs.move (Still.of_below (HBW.out.mono hh)) hv) o)
  have HR := Lib.hid (show Mem.Own W (w.heap.size + 1) 25 [str [], i64 0] from hW ▸ (show w.heap.size + 1 = (w.alloc (.cells #[str o.ty, i64 o.n] 25)).heap.size by simp) ▸ Own.made _ _ _)
  have HW := Lib.hid hW
  clear hW
  by_cases hl : LeadsP h o
  · have HL := Lib.hid hl
    obtain ⟨k, x, rfl, hx, hpl⟩ := leads_nat hl
    have HPL := Lib.hid hpl
    have HHX := Lib.hid hx
    have hkl := (List.getElem?_eq_some_iff.1 hx).1
    obtain ⟨b1, o1, rfl, _⟩ := addr2 hv (by omega)
    obtain ⟨A2, k2, hvx, hc⟩ := ob_at hv hx
    have HC := Lib.hid hc
    have HX := Lib.hid hvx
    clear hv hl hpl hc hx
    by_cases h2 : 0 ≤ at_
    · obtain ⟨j, rfl⟩ : ∃ j : Nat, at_ = (j : Int) := ⟨at_.toNat, by omega⟩
      have e2 : decide ((j : Int) < 0) = false := decide_eq_false (by omega)
      by_cases hjl : j < x.vals.length
      · obtain ⟨z, hz⟩ : ∃ z, x.vals[j]? = some z := ⟨_, List.getElem?_eq_getElem hjl⟩
        have HP := Lib.hid (show FieldP h ⟨wRef, (k : Int) + 1⟩ j z true from .inl ⟨rfl, ⟨HL.out, by simp, x, by rw [HPL.out]; exact HHX.out, by omega⟩, x, by rw [HPL.out]; exact HHX.out, by simpa using hz⟩)
        obtain ⟨b2, o2, rfl, _⟩ := addr2 hvx (by omega)
        have HZ := Lib.hid (fun (w' : World) (hb : Below hi w w') => vl_at hvx hz hb)
        have e3 : decide (x.vals.length ≤ j) = false := decide_eq_false (by omega)
        clear hvx hz h2
        go_enter Try.func15, Try.ntmps15
        go_wp2_with fail
        rw [show ({ data := #[] } : ByteArray) = ⟨([] : Wd).toArray⟩ from rfl]
        rw [HW.out]
        refine (yesH QL.out HL.out).mono ?_
        rintro e w1 ⟨rfl, hb⟩
        have HB1 := Lib.hid (HBW.out.trans (hb.mono HBW.out.size))
        have m1 := (HC.out w1 (HB1.out.mono hh)).2
        obtain ⟨m2, m3⟩ := HZ.out w1 (HB1.out.mono hh)
        obtain ⟨ho1, q0, q1, s0, s1, sl⟩ := box2 HOW.out hb
        obtain ⟨hr1, r0, r1, t0, t1, tl⟩ := box2 HR.out hb
        clear hb ho1 hr1
        go_wp2_with fail
        exact bodyPost_ret (v := .tuple #[vlA z, .bool true]) (by rw [results_ct15 rfl]; go_simp) rfl ⟨z, true, rfl, HP.out, (HB1.out.setCell (p := ⟨w.heap.size + 1, 0, none⟩) (Nat.le_succ _) _).setCell (p := ⟨w.heap.size + 1, 1, none⟩) (Nat.le_succ _) _⟩
      · have HNF := Lib.hid (show ¬ HasF h ⟨wRef, (k : Int) + 1⟩ j from fun hf => by
          obtain ⟨_, _, y, hy, hz⟩ := hf
          rw [HPL.out, HHX.out] at hy
          obtain rfl := Option.some.inj hy
          omega)
        have HP := Lib.hid (show FieldP h ⟨wRef, (k : Int) + 1⟩ j ⟨[], 0⟩ false from .inr ⟨rfl, HNF.out, rfl⟩)
        have e3 : decide (x.vals.length ≤ j) = true := decide_eq_true (by omega)
        clear hvx h2
        go_enter Try.func15, Try.ntmps15
        go_wp2_with fail
        rw [show ({ data := #[] } : ByteArray) = ⟨([] : Wd).toArray⟩ from rfl]
        rw [HW.out]
        refine (yesH QL.out HL.out).mono ?_
        rintro e w1 ⟨rfl, hb⟩
        have HB1 := Lib.hid (HBW.out.trans (hb.mono HBW.out.size))
        have m1 := (HC.out w1 (HB1.out.mono hh)).2
        obtain ⟨ho1, q0, q1, s0, s1, sl⟩ := box2 HOW.out hb
        obtain ⟨hr1, r0, r1, t0, t1, tl⟩ := box2 HR.out hb
        clear hb ho1 hr1
        go_wp2_with fail
        exact bodyPost_ret (v := .tuple #[vlA ⟨[], 0⟩, .bool false]) (by rw [results_ct15 rfl]; go_simp) rfl ⟨⟨[], 0⟩, false, rfl, HP.out, (HB1.out.setCell (p := ⟨w.heap.size + 1, 0, none⟩) (Nat.le_succ _) _).setCell (p := ⟨w.heap.size + 1, 1, none⟩) (Nat.le_succ _) _⟩
    · have HP := Lib.hid (show FieldP h ⟨wRef, (k : Int) + 1⟩ at_ ⟨[], 0⟩ false from .inr ⟨rfl, fun hf => h2 hf.2.1, rfl⟩)
      have e2 : decide (at_ < 0) = true := decide_eq_true (by omega)
      clear hvx h2
      go_enter Try.func15, Try.ntmps15
      go_wp2_with fail
      rw [show ({ data := #[] } : ByteArray) = ⟨([] : Wd).toArray⟩ from rfl]
      rw [HW.out]
      refine (yesH QL.out HL.out).mono ?_
      rintro e w1 ⟨rfl, hb⟩
      have HB1 := Lib.hid (HBW.out.trans (hb.mono HBW.out.size))
      obtain ⟨ho1, q0, q1, s0, s1, sl⟩ := box2 HOW.out hb
      obtain ⟨hr1, r0, r1, t0, t1, tl⟩ := box2 HR.out hb
      clear hb ho1 hr1
      go_wp2_with fail
      exact bodyPost_ret (v := .tuple #[vlA ⟨[], 0⟩, .bool false]) (by rw [results_ct15 rfl]; go_simp) rfl ⟨⟨[], 0⟩, false, rfl, HP.out, (HB1.out.setCell (p := ⟨w.heap.size + 1, 0, none⟩) (Nat.le_succ _) _).setCell (p := ⟨w.heap.size + 1, 1, none⟩) (Nat.le_succ _) _⟩
  · have HL := Lib.hid hl
    have HP := Lib.hid (show FieldP h o at_ ⟨[], 0⟩ false from .inr ⟨rfl, fun hf => hl hf.1, rfl⟩)
    clear hv hl
    go_enter Try.func15, Try.ntmps15
    go_wp2_with fail
    rw [show ({ data := #[] } : ByteArray) = ⟨([] : Wd).toArray⟩ from rfl]
    rw [HW.out]
    refine (notH QL.out HL.out).mono ?_
    rintro e w1 ⟨rfl, hb⟩
    have HB1 := Lib.hid (HBW.out.trans (hb.mono HBW.out.size))
    obtain ⟨ho1, q0, q1, s0, s1, sl⟩ := box2 HOW.out hb
    obtain ⟨hr1, r0, r1, t0, t1, tl⟩ := box2 HR.out hb
    clear hb ho1 hr1
    go_wp2_with fail
    exact bodyPost_ret (v := .tuple #[vlA ⟨[], 0⟩, .bool false]) (by rw [results_ct15 rfl]; go_simp) rfl ⟨⟨[], 0⟩, false, rfl, HP.out, (HB1.out.setCell (p := ⟨w.heap.size + 1, 0, none⟩) (Nat.le_succ _) _).setCell (p := ⟨w.heap.size + 1, 1, none⟩) (Nat.le_succ _) _⟩
set_option maxRecDepth 100000 in
set_option maxHeartbeats 8000000 in
theorem few_any (lo hi : Nat) (w : World) (v : Value) (g : Hp) (hg : Obs lo hi w v g) (hh : hi ≤ w.heap.size) :
    Calls Try.prog 5 #[v] w (TPH (FewH g) w) := by
  obtain ⟨A1, k1, rfl⟩ := Row.form hg
  have hla := row_len hg
  have HG := Lib.hid hg
  clear hg
  by_cases hm : g.length ≤ 100
  · have e0 : decide ((100 : Int) < (g.length : Int)) = false := decide_eq_false (by omega)
    go_enter Try.func5, Try.ntmps5
    go_wp2_with fail
    go_loopw [3] (fun i wr => ∃ k : Nat, k ≤ g.length ∧ i = .int .i64 k ∧ Hid (∀ l ∈ g.take k, l.vals.length ≤ 20) ∧ Hid (Below w.heap.size w wr)) (fun i _ => g.length - (intOf i).toNat)
    case atStart => exact ⟨0, Nat.zero_le _, rfl, Lib.hid (fun l hl => by simp at hl), Lib.hid (Below.refl _ _)⟩
    case round =>
    obtain ⟨k, hk, rfl, HK, HBr⟩ := hrel
    by_cases hlt : k < g.length
    · obtain ⟨x, hx⟩ : ∃ x, g[k]? = some x := ⟨_, List.getElem?_eq_getElem hlt⟩
      obtain ⟨b1, o1, rfl, _⟩ := addr2 HG.out (by omega)
      obtain ⟨A3, k3, _, hc⟩ := ob_at HG.out hx
      have m1 := (hc wr (HBr.out.mono hh)).2
      have HX := Lib.hid hx
      clear hx hc
      by_cases h2 : x.vals.length ≤ 20
      · have e2 : decide ((20 : Int) < (x.vals.length : Int)) = false := decide_eq_false (by omega)
        have H2 := Lib.hid h2
        clear h2
        go_wp2_with fail
        go_roundw
        case rel => exact ⟨k + 1, by omega, by go_num, Lib.hid (few_take HX.out HK.out H2.out), HBr⟩
        case measure => simp [intOf]; omega
      · have e2 : decide ((20 : Int) < (x.vals.length : Int)) = true := decide_eq_true (by omega)
        clear h2
        go_wp2_with fail
        go_ret
        exact ⟨false, rfl, fun h => (by cases h), HBr.out⟩
    · have HF := Lib.hid (show FewH g from ⟨hm, by have := HK.out; rwa [List.take_of_length_le (by omega)] at this⟩)
      go_wp2_with fail
      go_ret
      exact ⟨true, rfl, fun _ => HF.out, HBr.out⟩
  · have e0 : decide ((100 : Int) < (g.length : Int)) = true := decide_eq_true (by omega)
    clear hm
    go_enter Try.func5, Try.ntmps5
    go_wp2_with fail
    go_ret
    exact ⟨false, rfl, fun h => (by cases h), Below.refl _ _⟩
set_option maxRecDepth 100000 in
set_option maxHeartbeats 8000000 in
theorem sameVals_any (lo hi : Nat) (w : World) (va vb : Value) (a b : List Vl) (ha : Vls lo hi w va a) (hb : Vls lo hi w vb b) (hh : hi ≤ w.heap.size) :
    Calls Try.prog 10 #[va, vb] w (BPH (a = b) w) := by
  obtain ⟨A1, k1, rfl⟩ := Row.form ha
  obtain ⟨A2, k2, rfl⟩ := Row.form hb
  have hla := row_len ha
  have HA := Lib.hid ha
  have HB := Lib.hid hb
  clear ha hb
  by_cases hl : a.length = b.length
  · have e0 : ((a.length : Int) != (b.length : Int)) = false := by rw [hl]; simp
    have HL := Lib.hid hl
    clear hl
    go_enter Try.func10, Try.ntmps10
    go_wp2_with fail
    go_loopw [5] (fun i wr => ∃ k : Nat, k ≤ a.length ∧ i = .int .i64 k ∧ Hid (a.take k = b.take k) ∧ Hid (Below w.heap.size w wr)) (fun i _ => a.length - (intOf i).toNat)
    case atStart => exact ⟨0, Nat.zero_le _, rfl, Lib.hid (by simp), Lib.hid (Below.refl _ _)⟩
    case round =>
    obtain ⟨k, hk, rfl, HK, HBr⟩ := hrel
    by_cases hlt : k < a.length
    · have hlb : k < b.length := by have := HL.out; omega
      obtain ⟨x, hx⟩ : ∃ x, a[k]? = some x := ⟨_, List.getElem?_eq_getElem hlt⟩
      obtain ⟨y, hy⟩ : ∃ y, b[k]? = some y := ⟨_, List.getElem?_eq_getElem hlb⟩
      obtain ⟨b1, o1, rfl, _⟩ := addr2 HA.out (by omega)
      obtain ⟨b2, o2, rfl, _⟩ := addr2 HB.out (by omega)
      obtain ⟨m1, m2⟩ := vl_at HA.out hx (HBr.out.mono hh)
      obtain ⟨m3, m4⟩ := vl_at HB.out hy (HBr.out.mono hh)
      have HX := Lib.hid hx
      have HY := Lib.hid hy
      clear hx hy
      obtain ⟨tx, nx⟩ := x
      obtain ⟨ty, ny⟩ := y
      by_cases h1 : tx = ty
      · subst h1
        by_cases h2 : nx = ny
        · subst h2
          go_wp2_with fail
          go_region
          go_wp2_with fail
          go_roundw
          case rel => exact ⟨k + 1, by omega, by go_num, Lib.hid (take_one HK.out HX.out HY.out rfl), Lib.hid HBr.out.drew⟩
          case measure => simp [intOf]; omega
        · have HE := Lib.hid h2
          go_wp2_with fail
          go_region
          go_wp2_with fail
          go_ret
          exact ⟨false, rfl, ⟨fun h => (by cases h), fun h => absurd h (un_at HX.out HY.out (fun e => by injection e with _ e; exact HE.out e))⟩, HBr.out.drew⟩
      · have HE := Lib.hid h1
        go_wp2_with fail
        go_region
        go_wp2_with fail
        go_ret
        exact ⟨false, rfl, ⟨fun h => (by cases h), fun h => absurd h (un_at HX.out HY.out (fun e => by injection e with e _; exact HE.out e))⟩, HBr.out.drew⟩
    · have HF := Lib.hid (show a = b by
        have := HK.out
        have h2 := HL.out
        rwa [List.take_of_length_le (by omega), List.take_of_length_le (by omega)] at this)
      go_wp2_with fail
      go_ret
      exact ⟨true, rfl, ⟨fun _ => HF.out, fun _ => rfl⟩, HBr.out⟩
  · have e0 : ((a.length : Int) == (b.length : Int)) = false := by simp; omega
    have e1 : ¬ ((a.length : Int) = (b.length : Int)) := by omega
    have HL := Lib.hid hl
    clear hl
    go_enter Try.func10, Try.ntmps10
    go_wp2_with fail
    go_ret
    exact ⟨false, rfl, ⟨fun h => (by cases h), fun h => absurd (by rw [h]) HL.out⟩, Below.refl _ _⟩
end Go.Proofs.Ytclikfeaodfmkaa.Hp15
