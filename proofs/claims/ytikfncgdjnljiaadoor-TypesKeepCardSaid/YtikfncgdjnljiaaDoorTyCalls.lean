/-
  Package types: what an argument's type is, and whether types fit.
-/
import Derived.Test.YtikfncgdjnljiaaDoorTyFind
namespace Go.Proofs.YtikfncgdjnljiaaDoor.Ty7
open Go.RowKit Api Syn WordM Mem

theorem str_list (x : Wd) : (⟨x.toArray⟩ : ByteArray).toList = x := by rw [ByteArray.toList_eq]
theorem list_str (s : ByteArray) : (str s.toList : Value) = .string s := by rw [ByteArray.toList_eq]
theorem isNumber_any (w : World) (s : ByteArray) (d : Bool) (h : numT s.toList = d) : Calls Tryd.prog 54 #[.string s] w fun e w' => e = .returned (.bool d) ∧ w = w' := by
  obtain ⟨x, hx⟩ : ∃ x, (s.toList == [105, 110, 116]) = x := ⟨_, rfl⟩
  obtain ⟨y, hy⟩ : ∃ x, (s.toList == [102, 108, 111, 97, 116]) = x := ⟨_, rfl⟩
  have hd : (x || y) = d := by rw [← h, ← hx, ← hy]; rfl
  have HD := Lib.hid hd
  clear h hd
  cases x <;> cases y
  all_goals
    obtain rfl := HD.out
    clear HD
    go_enter Tryd.func54, Tryd.ntmps54
    go_wp2_with fail
    go_ret
    exact ⟨rfl, rfl⟩
theorem fits_any (w : World) (s t : ByteArray) (d : Bool) (h : fitsT s.toList t.toList = d) : Calls Tryd.prog 24 #[.string s, .string t] w fun e w' => e = .returned (.bool d) ∧ w = w' := by
  obtain ⟨x, hx⟩ : ∃ x, (s.toList == t.toList) = x := ⟨_, rfl⟩
  obtain ⟨y, hy⟩ : ∃ x, (s.toList == [110, 117, 108, 108]) = x := ⟨_, rfl⟩
  obtain ⟨z, hz⟩ : ∃ x, numT t.toList = x := ⟨_, rfl⟩
  have hd : (x || (y && !z)) = d := by rw [← h, ← hx, ← hy, ← hz]; rfl
  have HD := Lib.hid hd
  have QN := Lib.hid fun w' => isNumber_any w' t z hz
  clear h hd hz
  cases x <;> cases y <;> cases z
  all_goals
    obtain rfl := HD.out
    clear HD
    go_enter Tryd.func24, Tryd.ntmps24
    go_wp2_with (refine (QN.out _).mono ?_; rintro e w5 ⟨rfl, rfl⟩)
    go_ret
    exact ⟨rfl, rfl⟩
theorem two_in {w w1 : World} {B b : Nat} {v0 v1 : Value} (h : Below B w w1) (hb : B ≤ b) : Below B w ((w1.setCell ⟨b, 0, none⟩ v0).setCell ⟨b, 1, none⟩ v1) :=
  (h.setCell (p := ⟨b, 0, none⟩) hb _).setCell (p := ⟨b, 1, none⟩) hb _
/-- A variable that is found, or zeros. -/
abbrev VarP (w : World) (r : Option Var) : Ending → World → Prop := FoundP w (fun _ cs x => cs = varC x) [str [], str []] r
theorem VarP.some {w w' : World} {v : Var} {e : Ending} (h : VarP w (some v) e w') : e = .returned (.tuple #[.agg #[str v.name, str v.type], .bool true]) ∧ Below w.heap.size w w' := by
  obtain ⟨hb, cs, he, rfl⟩ := h
  exact ⟨he, hb⟩
theorem VarP.none {w w' : World} {e : Ending} (h : VarP w none e w') : e = .returned (.tuple #[.agg #[str [], str []], .bool false]) ∧ Below w.heap.size w w' := ⟨h.2, h.1⟩
set_option maxRecDepth 100000 in
set_option maxHeartbeats 8000000 in
theorem variable_any (lo hi : Nat) (w : World) (cs : List Value) (f : Api.Func) (hf : FuncC lo hi w cs f) (hh : hi ≤ w.heap.size) (nq : Wd) (sq : ByteArray) (hsq : sq.data.toList = nq) :
    Calls Tryd.prog 57 #[.agg cs.toArray, .string sq] w (VarP w (varOf f nq)) := by
  obtain ⟨u1, u2, u3, rfl, ka, kf, ko⟩ := hf
  obtain ⟨nm, rs, ps, vs, bl⟩ := f
  simp only at ka kf ko ⊢
  obtain ⟨B1, c1, rfl⟩ := ka.form
  obtain ⟨B2, c2, rfl⟩ := kf.form
  obtain ⟨B3, c3, rfl⟩ := ko.form
  show Calls Tryd.prog 57 #[.agg #[str nm, str rs, .slice B1 ps.length c1, .slice B2 vs.length c2, .slice B3 bl.length c3], .string sq] w _
  obtain ⟨r1, hr1⟩ : ∃ r, (ps.find? fun x => x.name == nq) = r := ⟨_, rfl⟩
  obtain ⟨r2, hr2⟩ : ∃ r, (vs.find? fun x => x.name == nq) = r := ⟨_, rfl⟩
  have hv : varOf ⟨nm, rs, ps, vs, bl⟩ nq = r1.or r2 := by unfold varOf varIn; simp only; rw [hr1, hr2]
  rw [hv]
  have Q1 := Lib.hid fun w' (hb : Below w.heap.size w w') => findVar_any lo hi w' _ _ nq sq hsq (Vars.move (Still.of_below (hb.mono hh)) ka) (Nat.le_trans hh hb.size)
  have Q2 := Lib.hid fun w' (hb : Below w.heap.size w w') => findVar_any lo hi w' _ _ nq sq hsq (Vars.move (Still.of_below (hb.mono hh)) kf) (Nat.le_trans hh hb.size)
  rw [hr1] at Q1
  rw [hr2] at Q2
  clear hr1 hr2 hv ka kf ko hsq
  obtain ⟨W, hW⟩ : ∃ W, (w.alloc (.cells #[str nm, str rs, .slice B1 ps.length c1, .slice B2 vs.length c2, .slice B3 bl.length c3] 30)).alloc (.cells #[str [], str []] 40) = W := ⟨_, rfl⟩
  have hO : Own W w.heap.size 30 [str nm, str rs, .slice B1 ps.length c1, .slice B2 vs.length c2, .slice B3 bl.length c3] := by rw [← hW]; exact (Own.made w 30 [str nm, str rs, .slice B1 ps.length c1, .slice B2 vs.length c2, .slice B3 bl.length c3]).alloc _
  have hR : Own W (w.heap.size + 1) 40 [str [], str []] := by
    rw [← hW]
    have := Own.made (w.alloc (.cells #[str nm, str rs, .slice B1 ps.length c1, .slice B2 vs.length c2, .slice B3 bl.length c3] 30)) 40 [str [], str []]
    have e : (w.alloc (.cells #[str nm, str rs, .slice B1 ps.length c1, .slice B2 vs.length c2, .slice B3 bl.length c3] 30)).heap.size = w.heap.size + 1 := by simp
    rw [e] at this
    exact this
  have hb : Below w.heap.size w W := by rw [← hW]; exact ((Below.refl _ _).alloc (Nat.le_refl _) _).alloc (by simp) _
  have hz : W.heap.size = w.heap.size + 2 := by rw [← hW]; simp
  have HO := Lib.hid hO
  have HR := Lib.hid hR
  have HB := Lib.hid hb
  have HZ := Lib.hid hz
  have HW := Lib.hid hW
  clear hO hR hb hz hW
  go_enter Tryd.func57, Tryd.ntmps57
  go_wp2_with fail
  rw [HW.out]
  refine (Q1.out W HB.out).mono ?_
  intro e w5 hP
  cases r1 with
  | some v =>
    obtain ⟨rfl, hb5⟩ := VarP.some hP
    have HB5 := Lib.hid hb5
    have o5 := HR.out.below hb5 HR.out.lt
    have z0 := (o5.cell 0).trans rfl
    have t0 := o5.thaw 0
    have z1 := (o5.cell 1).trans rfl
    have t1 := o5.thaw 1
    have ylt := o5.lt
    have hl5 : w.heap.size < w5.heap.size := by omega
    have hbW : Below w.heap.size w w5 := HB.out.trans (hb5.mono HB.out.size)
    have HBW := Lib.hid hbW
    clear hb5 hP o5 hbW
    go_wp2_with fail
    exact bodyPost_ret (v := .tuple #[.agg #[str v.name, str v.type], .bool true]) (by rw [results_cell_tmp rfl]; go_simp) rfl ⟨(two_in HBW.out (Nat.le_succ _)).alloc (by simp [World.setCell]; omega) _, _, rfl, rfl⟩
  | none =>
    obtain ⟨rfl, hb5⟩ := VarP.none hP
    have HB5 := Lib.hid hb5
    have o5 := HR.out.below hb5 HR.out.lt
    have HR5 := Lib.hid o5
    have f3 := own_hold7 HO.out hb5 HO.out.lt 3 rfl
    have hl5 : w.heap.size < w5.heap.size := by have := o5.lt; omega
    have hbW : Below w.heap.size w w5 := HB.out.trans (hb5.mono HB.out.size)
    have HBW := Lib.hid hbW
    have HX := Lib.hid (hbW.alloc (Nat.le_of_lt hl5) (.cells #[.string ⟨#[]⟩, .string ⟨#[]⟩] 40))
    clear hb5 hP o5 hbW
    go_wp2_with fail
    refine (Q2.out _ HX.out).mono ?_
    intro e w7 hP
    clear f3
    cases r2 with
    | some v =>
      obtain ⟨rfl, hb7⟩ := VarP.some hP
      have o7 := (HR5.out.below (B := w5.heap.size) ((Below.refl _ _).alloc (Nat.le_refl _) _) HR5.out.lt).below hb7 (by simp; have := HR5.out.lt; omega)
      have z0 := (o7.cell 0).trans rfl
      have t0 := o7.thaw 0
      have z1 := (o7.cell 1).trans rfl
      have t1 := o7.thaw 1
      have ylt := o7.lt
      have HBW7 := Lib.hid (HX.out.trans (hb7.mono (by simp; omega)))
      clear hb7 hP o7
      go_wp2_with fail
      exact bodyPost_ret (v := .tuple #[.agg #[str v.name, str v.type], .bool true]) (by rw [results_cell_tmp rfl]; go_simp) rfl ⟨two_in HBW7.out (Nat.le_succ _), _, rfl, rfl⟩
    | none =>
      obtain ⟨rfl, hb7⟩ := VarP.none hP
      have o7 := (HR5.out.below (B := w5.heap.size) ((Below.refl _ _).alloc (Nat.le_refl _) _) HR5.out.lt).below hb7 (by simp; have := HR5.out.lt; omega)
      have z0 := (o7.cell 0).trans rfl
      have t0 := o7.thaw 0
      have z1 := (o7.cell 1).trans rfl
      have t1 := o7.thaw 1
      have ylt := o7.lt
      have HBW7 := Lib.hid (HX.out.trans (hb7.mono (by simp; omega)))
      clear hb7 hP o7
      go_wp2_with fail
      exact bodyPost_ret (v := .tuple #[.agg #[str [], str []], .bool false]) (by rw [results_cell_tmp rfl]; go_simp) rfl ⟨two_in HBW7.out (Nat.le_succ _), rfl⟩
end Go.Proofs.YtikfncgdjnljiaaDoor.Ty7
