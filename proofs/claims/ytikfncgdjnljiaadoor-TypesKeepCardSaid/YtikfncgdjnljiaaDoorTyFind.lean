/-
  Package types: find, of each type.
-/
import Derived.Test.YtikfncgdjnljiaaDoorProg
import Derived.Test.YtikfncgdjnljiaaDoorMem
import Derived.Test.YtikfncgdjnljiaaDoorTyP
import Derived.Lib.Hide
import Derived.Lib.Walk
namespace Go.Proofs.YtikfncgdjnljiaaDoor.Ty7
open Go.RowKit Api Syn WordM Mem

theorem boxed7 {w W : World} {t : TypeId} {c : List Value} (h : w.alloc (.cells c.toArray t) = W) : Own W w.heap.size t c ∧ Below w.heap.size w W ∧ W.heap.size = w.heap.size + 1 := by
  subst h
  exact ⟨Own.made w t c, (Below.refl _ _).alloc (Nat.le_refl _) _, by simp⟩
theorem enters7 {P : Program} {f : FuncId} {fn : Func} {c : Code} (hf : P.funcs[f]? = some fn) (hname : (fn.name == "runtime.NumGoroutine") = false) (hb : fn.body = some c) (args : Array Value) (w : World) :
    (callFunc f args).run P w = .ok (.enter f args) w := by
  have h1 : fn.name ≠ "runtime.NumGoroutine" := by simpa using hname
  simp [callFunc, go_sem, hf, h1, hb]
theorem own_hold7 {w w' : World} {g B : Nat} {t : TypeId} {cs : List Value} (o : Own w g t cs) (hb : Below B w w') (hg : g < B) (i : Nat) {u : Value} (h : cs[i]? = some u) : w'.cell? ⟨g, i, none⟩ = some u := ((o.below hb hg).cell i).trans h
abbrev fv (f : Nat) : Value := .func (.func f) #[] #[]
/-- What is found: a thing and true, or zeros and false. -/
def FoundP {α : Type} (w : World) (E : World → List Value → α → Prop) (z : List Value) (r : Option α) (e : Ending) (w' : World) : Prop :=
  Below w.heap.size w w' ∧ match r with
    | some x => ∃ cs, e = .returned (.tuple #[.agg cs.toArray, .bool true]) ∧ E w' cs x
    | none => e = .returned (.tuple #[.agg z.toArray, .bool false])
theorem two_below7 {w w1 : World} {b : Nat} {v0 v1 : Value} (h : Below b w w1) : Below b w ((w1.setCell ⟨b, 0, none⟩ v0).setCell ⟨b, 1, none⟩ v1) :=
  (h.setCell (p := ⟨b, 0, none⟩) (Nat.le_refl _) _).setCell (p := ⟨b, 1, none⟩) (Nat.le_refl _) _
theorem five_below7 {w w1 : World} {b : Nat} {v0 v1 v2 v3 v4 : Value} (h : Below b w w1) : Below b w (((((w1.setCell ⟨b, 0, none⟩ v0).setCell ⟨b, 1, none⟩ v1).setCell ⟨b, 2, none⟩ v2).setCell ⟨b, 3, none⟩ v3).setCell ⟨b, 4, none⟩ v4) :=
  ((((h.setCell (p := ⟨b, 0, none⟩) (Nat.le_refl _) _).setCell (p := ⟨b, 1, none⟩) (Nat.le_refl _) _).setCell (p := ⟨b, 2, none⟩) (Nat.le_refl _) _).setCell (p := ⟨b, 3, none⟩) (Nat.le_refl _) _).setCell (p := ⟨b, 4, none⟩) (Nat.le_refl _) _
theorem find_at {α : Type} {f : α → Bool} {l : List α} {k : Nat} {x : α} (hx : l[k]? = some x) (h : f x = true) (hk : ∀ y ∈ l.take k, f y = false) : l.find? f = some x := by
  induction l generalizing k with
  | nil => simp at hx
  | cons a l ih =>
    cases k with
    | zero => simp at hx; subst hx; simp [h]
    | succ k =>
      have ha : f a = false := hk a (by simp)
      rw [List.find?_cons_of_neg (by simp [ha])]
      exact ih (by simpa using hx) fun y hy => hk y (by simp [hy])
theorem find_no {α : Type} {f : α → Bool} {l : List α} (h : ∀ y ∈ l, f y = false) : l.find? f = none := List.find?_eq_none.2 fun x hx => by simp [h x hx]
theorem none_next {α : Type} {f : α → Bool} {l : List α} {k : Nat} {x : α} (hx : l[k]? = some x) (h : f x = false) (hk : ∀ y ∈ l.take k, f y = false) : ∀ y ∈ l.take (k + 1), f y = false := by
  obtain ⟨hk', e⟩ := List.getElem?_eq_some_iff.1 hx
  intro y hy
  rw [List.take_succ_eq_append_getElem hk', List.mem_append, List.mem_singleton, e] at hy
  rcases hy with hy | rfl
  · exact hk y hy
  · exact h



set_option maxRecDepth 100000 in
set_option maxHeartbeats 8000000 in
theorem className_any (w : World) (c : List Value) (s : ByteArray) (t : List Value) (hc : c = .string s :: t) (hl : t.length = 1) :
    Calls Tryd.prog 37 #[.agg c.toArray] w fun e w' => e = .returned (.string s) ∧ Below w.heap.size w w' := by
  subst hc
  obtain ⟨u1, rfl⟩ : ∃ u1, t = [u1] := by match t, hl with | [u1], _ => exact ⟨u1, rfl⟩
  go_enter Tryd.func37, Tryd.ntmps37
  go_wp2
  go_ret
  exact ⟨rfl, (Below.refl _ _).alloc (Nat.le_refl _) _⟩
set_option maxRecDepth 100000 in
set_option maxHeartbeats 8000000 in
theorem findClass_any (lo hi : Nat) (w : World) (v : Value) (l : List Class) (nq : Wd) (sq : ByteArray) (hsq : sq.data.toList = nq) (h : Classes lo hi w v l) (hh : hi ≤ w.heap.size) :
    Calls Tryd.prog 36 #[v, .string sq, fv 37] w (FoundP w (fun w cs x => ClassC lo hi w cs x) [str [], .slice none 0 0] (l.find? fun x => x.name == nq)) := by
  obtain ⟨A, n, cap, b, off, rfl, hn, hm2, ha, hc⟩ := h
  have hE := enters7 Tryd.func37 (by kernel_rfl) (show Tryd.f37.body = some _ from rfl)
  have hW0 : Below w.heap.size w (w.alloc (.cells #[str [], .slice none 0 0] 36)) := (Below.refl _ _).alloc (Nat.le_refl _) _
  obtain ⟨r, hr⟩ : ∃ r, (l.find? fun x => x.name == nq) = r := ⟨_, rfl⟩
  rw [hr]
  have HC := Lib.hid hc
  have HA := Lib.hid ha
  have HN := Lib.hid hn
  have HR := Lib.hid hr
  have HQ : Hid (sq.toList = nq) := Lib.hid (by rw [ByteArray.toList_eq, hsq])
  have HW0 := Lib.hid hW0
  have HO0 := Lib.hid (Own.made w 36 [str [], .slice none 0 0])
  clear hc ha hr hn hsq hW0
  go_enter Tryd.func36, Tryd.ntmps36
  go_wp2_with fail
  go_loopw [13] (fun i wr => ∃ k : Nat, k ≤ n ∧ i = .int .i64 k ∧ Hid (∀ y ∈ l.take k, (y.name == nq) = false) ∧ Hid (Below w.heap.size w wr) ∧ Hid (Own wr w.heap.size 36 [str [], .slice none 0 0])) (fun i _ => n - (intOf i).toNat)
  case atStart => exact ⟨0, Nat.zero_le _, rfl, Lib.hid (by simp), HW0, HO0⟩
  case round =>
  obtain ⟨k, hk, rfl, HK, HBr, HO⟩ := hrel
  by_cases hlt : k < n
  · obtain ⟨⟨nm, fl⟩, hx⟩ : ∃ x, l[k]? = some x := ⟨_, List.getElem?_eq_getElem (by have := HN.out; omega)⟩
    obtain ⟨rfl, _, hb1⟩ := HA.out (by omega)
    obtain ⟨cs, _, q1, hu⟩ := HC.out k _ hx
    have hb1 : b < w.heap.size := by omega
    have hu0 := hu
    obtain ⟨y1, rfl, g1⟩ := hu; obtain ⟨B1, k1, rfl⟩ := g1.form
    obtain ⟨n0, n1⟩ := at2 (cells_later q1 HBr.out hb1)
    obtain ⟨sn, hsn⟩ : ∃ s : ByteArray, (str nm : Value) = .string s := ⟨_, rfl⟩
    have hsn2 : sn.toList = nm := by
      have : (⟨nm.toArray⟩ : ByteArray) = sn := by simpa using hsn
      rw [← this, ByteArray.toList_eq]
    have OX := Lib.hid (Own.made wr 36 [str nm, .slice B1 fl.length k1])
    have HX := Lib.hid hx
    have QN := Lib.hid fun w' => className_any w' [str nm, .slice B1 fl.length k1] sn _ (by rw [← hsn]) rfl
    have HS2 := Lib.hid hsn2
    have HU0 := Lib.hid hu0
    have HSN := Lib.hid hsn
    clear hu0 hx q1 hsn
    simp only at n0 n1
    by_cases he : nm = nq
    · have e1 : (sn.toList == sq.toList) = true := by rw [hsn2, HQ.out, he]; simp
      have HE := Lib.hid he
      clear hsn2 he
      have hen := hE
      go_wp2_with fail
      refine (QN.out _).mono ?_
      rintro e w5 ⟨rfl, hb5⟩
      have HB5 := Lib.hid hb5
      have g0 := own_hold7 OX.out hb5 (by simp) 0 rfl
      have g1 := own_hold7 OX.out hb5 (by simp) 1 rfl
      clear hb5
      have hnx := (HO.out.below (B := wr.heap.size) ((Below.refl _ _).alloc (Nat.le_refl _) _) HO.out.lt).below HB5.out (by simp; have := HO.out.lt; omega)
      have z0 := (hnx.cell 0).trans rfl
      have t0 := hnx.thaw 0
      have z1 := (hnx.cell 1).trans rfl
      have t1 := hnx.thaw 1
      have ylt := hnx.lt
      have HBW := Lib.hid (HBr.out.trans ((((Below.refl wr.heap.size wr).alloc (Nat.le_refl _) (.cells #[str nm, .slice B1 fl.length k1] 36)).trans (HB5.out.mono (by simp))).mono HBr.out.size))
      clear hnx hen
      obtain rfl : r = some ⟨nm, fl⟩ := by rw [← HR.out]; exact find_at HX.out (by simpa using HE.out) HK.out
      go_wp2_with fail
      have hfin := two_below7 (v0 := str nm) (v1 := .slice B1 fl.length k1) HBW.out
      exact bodyPost_ret (v := .tuple #[.agg #[str nm, .slice B1 fl.length k1], .bool true]) (by rw [results_cell_tmp rfl]; go_simp) rfl ⟨hfin, _, rfl, ClassC.move (Still.of_below (hfin.mono hh)) HU0.out⟩
    · have e1 : (sn.toList == sq.toList) = false := by rw [hsn2, HQ.out]; simpa using he
      have HE := Lib.hid he
      clear hsn2 he
      have hen := hE
      go_wp2_with fail
      refine (QN.out _).mono ?_
      rintro e w5 ⟨rfl, hb5⟩
      have HB5 := Lib.hid hb5
      clear hb5
      go_wp2_with fail
      go_roundw
      case rel => exact ⟨k + 1, by omega, by go_num, Lib.hid (none_next HX.out (by simpa using HE.out) HK.out), Lib.hid (HBr.out.trans ((((Below.refl wr.heap.size wr).alloc (Nat.le_refl _) _).trans (HB5.out.mono (by simp))).mono HBr.out.size)), Lib.hid ((HO.out.below (B := wr.heap.size) ((Below.refl _ _).alloc (Nat.le_refl _) _) HO.out.lt).below HB5.out (by simp; have := HO.out.lt; omega))⟩
      case measure => simp [intOf]; omega
  · have hkn : l.take k = l := List.take_of_length_le (by have := HN.out; omega)
    have hno : l.find? (fun x => x.name == nq) = none := find_no (by have := HK.out; rwa [hkn] at this)
    obtain rfl : r = none := by rw [← HR.out, hno]
    clear hno hkn
    have hnx := HO.out.below (B := wr.heap.size) ((Below.refl _ _).alloc (Nat.le_refl _) (.cells #[str [], .slice none 0 0] 36)) HO.out.lt
    have z0 := (hnx.cell 0).trans rfl
    have t0 := hnx.thaw 0
    have z1 := (hnx.cell 1).trans rfl
    have t1 := hnx.thaw 1
    have ylt := hnx.lt
    have HBW := Lib.hid (HBr.out.trans (((Below.refl wr.heap.size wr).alloc (Nat.le_refl _) (.cells #[str [], .slice none 0 0] 36)).mono HBr.out.size))
    clear hnx
    go_wp2_with fail
    exact bodyPost_ret (v := .tuple #[.agg #[str [], .slice none 0 0], .bool false]) (by rw [results_cell_tmp rfl]; go_simp) rfl ⟨two_below7 HBW.out, rfl⟩



set_option maxRecDepth 100000 in
set_option maxHeartbeats 8000000 in
theorem varName_any (w : World) (c : List Value) (s : ByteArray) (t : List Value) (hc : c = .string s :: t) (hl : t.length = 1) :
    Calls Tryd.prog 46 #[.agg c.toArray] w fun e w' => e = .returned (.string s) ∧ Below w.heap.size w w' := by
  subst hc
  obtain ⟨u1, rfl⟩ : ∃ u1, t = [u1] := by match t, hl with | [u1], _ => exact ⟨u1, rfl⟩
  go_enter Tryd.func46, Tryd.ntmps46
  go_wp2
  go_ret
  exact ⟨rfl, (Below.refl _ _).alloc (Nat.le_refl _) _⟩
set_option maxRecDepth 100000 in
set_option maxHeartbeats 8000000 in
theorem findVar_any (lo hi : Nat) (w : World) (v : Value) (l : List Var) (nq : Wd) (sq : ByteArray) (hsq : sq.data.toList = nq) (h : Vars lo hi w v l) (hh : hi ≤ w.heap.size) :
    Calls Tryd.prog 45 #[v, .string sq, fv 46] w (FoundP w (fun _ cs x => cs = varC x) [str [], str []] (l.find? fun x => x.name == nq)) := by
  obtain ⟨A, n, cap, b, off, rfl, hn, hm2, ha, hc⟩ := h
  have hE := enters7 Tryd.func46 (by kernel_rfl) (show Tryd.f46.body = some _ from rfl)
  have hW0 : Below w.heap.size w (w.alloc (.cells #[str [], str []] 40)) := (Below.refl _ _).alloc (Nat.le_refl _) _
  obtain ⟨r, hr⟩ : ∃ r, (l.find? fun x => x.name == nq) = r := ⟨_, rfl⟩
  rw [hr]
  have HC := Lib.hid hc
  have HA := Lib.hid ha
  have HN := Lib.hid hn
  have HR := Lib.hid hr
  have HQ : Hid (sq.toList = nq) := Lib.hid (by rw [ByteArray.toList_eq, hsq])
  have HW0 := Lib.hid hW0
  have HO0 := Lib.hid (Own.made w 40 [str [], str []])
  clear hc ha hr hn hsq hW0
  go_enter Tryd.func45, Tryd.ntmps45
  go_wp2_with fail
  go_loopw [13] (fun i wr => ∃ k : Nat, k ≤ n ∧ i = .int .i64 k ∧ Hid (∀ y ∈ l.take k, (y.name == nq) = false) ∧ Hid (Below w.heap.size w wr) ∧ Hid (Own wr w.heap.size 40 [str [], str []])) (fun i _ => n - (intOf i).toNat)
  case atStart => exact ⟨0, Nat.zero_le _, rfl, Lib.hid (by simp), HW0, HO0⟩
  case round =>
  obtain ⟨k, hk, rfl, HK, HBr, HO⟩ := hrel
  by_cases hlt : k < n
  · obtain ⟨⟨nm, ty⟩, hx⟩ : ∃ x, l[k]? = some x := ⟨_, List.getElem?_eq_getElem (by have := HN.out; omega)⟩
    obtain ⟨rfl, _, hb1⟩ := HA.out (by omega)
    obtain ⟨cs, _, q1, hu⟩ := HC.out k _ hx
    have hb1 : b < w.heap.size := by omega
    have hu0 := hu
    subst hu
    obtain ⟨n0, n1⟩ := at2 (cells_later q1 HBr.out hb1)
    obtain ⟨sn, hsn⟩ : ∃ s : ByteArray, (str nm : Value) = .string s := ⟨_, rfl⟩
    have hsn2 : sn.toList = nm := by
      have : (⟨nm.toArray⟩ : ByteArray) = sn := by simpa using hsn
      rw [← this, ByteArray.toList_eq]
    have OX := Lib.hid (Own.made wr 40 [str nm, str ty])
    have HX := Lib.hid hx
    have QN := Lib.hid fun w' => varName_any w' [str nm, str ty] sn _ (by rw [← hsn]) rfl
    have HS2 := Lib.hid hsn2
    have HU0 := Lib.hid hu0
    have HSN := Lib.hid hsn
    clear hu0 hx q1 hsn
    simp only at n0 n1
    by_cases he : nm = nq
    · have e1 : (sn.toList == sq.toList) = true := by rw [hsn2, HQ.out, he]; simp
      have HE := Lib.hid he
      clear hsn2 he
      have hen := hE
      go_wp2_with fail
      refine (QN.out _).mono ?_
      rintro e w5 ⟨rfl, hb5⟩
      have HB5 := Lib.hid hb5
      have g0 := own_hold7 OX.out hb5 (by simp) 0 rfl
      have g1 := own_hold7 OX.out hb5 (by simp) 1 rfl
      clear hb5
      have hnx := (HO.out.below (B := wr.heap.size) ((Below.refl _ _).alloc (Nat.le_refl _) _) HO.out.lt).below HB5.out (by simp; have := HO.out.lt; omega)
      have z0 := (hnx.cell 0).trans rfl
      have t0 := hnx.thaw 0
      have z1 := (hnx.cell 1).trans rfl
      have t1 := hnx.thaw 1
      have ylt := hnx.lt
      have HBW := Lib.hid (HBr.out.trans ((((Below.refl wr.heap.size wr).alloc (Nat.le_refl _) (.cells #[str nm, str ty] 40)).trans (HB5.out.mono (by simp))).mono HBr.out.size))
      clear hnx hen
      obtain rfl : r = some ⟨nm, ty⟩ := by rw [← HR.out]; exact find_at HX.out (by simpa using HE.out) HK.out
      go_wp2_with fail
      have hfin := two_below7 (v0 := str nm) (v1 := str ty) HBW.out
      exact bodyPost_ret (v := .tuple #[.agg #[str nm, str ty], .bool true]) (by rw [results_cell_tmp rfl]; go_simp) rfl ⟨hfin, _, rfl, rfl⟩
    · have e1 : (sn.toList == sq.toList) = false := by rw [hsn2, HQ.out]; simpa using he
      have HE := Lib.hid he
      clear hsn2 he
      have hen := hE
      go_wp2_with fail
      refine (QN.out _).mono ?_
      rintro e w5 ⟨rfl, hb5⟩
      have HB5 := Lib.hid hb5
      clear hb5
      go_wp2_with fail
      go_roundw
      case rel => exact ⟨k + 1, by omega, by go_num, Lib.hid (none_next HX.out (by simpa using HE.out) HK.out), Lib.hid (HBr.out.trans ((((Below.refl wr.heap.size wr).alloc (Nat.le_refl _) _).trans (HB5.out.mono (by simp))).mono HBr.out.size)), Lib.hid ((HO.out.below (B := wr.heap.size) ((Below.refl _ _).alloc (Nat.le_refl _) _) HO.out.lt).below HB5.out (by simp; have := HO.out.lt; omega))⟩
      case measure => simp [intOf]; omega
  · have hkn : l.take k = l := List.take_of_length_le (by have := HN.out; omega)
    have hno : l.find? (fun x => x.name == nq) = none := find_no (by have := HK.out; rwa [hkn] at this)
    obtain rfl : r = none := by rw [← HR.out, hno]
    clear hno hkn
    have hnx := HO.out.below (B := wr.heap.size) ((Below.refl _ _).alloc (Nat.le_refl _) (.cells #[str [], str []] 40)) HO.out.lt
    have z0 := (hnx.cell 0).trans rfl
    have t0 := hnx.thaw 0
    have z1 := (hnx.cell 1).trans rfl
    have t1 := hnx.thaw 1
    have ylt := hnx.lt
    have HBW := Lib.hid (HBr.out.trans (((Below.refl wr.heap.size wr).alloc (Nat.le_refl _) (.cells #[str [], str []] 40)).mono HBr.out.size))
    clear hnx
    go_wp2_with fail
    exact bodyPost_ret (v := .tuple #[.agg #[str [], str []], .bool false]) (by rw [results_cell_tmp rfl]; go_simp) rfl ⟨two_below7 HBW.out, rfl⟩



set_option maxRecDepth 100000 in
set_option maxHeartbeats 8000000 in
theorem externName_any (w : World) (c : List Value) (s : ByteArray) (t : List Value) (hc : c = .string s :: t) (hl : t.length = 1) :
    Calls Tryd.prog 48 #[.agg c.toArray] w fun e w' => e = .returned (.string s) ∧ Below w.heap.size w w' := by
  subst hc
  obtain ⟨u1, rfl⟩ : ∃ u1, t = [u1] := by match t, hl with | [u1], _ => exact ⟨u1, rfl⟩
  go_enter Tryd.func48, Tryd.ntmps48
  go_wp2
  go_ret
  exact ⟨rfl, (Below.refl _ _).alloc (Nat.le_refl _) _⟩
set_option maxRecDepth 100000 in
set_option maxHeartbeats 8000000 in
theorem findExtern_any (lo hi : Nat) (w : World) (v : Value) (l : List Extern) (nq : Wd) (sq : ByteArray) (hsq : sq.data.toList = nq) (h : Externs lo hi w v l) (hh : hi ≤ w.heap.size) :
    Calls Tryd.prog 47 #[v, .string sq, fv 48] w (FoundP w (fun _ cs x => cs = externC x) [str [], i64 0] (l.find? fun x => x.name == nq)) := by
  obtain ⟨A, n, cap, b, off, rfl, hn, hm2, ha, hc⟩ := h
  have hE := enters7 Tryd.func48 (by kernel_rfl) (show Tryd.f48.body = some _ from rfl)
  have hW0 : Below w.heap.size w (w.alloc (.cells #[str [], i64 0] 47)) := (Below.refl _ _).alloc (Nat.le_refl _) _
  obtain ⟨r, hr⟩ : ∃ r, (l.find? fun x => x.name == nq) = r := ⟨_, rfl⟩
  rw [hr]
  have HC := Lib.hid hc
  have HA := Lib.hid ha
  have HN := Lib.hid hn
  have HR := Lib.hid hr
  have HQ : Hid (sq.toList = nq) := Lib.hid (by rw [ByteArray.toList_eq, hsq])
  have HW0 := Lib.hid hW0
  have HO0 := Lib.hid (Own.made w 47 [str [], i64 0])
  clear hc ha hr hn hsq hW0
  go_enter Tryd.func47, Tryd.ntmps47
  go_wp2_with fail
  go_loopw [13] (fun i wr => ∃ k : Nat, k ≤ n ∧ i = .int .i64 k ∧ Hid (∀ y ∈ l.take k, (y.name == nq) = false) ∧ Hid (Below w.heap.size w wr) ∧ Hid (Own wr w.heap.size 47 [str [], i64 0])) (fun i _ => n - (intOf i).toNat)
  case atStart => exact ⟨0, Nat.zero_le _, rfl, Lib.hid (by simp), HW0, HO0⟩
  case round =>
  obtain ⟨k, hk, rfl, HK, HBr, HO⟩ := hrel
  by_cases hlt : k < n
  · obtain ⟨⟨nm, ne⟩, hx⟩ : ∃ x, l[k]? = some x := ⟨_, List.getElem?_eq_getElem (by have := HN.out; omega)⟩
    obtain ⟨rfl, _, hb1⟩ := HA.out (by omega)
    obtain ⟨cs, _, q1, hu⟩ := HC.out k _ hx
    have hb1 : b < w.heap.size := by omega
    have hu0 := hu
    subst hu
    obtain ⟨n0, n1⟩ := at2 (cells_later q1 HBr.out hb1)
    obtain ⟨sn, hsn⟩ : ∃ s : ByteArray, (str nm : Value) = .string s := ⟨_, rfl⟩
    have hsn2 : sn.toList = nm := by
      have : (⟨nm.toArray⟩ : ByteArray) = sn := by simpa using hsn
      rw [← this, ByteArray.toList_eq]
    have OX := Lib.hid (Own.made wr 47 [str nm, i64 ne])
    have HX := Lib.hid hx
    have QN := Lib.hid fun w' => externName_any w' [str nm, i64 ne] sn _ (by rw [← hsn]) rfl
    have HS2 := Lib.hid hsn2
    have HU0 := Lib.hid hu0
    have HSN := Lib.hid hsn
    clear hu0 hx q1 hsn
    simp only at n0 n1
    by_cases he : nm = nq
    · have e1 : (sn.toList == sq.toList) = true := by rw [hsn2, HQ.out, he]; simp
      have HE := Lib.hid he
      clear hsn2 he
      have hen := hE
      go_wp2_with fail
      refine (QN.out _).mono ?_
      rintro e w5 ⟨rfl, hb5⟩
      have HB5 := Lib.hid hb5
      have g0 := own_hold7 OX.out hb5 (by simp) 0 rfl
      have g1 := own_hold7 OX.out hb5 (by simp) 1 rfl
      clear hb5
      have hnx := (HO.out.below (B := wr.heap.size) ((Below.refl _ _).alloc (Nat.le_refl _) _) HO.out.lt).below HB5.out (by simp; have := HO.out.lt; omega)
      have z0 := (hnx.cell 0).trans rfl
      have t0 := hnx.thaw 0
      have z1 := (hnx.cell 1).trans rfl
      have t1 := hnx.thaw 1
      have ylt := hnx.lt
      have HBW := Lib.hid (HBr.out.trans ((((Below.refl wr.heap.size wr).alloc (Nat.le_refl _) (.cells #[str nm, i64 ne] 47)).trans (HB5.out.mono (by simp))).mono HBr.out.size))
      clear hnx hen
      obtain rfl : r = some ⟨nm, ne⟩ := by rw [← HR.out]; exact find_at HX.out (by simpa using HE.out) HK.out
      go_wp2_with fail
      have hfin := two_below7 (v0 := str nm) (v1 := i64 ne) HBW.out
      exact bodyPost_ret (v := .tuple #[.agg #[str nm, i64 ne], .bool true]) (by rw [results_cell_tmp rfl]; go_simp) rfl ⟨hfin, _, rfl, rfl⟩
    · have e1 : (sn.toList == sq.toList) = false := by rw [hsn2, HQ.out]; simpa using he
      have HE := Lib.hid he
      clear hsn2 he
      have hen := hE
      go_wp2_with fail
      refine (QN.out _).mono ?_
      rintro e w5 ⟨rfl, hb5⟩
      have HB5 := Lib.hid hb5
      clear hb5
      go_wp2_with fail
      go_roundw
      case rel => exact ⟨k + 1, by omega, by go_num, Lib.hid (none_next HX.out (by simpa using HE.out) HK.out), Lib.hid (HBr.out.trans ((((Below.refl wr.heap.size wr).alloc (Nat.le_refl _) _).trans (HB5.out.mono (by simp))).mono HBr.out.size)), Lib.hid ((HO.out.below (B := wr.heap.size) ((Below.refl _ _).alloc (Nat.le_refl _) _) HO.out.lt).below HB5.out (by simp; have := HO.out.lt; omega))⟩
      case measure => simp [intOf]; omega
  · have hkn : l.take k = l := List.take_of_length_le (by have := HN.out; omega)
    have hno : l.find? (fun x => x.name == nq) = none := find_no (by have := HK.out; rwa [hkn] at this)
    obtain rfl : r = none := by rw [← HR.out, hno]
    clear hno hkn
    have hnx := HO.out.below (B := wr.heap.size) ((Below.refl _ _).alloc (Nat.le_refl _) (.cells #[str [], i64 0] 47)) HO.out.lt
    have z0 := (hnx.cell 0).trans rfl
    have t0 := hnx.thaw 0
    have z1 := (hnx.cell 1).trans rfl
    have t1 := hnx.thaw 1
    have ylt := hnx.lt
    have HBW := Lib.hid (HBr.out.trans (((Below.refl wr.heap.size wr).alloc (Nat.le_refl _) (.cells #[str [], i64 0] 47)).mono HBr.out.size))
    clear hnx
    go_wp2_with fail
    exact bodyPost_ret (v := .tuple #[.agg #[str [], i64 0], .bool false]) (by rw [results_cell_tmp rfl]; go_simp) rfl ⟨two_below7 HBW.out, rfl⟩



set_option maxRecDepth 100000 in
set_option maxHeartbeats 8000000 in
theorem funcName_any (w : World) (c : List Value) (s : ByteArray) (t : List Value) (hc : c = .string s :: t) (hl : t.length = 4) :
    Calls Tryd.prog 43 #[.agg c.toArray] w fun e w' => e = .returned (.string s) ∧ Below w.heap.size w w' := by
  subst hc
  obtain ⟨u1, u2, u3, u4, rfl⟩ : ∃ u1 u2 u3 u4, t = [u1, u2, u3, u4] := by match t, hl with | [u1, u2, u3, u4], _ => exact ⟨u1, u2, u3, u4, rfl⟩
  go_enter Tryd.func43, Tryd.ntmps43
  go_wp2
  go_ret
  exact ⟨rfl, (Below.refl _ _).alloc (Nat.le_refl _) _⟩
set_option maxRecDepth 100000 in
set_option maxHeartbeats 8000000 in
theorem findFunc_any (lo hi : Nat) (w : World) (v : Value) (l : List Api.Func) (nq : Wd) (sq : ByteArray) (hsq : sq.data.toList = nq) (h : Funcs lo hi w v l) (hh : hi ≤ w.heap.size) :
    Calls Tryd.prog 42 #[v, .string sq, fv 43] w (FoundP w (fun w cs x => FuncC lo hi w cs x) [str [], str [], .slice none 0 0, .slice none 0 0, .slice none 0 0] (l.find? fun x => x.name == nq)) := by
  obtain ⟨A, n, cap, b, off, rfl, hn, hm2, ha, hc⟩ := h
  have hE := enters7 Tryd.func43 (by kernel_rfl) (show Tryd.f43.body = some _ from rfl)
  have hW0 : Below w.heap.size w (w.alloc (.cells #[str [], str [], .slice none 0 0, .slice none 0 0, .slice none 0 0] 30)) := (Below.refl _ _).alloc (Nat.le_refl _) _
  obtain ⟨r, hr⟩ : ∃ r, (l.find? fun x => x.name == nq) = r := ⟨_, rfl⟩
  rw [hr]
  have HC := Lib.hid hc
  have HA := Lib.hid ha
  have HN := Lib.hid hn
  have HR := Lib.hid hr
  have HQ : Hid (sq.toList = nq) := Lib.hid (by rw [ByteArray.toList_eq, hsq])
  have HW0 := Lib.hid hW0
  have HO0 := Lib.hid (Own.made w 30 [str [], str [], .slice none 0 0, .slice none 0 0, .slice none 0 0])
  clear hc ha hr hn hsq hW0
  go_enter Tryd.func42, Tryd.ntmps42
  go_wp2_with fail
  go_loopw [13] (fun i wr => ∃ k : Nat, k ≤ n ∧ i = .int .i64 k ∧ Hid (∀ y ∈ l.take k, (y.name == nq) = false) ∧ Hid (Below w.heap.size w wr) ∧ Hid (Own wr w.heap.size 30 [str [], str [], .slice none 0 0, .slice none 0 0, .slice none 0 0])) (fun i _ => n - (intOf i).toNat)
  case atStart => exact ⟨0, Nat.zero_le _, rfl, Lib.hid (by simp), HW0, HO0⟩
  case round =>
  obtain ⟨k, hk, rfl, HK, HBr, HO⟩ := hrel
  by_cases hlt : k < n
  · obtain ⟨⟨nm, rs, ps, vs, bl⟩, hx⟩ : ∃ x, l[k]? = some x := ⟨_, List.getElem?_eq_getElem (by have := HN.out; omega)⟩
    obtain ⟨rfl, _, hb1⟩ := HA.out (by omega)
    obtain ⟨cs, _, q1, hu⟩ := HC.out k _ hx
    have hb1 : b < w.heap.size := by omega
    have hu0 := hu
    obtain ⟨y1, y2, y3, rfl, g1, g2, g3⟩ := hu; obtain ⟨B1, k1, rfl⟩ := g1.form; obtain ⟨B2, k2, rfl⟩ := g2.form; obtain ⟨B3, k3, rfl⟩ := g3.form
    obtain ⟨n0, n1, n2, n3, n4⟩ := at5 (cells_later q1 HBr.out hb1)
    obtain ⟨sn, hsn⟩ : ∃ s : ByteArray, (str nm : Value) = .string s := ⟨_, rfl⟩
    have hsn2 : sn.toList = nm := by
      have : (⟨nm.toArray⟩ : ByteArray) = sn := by simpa using hsn
      rw [← this, ByteArray.toList_eq]
    have OX := Lib.hid (Own.made wr 30 [str nm, str rs, .slice B1 ps.length k1, .slice B2 vs.length k2, .slice B3 bl.length k3])
    have HX := Lib.hid hx
    have QN := Lib.hid fun w' => funcName_any w' [str nm, str rs, .slice B1 ps.length k1, .slice B2 vs.length k2, .slice B3 bl.length k3] sn _ (by rw [← hsn]) rfl
    have HS2 := Lib.hid hsn2
    have HU0 := Lib.hid hu0
    have HSN := Lib.hid hsn
    clear hu0 hx q1 hsn
    simp only at n0 n1 n2 n3 n4
    by_cases he : nm = nq
    · have e1 : (sn.toList == sq.toList) = true := by rw [hsn2, HQ.out, he]; simp
      have HE := Lib.hid he
      clear hsn2 he
      have hen := hE
      go_wp2_with fail
      refine (QN.out _).mono ?_
      rintro e w5 ⟨rfl, hb5⟩
      have HB5 := Lib.hid hb5
      have g0 := own_hold7 OX.out hb5 (by simp) 0 rfl
      have g1 := own_hold7 OX.out hb5 (by simp) 1 rfl
      have g2 := own_hold7 OX.out hb5 (by simp) 2 rfl
      have g3 := own_hold7 OX.out hb5 (by simp) 3 rfl
      have g4 := own_hold7 OX.out hb5 (by simp) 4 rfl
      clear hb5
      have hnx := (HO.out.below (B := wr.heap.size) ((Below.refl _ _).alloc (Nat.le_refl _) _) HO.out.lt).below HB5.out (by simp; have := HO.out.lt; omega)
      have z0 := (hnx.cell 0).trans rfl
      have t0 := hnx.thaw 0
      have z1 := (hnx.cell 1).trans rfl
      have t1 := hnx.thaw 1
      have z2 := (hnx.cell 2).trans rfl
      have t2 := hnx.thaw 2
      have z3 := (hnx.cell 3).trans rfl
      have t3 := hnx.thaw 3
      have z4 := (hnx.cell 4).trans rfl
      have t4 := hnx.thaw 4
      have ylt := hnx.lt
      have HBW := Lib.hid (HBr.out.trans ((((Below.refl wr.heap.size wr).alloc (Nat.le_refl _) (.cells #[str nm, str rs, .slice B1 ps.length k1, .slice B2 vs.length k2, .slice B3 bl.length k3] 30)).trans (HB5.out.mono (by simp))).mono HBr.out.size))
      clear hnx hen
      obtain rfl : r = some ⟨nm, rs, ps, vs, bl⟩ := by rw [← HR.out]; exact find_at HX.out (by simpa using HE.out) HK.out
      go_wp2_with fail
      have hfin := five_below7 (v0 := str nm) (v1 := str rs) (v2 := .slice B1 ps.length k1) (v3 := .slice B2 vs.length k2) (v4 := .slice B3 bl.length k3) HBW.out
      exact bodyPost_ret (v := .tuple #[.agg #[str nm, str rs, .slice B1 ps.length k1, .slice B2 vs.length k2, .slice B3 bl.length k3], .bool true]) (by rw [results_cell_tmp rfl]; go_simp) rfl ⟨hfin, _, rfl, FuncC.move (Still.of_below (hfin.mono hh)) HU0.out⟩
    · have e1 : (sn.toList == sq.toList) = false := by rw [hsn2, HQ.out]; simpa using he
      have HE := Lib.hid he
      clear hsn2 he
      have hen := hE
      go_wp2_with fail
      refine (QN.out _).mono ?_
      rintro e w5 ⟨rfl, hb5⟩
      have HB5 := Lib.hid hb5
      clear hb5
      go_wp2_with fail
      go_roundw
      case rel => exact ⟨k + 1, by omega, by go_num, Lib.hid (none_next HX.out (by simpa using HE.out) HK.out), Lib.hid (HBr.out.trans ((((Below.refl wr.heap.size wr).alloc (Nat.le_refl _) _).trans (HB5.out.mono (by simp))).mono HBr.out.size)), Lib.hid ((HO.out.below (B := wr.heap.size) ((Below.refl _ _).alloc (Nat.le_refl _) _) HO.out.lt).below HB5.out (by simp; have := HO.out.lt; omega))⟩
      case measure => simp [intOf]; omega
  · have hkn : l.take k = l := List.take_of_length_le (by have := HN.out; omega)
    have hno : l.find? (fun x => x.name == nq) = none := find_no (by have := HK.out; rwa [hkn] at this)
    obtain rfl : r = none := by rw [← HR.out, hno]
    clear hno hkn
    have hnx := HO.out.below (B := wr.heap.size) ((Below.refl _ _).alloc (Nat.le_refl _) (.cells #[str [], str [], .slice none 0 0, .slice none 0 0, .slice none 0 0] 30)) HO.out.lt
    have z0 := (hnx.cell 0).trans rfl
    have t0 := hnx.thaw 0
    have z1 := (hnx.cell 1).trans rfl
    have t1 := hnx.thaw 1
    have z2 := (hnx.cell 2).trans rfl
    have t2 := hnx.thaw 2
    have z3 := (hnx.cell 3).trans rfl
    have t3 := hnx.thaw 3
    have z4 := (hnx.cell 4).trans rfl
    have t4 := hnx.thaw 4
    have ylt := hnx.lt
    have HBW := Lib.hid (HBr.out.trans (((Below.refl wr.heap.size wr).alloc (Nat.le_refl _) (.cells #[str [], str [], .slice none 0 0, .slice none 0 0, .slice none 0 0] 30)).mono HBr.out.size))
    clear hnx
    go_wp2_with fail
    exact bodyPost_ret (v := .tuple #[.agg #[str [], str [], .slice none 0 0, .slice none 0 0, .slice none 0 0], .bool false]) (by rw [results_cell_tmp rfl]; go_simp) rfl ⟨five_below7 HBW.out, rfl⟩

end Go.Proofs.YtikfncgdjnljiaaDoor.Ty7
