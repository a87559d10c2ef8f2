/-
  Package types: what type an argument has; whether lists of types fit.
-/
import Derived.Test.YtikfncgdjnljiaaDoorTyCalls
import Derived.Test.YtikfncgdjnljiaaDoorWords10
namespace Go.Proofs.YtikfncgdjnljiaaDoor.Ty7
open Go.RowKit Api Syn WordM Mem

/-- A type, or none. -/
def TypP (w : World) (r : Option Wd) (e : Ending) (w' : World) : Prop := e = .returned (.tuple #[str (r.getD []), .bool r.isSome]) ∧ Below w.heap.size w w'
set_option maxRecDepth 100000 in
set_option maxHeartbeats 8000000 in
theorem typeOf_any (lo hi : Nat) (w : World) (cs : List Value) (f : Api.Func) (hf : FuncC lo hi w cs f) (hh : hi ≤ w.heap.size) (k n : Int) (s : Wd) :
    Calls Tryd.prog 50 #[.agg cs.toArray, .agg #[i64 k, str s, i64 n]] w (TypP w (typeA f ⟨k, s, n⟩)) := by
  have hf0 := hf
  obtain ⟨u1, u2, u3, rfl, ka, kf, ko⟩ := hf
  obtain ⟨B1, c1, rfl⟩ := ka.form
  obtain ⟨B2, c2, rfl⟩ := kf.form
  obtain ⟨B3, c3, rfl⟩ := ko.form
  clear ka kf ko
  obtain ⟨W, hW⟩ : ∃ W, (w.alloc (.cells #[str f.name, str f.result, .slice B1 f.params.length c1, .slice B2 f.vars.length c2, .slice B3 f.blocks.length c3] 30)).alloc (.cells #[i64 k, str s, i64 n] 32) = W := ⟨_, rfl⟩
  have hb : Below w.heap.size w W := by rw [← hW]; exact ((Below.refl _ _).alloc (Nat.le_refl _) _).alloc (by simp) _
  have hz : W.heap.size = w.heap.size + 2 := by rw [← hW]; simp
  by_cases h1 : k = 1
  · subst h1
    have hv : typeA f ⟨1, s, n⟩ = (varOf f s).map fun v => v.type := by unfold typeA; rw [if_pos rfl]
    rw [hv]
    obtain ⟨sq, hsq⟩ : ∃ x : ByteArray, x = ⟨s.toArray⟩ := ⟨_, rfl⟩
    have Q := Lib.hid (variable_any lo hi W _ f (FuncC.move (Still.of_below (hb.mono hh)) hf0) (Nat.le_trans hh hb.size) s ⟨s.toArray⟩ rfl)
    have HW := Lib.hid hW
    have HB := Lib.hid hb
    clear hf0 hW hb hv hsq
    go_enter Tryd.func50, Tryd.ntmps50
    go_wp2_with fail
    rw [HW.out]
    refine Q.out.mono ?_
    intro e w5 hP
    clear Q
    cases hr : varOf f s with
    | some v =>
      rw [hr] at hP
      obtain ⟨rfl, hb5⟩ := VarP.some hP
      have HB5 := Lib.hid (HB.out.trans (hb5.mono HB.out.size))
      have HRR := Lib.hid hr
      clear hP hb5 hr
      go_wp2_with fail
      go_ret2
      exact ⟨by rw [HRR.out]; rfl, HB5.out.alloc HB5.out.size _⟩
    | none =>
      rw [hr] at hP
      obtain ⟨rfl, hb5⟩ := VarP.none hP
      have HB5 := Lib.hid (HB.out.trans (hb5.mono HB.out.size))
      have HRR := Lib.hid hr
      clear hP hb5 hr
      go_wp2_with fail
      go_ret2
      exact ⟨by rw [HRR.out]; rfl, HB5.out.alloc HB5.out.size _⟩
  · have HB := Lib.hid hb
    have HW := Lib.hid hW
    clear hf0 hb hW
    by_cases h2 : k = 2
    · subst h2
      go_enter Tryd.func50, Tryd.ntmps50
      go_wp2_with fail
      rw [HW.out]
      go_ret2
      exact ⟨rfl, HB.out⟩
    by_cases h3 : k = 3
    · subst h3
      go_enter Tryd.func50, Tryd.ntmps50
      go_wp2_with fail
      rw [HW.out]
      go_ret2
      exact ⟨rfl, HB.out⟩
    by_cases h4 : k = 4
    · subst h4
      go_enter Tryd.func50, Tryd.ntmps50
      go_wp2_with fail
      rw [HW.out]
      go_ret2
      exact ⟨rfl, HB.out⟩
    have hn : typeA f ⟨k, s, n⟩ = none := by unfold typeA; rw [if_neg h1, if_neg h2, if_neg h3, if_neg h4]
    have e1 : (k == 1) = false := beq_false_of_ne h1
    have e2 : (k == 2) = false := beq_false_of_ne h2
    have e3 : (k == 3) = false := beq_false_of_ne h3
    have e4 : (k == 4) = false := beq_false_of_ne h4
    rw [hn]
    clear h1 h2 h3 h4 hn
    go_enter Tryd.func50, Tryd.ntmps50
    go_wp2_with fail
    rw [HW.out]
    go_ret2
    exact ⟨rfl, HB.out⟩
/-- The types of arguments, or none. -/
def TypsP (w : World) (r : Option (List Wd)) (e : Ending) (w' : World) : Prop :=
  Below w.heap.size w w' ∧ match r with
    | some ts => ∃ v, e = .returned (.tuple #[v, .bool true]) ∧ w'.ownsRow w.heap.size 9 1 v ts.length (LinesM.strs ts)
    | none => e = .returned (.tuple #[.slice none 0 0, .bool false])
def typesTo (f : Api.Func) (l : List Arg) (k : Nat) : Option (List Wd) := typesA f (l.take k)
theorem types_none {f : Api.Func} {l : List Arg} {k : Nat} {a : Arg} (h : l[k]? = some a) (ha : typeA f a = none) : typesA f l = none := by
  induction l generalizing k with
  | nil => simp at h
  | cons b l ih =>
    unfold typesA
    cases k with
    | zero => simp at h; subst h; rw [ha]
    | succ k =>
      have := ih (k := k) (by simpa using h)
      cases typeA f b with
      | none => rfl
      | some t => simp [this]
theorem types_next {f : Api.Func} {l : List Arg} {k : Nat} {a : Arg} {ts : List Wd} {t : Wd} (h : l[k]? = some a) (ha : typeA f a = some t) (hk : typesA f (l.take k) = some ts) : typesA f (l.take (k + 1)) = some (ts ++ [t]) := by
  induction l generalizing k ts with
  | nil => simp at h
  | cons b l ih =>
    cases k with
    | zero =>
      simp at h
      subst h
      simp [typesA] at hk ⊢
      subst hk
      simp [ha]
    | succ k =>
      simp only [List.take_succ_cons, typesA] at hk ⊢
      cases hb : typeA f b with
      | none => rw [hb] at hk; cases hk
      | some u =>
        rw [hb] at hk
        simp only at hk ⊢
        cases hr : typesA f (l.take k) with
        | none => rw [hr] at hk; simp at hk
        | some r =>
          rw [hr] at hk
          simp only [Option.map_some, Option.some.injEq] at hk
          subst hk
          rw [ih (k := k) (by simpa using h) hr]
          rfl
theorem types_len {f : Api.Func} {l : List Arg} {ts : List Wd} (h : typesA f l = some ts) : ts.length = l.length := by
  induction l generalizing ts with
  | nil => simp [typesA] at h; subst h; rfl
  | cons b l ih =>
    unfold typesA at h
    cases hb : typeA f b with
    | none => rw [hb] at h; cases h
    | some u =>
      rw [hb] at h
      simp only at h
      cases hr : typesA f l with
      | none => rw [hr] at h; simp at h
      | some r =>
        rw [hr] at h
        simp only [Option.map_some, Option.some.injEq] at h
        subst h
        simp [ih hr]
set_option maxRecDepth 100000 in
set_option maxHeartbeats 8000000 in
theorem typesOf_any (lo hi : Nat) (w : World) (cs : List Value) (f : Api.Func) (hf : FuncC lo hi w cs f) (hh : hi ≤ w.heap.size) (v : Value) (l : List Arg) (h : Args lo hi w v l) (hl : l.length ≤ 100) :
    Calls Tryd.prog 58 #[.agg cs.toArray, v] w (TypsP w (typesA f l)) := by
  have hf0 := hf
  obtain ⟨u1, u2, u3, rfl, ka, kf, ko⟩ := hf
  obtain ⟨B1, c1, rfl⟩ := ka.form
  obtain ⟨B2, c2, rfl⟩ := kf.form
  obtain ⟨B3, c3, rfl⟩ := ko.form
  clear ka kf ko
  obtain ⟨A, n, cap, b, off, rfl, hn, hm2, ha, hc⟩ := h
  obtain ⟨i0, hi0, hz0, hz1, hz2⟩ := info_parts Sh6.s_info
  have Hi := Lib.hid hi0
  have Hz0 := Lib.hid hz0
  have Hz1 := Lib.hid hz1
  have Hz2 := Lib.hid hz2
  clear hi0 hz0 hz1 hz2
  obtain ⟨W, hW⟩ : ∃ W, w.alloc (.cells #[str f.name, str f.result, .slice B1 f.params.length c1, .slice B2 f.vars.length c2, .slice B3 f.blocks.length c3] 30) = W := ⟨_, rfl⟩
  have hO : Own W w.heap.size 30 [str f.name, str f.result, .slice B1 f.params.length c1, .slice B2 f.vars.length c2, .slice B3 f.blocks.length c3] := by rw [← hW]; exact Own.made w _ [str f.name, str f.result, .slice B1 f.params.length c1, .slice B2 f.vars.length c2, .slice B3 f.blocks.length c3]
  have hb : Below w.heap.size w W := by rw [← hW]; exact (Below.refl _ _).alloc (Nat.le_refl _) _
  have HC := Lib.hid hc
  have HA := Lib.hid ha
  have HN := Lib.hid hn
  have HW := Lib.hid hW
  have HO := Lib.hid hO
  have HB := Lib.hid hb
  have HF0 := Lib.hid hf0
  clear hc ha hn hW hO hb hf0
  go_enter Tryd.func58, Tryd.ntmps58
  go_wp2_with fail
  rw [HW.out]
  have HZ : Hid (w.heap.size < W.heap.size) := Lib.hid HO.out.lt
  go_loopw [6, 13] (fun tv i wr => ∃ (k : Nat) (ts : List Wd), k ≤ n ∧ i = .int .i64 k ∧ Hid (typesA f (l.take k) = some ts) ∧ Hid (wr.ownsRow w.heap.size 9 1 tv ts.length (LinesM.strs ts)) ∧ Hid (Below w.heap.size w wr) ∧ Hid (Own wr w.heap.size 30 [str f.name, str f.result, .slice B1 f.params.length c1, .slice B2 f.vars.length c2, .slice B3 f.blocks.length c3])) (fun _ i _ => n - (intOf i).toNat)
  case atStart => exact ⟨0, [], Nat.zero_le _, rfl, Lib.hid rfl, Lib.hid (World.ownsRow_nil _ _ _ _), HB, HO⟩
  case round =>
  obtain ⟨k, ts, hk, rfl, HK, HR, HBr, HOr⟩ := hrel
  by_cases hlt : k < n
  · obtain ⟨⟨ak, as_, an⟩, hx⟩ : ∃ x, l[k]? = some x := ⟨_, List.getElem?_eq_getElem (by have := HN.out; omega)⟩
    obtain ⟨rfl, _, hb1⟩ := HA.out (by omega)
    obtain ⟨cs3, _, q1, rfl⟩ := HC.out k _ hx
    obtain ⟨n0, n1, n2⟩ := at3 (cells_later q1 HBr.out (by omega))
    simp only at n0 n1 n2
    have g0 := HOr.out.cell 0
    have g1 := HOr.out.cell 1
    have g2 := HOr.out.cell 2
    have g3 := HOr.out.cell 3
    have g4 := HOr.out.cell 4
    simp only [List.getElem?_cons_succ, List.getElem?_cons_zero] at g0 g1 g2 g3 g4
    have HX := Lib.hid hx
    have hsz : w.heap.size < wr.heap.size := HOr.out.lt
    clear q1 hx
    obtain ⟨W3, hW3⟩ : ∃ W3, wr.alloc (.cells #[i64 ak, str as_, i64 an] 32) = W3 := ⟨_, rfl⟩
    have hb3 : Below wr.heap.size wr W3 := by rw [← hW3]; exact (Below.refl _ _).alloc (Nat.le_refl _) _
    have HB3 := Lib.hid (HBr.out.trans (hb3.mono HBr.out.size))
    have QT := Lib.hid (typeOf_any lo hi W3 _ f (FuncC.move (Still.of_below (HB3.out.mono hh)) HF0.out) (Nat.le_trans hh HB3.out.size) ak an as_)
    have HW3 := Lib.hid hW3
    have HR3 := Lib.hid (LinesM.own_below HR.out hb3)
    have HO3 := Lib.hid (HOr.out.below hb3 HOr.out.lt)
    clear hb3 hW3
    go_wp2_with fail
    rw [HW3.out]
    refine QT.out.mono ?_
    rintro e w5 ⟨rfl, hb5⟩
    have HB5 := Lib.hid (HB3.out.trans (hb5.mono HB3.out.size))
    have HR5 := Lib.hid (LinesM.own_below HR3.out hb5)
    have HO5 := Lib.hid (HO3.out.below hb5 HO3.out.lt)
    clear hb5 g0 g1 g2 g3 g4 QT
    cases hr : typeA f ⟨ak, as_, an⟩ with
    | none =>
      have HRR := Lib.hid (types_none HX.out hr)
      clear hr
      go_wp2_with fail
      go_ret2
      refine ⟨HB5.out, ?_⟩
      rw [HRR.out]
      rfl
    | some t =>
      have HRR := Lib.hid (types_next HX.out hr HK.out)
      have hlen : ts.length = k := by rw [types_len HK.out, List.length_take]; have := HN.out; omega
      have hn100 : k ≤ 100 := by have := HN.out; omega
      have HLEN := Lib.hid hlen
      simp only [Option.getD_some, Option.isSome_some]
      clear hr hlen
      go_wp2_with (at_builtin; refine LinesM.wpList_push rfl _ _ 61 rfl w.heap.size 9 i0 (.string ⟨#[]⟩) 1 16 Tryd.underlying61 Hi.out Hz0.out Hz1.out Hz2.out rfl (by decide) _ ts.length (LinesM.strs ts) rfl HR5.out [str t] rfl rfl (by simp [Value.oneCell']) (by unfold maxLen; have := HLEN.out; omega) (by have := HLEN.out; omega) HB5.out.size ?_; intro v' w6 hown6 hg6; have HR6 := Lib.hid hown6; have HO6 := Lib.hid (Sh6.keep_f HO5.out (by decide) HR5.out hg6); have HB6 := Lib.hid (LinesM.below_grown HB5.out HR5.out hg6 HB5.out.size (Nat.le_refl _)); clear hown6 hg6)
      go_roundw
      case rel => exact ⟨k + 1, ts ++ [t], by omega, by go_num, HRR, Lib.hid (by rw [List.length_append, Sh6.strs_snoc]; exact HR6.out), HB6, HO6⟩
      case measure => simp [intOf]; omega
  · have hkn : l.take k = l := List.take_of_length_le (by have := HN.out; omega)
    have HRR : Hid (typesA f l = some ts) := Lib.hid (by have := HK.out; rwa [hkn] at this)
    go_wp2_with fail
    go_ret2
    refine ⟨HBr.out, ?_⟩
    rw [HRR.out]
    exact ⟨_, rfl, HR.out⟩
end Go.Proofs.YtikfncgdjnljiaaDoor.Ty7
