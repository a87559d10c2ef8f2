/-
  Rights Rights2 Rights3 Rights4
-/
import Derived.Test.YtdgmdpphimenjaaDoorAlls
import Derived.Lib.Walk
/-
  Package show: what is right of each part, walked.
-/
namespace Go.Proofs.YtdgmdpphimenjaaDoor.Sh6
open Go.RowKit Api Syn WordM Mem Rd5

def Says (w : World) (b : Bool) (e : Ending) (w' : World) : Prop := e = .returned (.bool b) ∧ Below w.heap.size w w'
theorem boxed1 {w W : World} {t : TypeId} {c : List Value} (h : w.alloc (.cells c.toArray t) = W) : Own W w.heap.size t c ∧ Below w.heap.size w W ∧ W.heap.size = w.heap.size + 1 := by
  subst h
  exact ⟨Own.made w t c, (Below.refl _ _).alloc (Nat.le_refl _) _, by simp⟩
theorem own_hold {w w' : World} {g B : Nat} {t : TypeId} {cs : List Value} (o : Own w g t cs) (hb : Below B w w') (hg : g < B) (i : Nat) {u : Value} (h : cs[i]? = some u) : w'.cell? ⟨g, i, none⟩ = some u := ((o.below hb hg).cell i).trans h
theorem name_says (x : Wd) (b : Bool) (h : nameV x = b) (w : World) : Calls Tryd.prog 52 #[str x] w (Says w b) := (wname_at x b h w).mono fun _ _ h => ⟨h.1, h.2 ▸ Below.refl _ _⟩
theorem right_says (a : Arg) (b : Bool) (h : argR a = b) (w : World) : Calls Tryd.prog 124 #[.agg #[i64 a.kind, str a.s, i64 a.n]] w (Says w b) := by
  have := wright_any (ofA a) w
  unfold argR at h
  rw [h] at this
  exact this
theorem tell_name (w0 : World) (l : List Wd) : Tells 52 (fun _ cs x => cs = [str x]) (fun cs => cs.headD undef) nameV w0 l :=
  ⟨enters Tryd.func52 (by decide) rfl, fun w cs x _ _ h => by subst h; exact name_says x _ rfl w⟩
theorem tell_right (w0 : World) (l : List Arg) : Tells 124 (fun _ cs x => cs = argC x) (fun cs => .agg cs.toArray) argR w0 l :=
  ⟨enters Tryd.func124 (by decide) rfl, fun w cs x _ _ h => by subst h; exact right_says x _ rfl w⟩
set_option maxHeartbeats 4000000 in
theorem kind_says (x : Wd) (b : Bool) (h : kindV x = b) (w : World) : Calls Tryd.prog 53 #[str x] w (Says w b) := by
  obtain ⟨s, hs⟩ : ∃ s : ByteArray, s = ⟨x.toArray⟩ := ⟨_, rfl⟩
  have hsd : s.data.toList = x := by rw [hs]
  have e1 := eq_lit5 (c := [105, 110, 116]) hsd
  have e2 := eq_lit5 (c := [102, 108, 111, 97, 116]) hsd
  obtain ⟨t, ht⟩ : ∃ t, nameV x = t := ⟨_, rfl⟩
  have hk : b = ((s.toList == [105, 110, 116]) || (s.toList == [102, 108, 111, 97, 116]) || t) := by rw [e1, e2, ← ht, ← h]; rfl
  have Q := Lib.hid (name_says x t ht)
  rw [show (str x : Value) = .string s by rw [hs]] at Q ⊢
  clear hs hsd e1 e2 ht h
  rcases Bool.eq_false_or_eq_true (s.toList == [105, 110, 116]) with a | a <;> rcases Bool.eq_false_or_eq_true (s.toList == [102, 108, 111, 97, 116]) with c | c
  all_goals
    rw [a, c] at hk
    simp only [Bool.or_true, Bool.true_or, Bool.or_false, Bool.false_or] at hk
    subst hk
    go_enter Tryd.func53, Tryd.ntmps53
    go_wp2_with (go_at_call 52; (with_reducible refine (Q.out _).mono ?_); rintro e w1 ⟨rfl, hb⟩; have HB := Lib.hid hb; clear hb)
    go_ret
    first | exact ⟨rfl, Below.refl _ _⟩ | exact ⟨rfl, HB.out⟩
theorem str_empty {x : Wd} {s : ByteArray} (hs : s.data.toList = x) : s.toList.isEmpty = (x == []) := by
  rw [ByteArray.toList_eq, hs]; cases x <;> rfl
set_option maxHeartbeats 4000000 in
theorem none_says (x : Wd) (m b : Bool) (h : noneR x m = b) (w : World) : Calls Tryd.prog 112 #[str x, .bool m] w (Says w b) := by
  unfold noneR at h
  cases m with
  | true =>
    rw [if_pos rfl] at h
    have Q := Lib.hid (name_says x b h)
    clear h
    go_enter Tryd.func112, Tryd.ntmps112
    go_wp2_with (go_at_call 52; (with_reducible refine (Q.out _).mono ?_); rintro e w1 ⟨rfl, hb⟩; have HB := Lib.hid hb; clear hb)
    go_ret
    exact ⟨rfl, HB.out⟩
  | false =>
    rw [if_neg (by simp)] at h
    obtain ⟨s, hs⟩ : ∃ s : ByteArray, s = ⟨x.toArray⟩ := ⟨_, rfl⟩
    have e0 := str_empty (x := x) (s := s) (by rw [hs])
    rw [h] at e0
    rw [show (str x : Value) = .string s by rw [hs]]
    clear h hs
    cases b
    all_goals
      go_enter Tryd.func112, Tryd.ntmps112
      go_wp2
      go_ret
      exact ⟨rfl, Below.refl _ _⟩
set_option maxRecDepth 100000 in
set_option maxHeartbeats 8000000 in
theorem var_any (_ hi : Nat) (w : World) (cs : List Value) (x : Var) (hx : cs = varC x) (_ : hi ≤ w.heap.size) : Calls Tryd.prog 27 #[.agg cs.toArray] w (Says w (varR x)) := by
  obtain ⟨a, b⟩ := x
  subst hx
  obtain ⟨t0, h0⟩ : ∃ t, nameV a = t := ⟨_, rfl⟩
  obtain ⟨t1, h1⟩ : ∃ t, kindV b = t := ⟨_, rfl⟩
  have hr : varR ⟨a, b⟩ = (t0 && t1) := by
    unfold varR
    simp only
    rw [h0, h1]
  rw [hr]
  clear hr
  show Calls Tryd.prog 27 #[.agg #[str a, str b]] w _
  obtain ⟨W, hW⟩ : ∃ W, w.alloc (.cells #[str a, str b] 82) = W := ⟨_, rfl⟩
  obtain ⟨o1, hb0, hz0⟩ := boxed1 (c := [str a, str b]) hW
  have O1 := Lib.hid o1
  have HB0 := Lib.hid hb0
  have HZ0 := Lib.hid hz0
  have HW := Lib.hid hW
  have Q0 := Lib.hid fun (w' : World) (hb : Below W.heap.size W w') => (name_says a t0 h0 w')
  have Q1 := Lib.hid fun (w' : World) (hb : Below W.heap.size W w') => (kind_says b t1 h1 w')
  clear h0 h1 o1 hb0 hz0 hW
  cases t0 with
  | false =>
    go_enter Tryd.func27, Tryd.ntmps27
    go_wp2_with fail
    rw [HW.out]
    refine (Q0.out _ (Below.refl _ _)).mono ?_; rintro e w0 ⟨rfl, hb0⟩
    have HB0x := Lib.hid hb0
    clear hb0
    have g0 := own_hold O1.out HB0x.out (by rw [HZ0.out]; omega) 0 rfl
    have g1 := own_hold O1.out HB0x.out (by rw [HZ0.out]; omega) 1 rfl
    go_wp2_with fail
    go_ret
    exact ⟨rfl, (HB0.out.trans (HB0x.out.mono HB0.out.size))⟩
  | true =>
    cases t1 with
    | false =>
      go_enter Tryd.func27, Tryd.ntmps27
      go_wp2_with fail
      rw [HW.out]
      refine (Q0.out _ (Below.refl _ _)).mono ?_; rintro e w0 ⟨rfl, hb0⟩
      have HB0x := Lib.hid hb0
      clear hb0
      have g0 := own_hold O1.out HB0x.out (by rw [HZ0.out]; omega) 0 rfl
      have g1 := own_hold O1.out HB0x.out (by rw [HZ0.out]; omega) 1 rfl
      go_wp2_with fail
      refine (Q1.out _ HB0x.out).mono ?_; rintro e w1 ⟨rfl, hb1⟩
      have HB1x := Lib.hid (HB0x.out.trans (hb1.mono HB0x.out.size))
      clear hb1
      clear g0 g1
      have g0 := own_hold O1.out HB1x.out (by rw [HZ0.out]; omega) 0 rfl
      have g1 := own_hold O1.out HB1x.out (by rw [HZ0.out]; omega) 1 rfl
      go_wp2_with fail
      go_ret
      exact ⟨rfl, (HB0.out.trans (HB1x.out.mono HB0.out.size))⟩
    | true =>
      go_enter Tryd.func27, Tryd.ntmps27
      go_wp2_with fail
      rw [HW.out]
      refine (Q0.out _ (Below.refl _ _)).mono ?_; rintro e w0 ⟨rfl, hb0⟩
      have HB0x := Lib.hid hb0
      clear hb0
      have g0 := own_hold O1.out HB0x.out (by rw [HZ0.out]; omega) 0 rfl
      have g1 := own_hold O1.out HB0x.out (by rw [HZ0.out]; omega) 1 rfl
      go_wp2_with fail
      refine (Q1.out _ HB0x.out).mono ?_; rintro e w1 ⟨rfl, hb1⟩
      have HB1x := Lib.hid (HB0x.out.trans (hb1.mono HB0x.out.size))
      clear hb1
      clear g0 g1
      have g0 := own_hold O1.out HB1x.out (by rw [HZ0.out]; omega) 0 rfl
      have g1 := own_hold O1.out HB1x.out (by rw [HZ0.out]; omega) 1 rfl
      go_wp2_with fail
      go_ret
      exact ⟨rfl, (HB0.out.trans (HB1x.out.mono HB0.out.size))⟩
theorem tell_var {lo hi : Nat} {w0 : World} (l : List Var) (hh : hi ≤ w0.heap.size) : Tells 27 (fun _ cs x => cs = varC x) (fun cs => .agg cs.toArray) varR w0 l :=
  ⟨enters Tryd.func27 (by decide) rfl, fun w cs x hb _ h => var_any lo hi w cs x h (Nat.le_trans hh hb.size)⟩
set_option maxRecDepth 100000 in
set_option maxHeartbeats 8000000 in
theorem class_any (lo hi : Nat) (w : World) (cs : List Value) (x : Class) (hx : ClassC lo hi w cs x) (hh : hi ≤ w.heap.size) : Calls Tryd.prog 25 #[.agg cs.toArray] w (Says w (classR x)) := by
  obtain ⟨y1, rfl, k1⟩ := hx
  obtain ⟨a, l⟩ := x
  simp only at k1 ⊢
  obtain ⟨B1, c1, rfl⟩ := k1.form
  obtain ⟨t0, h0⟩ : ∃ t, nameV a = t := ⟨_, rfl⟩
  obtain ⟨t1, h1⟩ : ∃ t, allR 8 varR l = t := ⟨_, rfl⟩
  have hr : classR ⟨a, l⟩ = (t0 && t1) := by
    unfold classR
    simp only
    rw [h0, h1]
  rw [hr]
  clear hr
  show Calls Tryd.prog 25 #[.agg #[str a, .slice B1 l.length c1]] w _
  obtain ⟨W, hW⟩ : ∃ W, w.alloc (.cells #[str a, .slice B1 l.length c1] 49) = W := ⟨_, rfl⟩
  obtain ⟨o1, hb0, hz0⟩ := boxed1 (c := [str a, .slice B1 l.length c1]) hW
  have O1 := Lib.hid o1
  have HB0 := Lib.hid hb0
  have HZ0 := Lib.hid hz0
  have HW := Lib.hid hW
  have Q0 := Lib.hid fun (w' : World) (hb : Below W.heap.size W w') => (name_says a t0 h0 w')
  have Q1 := Lib.hid fun (w' : World) (hb : Below W.heap.size W w') => (show Calls Tryd.prog 26 #[.slice B1 l.length c1, .int .i64 8, fv 27] w' (Says w' t1) from by rw [← h1]; exact (allVar_any _ _ w' _ _ 8 _ _ (Vars.move (Still.of_below ((HB0.out.trans (hb.mono HB0.out.size)).mono hh)) k1) (Nat.le_trans hh (Nat.le_trans HB0.out.size hb.size)) (tell_var (lo := 0) _ (Nat.le_trans hh (Nat.le_trans HB0.out.size hb.size))) (by decide)))
  clear h0 h1 o1 hb0 hz0 hW k1
  cases t0 with
  | false =>
    go_enter Tryd.func25, Tryd.ntmps25
    go_wp2_with fail
    rw [HW.out]
    refine (Q0.out _ (Below.refl _ _)).mono ?_; rintro e w0 ⟨rfl, hb0⟩
    have HB0x := Lib.hid hb0
    clear hb0
    have g0 := own_hold O1.out HB0x.out (by rw [HZ0.out]; omega) 0 rfl
    have g1 := own_hold O1.out HB0x.out (by rw [HZ0.out]; omega) 1 rfl
    go_wp2_with fail
    go_ret
    exact ⟨rfl, (HB0.out.trans (HB0x.out.mono HB0.out.size))⟩
  | true =>
    cases t1 with
    | false =>
      go_enter Tryd.func25, Tryd.ntmps25
      go_wp2_with fail
      rw [HW.out]
      refine (Q0.out _ (Below.refl _ _)).mono ?_; rintro e w0 ⟨rfl, hb0⟩
      have HB0x := Lib.hid hb0
      clear hb0
      have g0 := own_hold O1.out HB0x.out (by rw [HZ0.out]; omega) 0 rfl
      have g1 := own_hold O1.out HB0x.out (by rw [HZ0.out]; omega) 1 rfl
      go_wp2_with fail
      refine (Q1.out _ HB0x.out).mono ?_; rintro e w1 ⟨rfl, hb1⟩
      have HB1x := Lib.hid (HB0x.out.trans (hb1.mono HB0x.out.size))
      clear hb1
      clear g0 g1
      have g0 := own_hold O1.out HB1x.out (by rw [HZ0.out]; omega) 0 rfl
      have g1 := own_hold O1.out HB1x.out (by rw [HZ0.out]; omega) 1 rfl
      go_wp2_with fail
      go_ret
      exact ⟨rfl, (HB0.out.trans (HB1x.out.mono HB0.out.size))⟩
    | true =>
      go_enter Tryd.func25, Tryd.ntmps25
      go_wp2_with fail
      rw [HW.out]
      refine (Q0.out _ (Below.refl _ _)).mono ?_; rintro e w0 ⟨rfl, hb0⟩
      have HB0x := Lib.hid hb0
      clear hb0
      have g0 := own_hold O1.out HB0x.out (by rw [HZ0.out]; omega) 0 rfl
      have g1 := own_hold O1.out HB0x.out (by rw [HZ0.out]; omega) 1 rfl
      go_wp2_with fail
      refine (Q1.out _ HB0x.out).mono ?_; rintro e w1 ⟨rfl, hb1⟩
      have HB1x := Lib.hid (HB0x.out.trans (hb1.mono HB0x.out.size))
      clear hb1
      clear g0 g1
      have g0 := own_hold O1.out HB1x.out (by rw [HZ0.out]; omega) 0 rfl
      have g1 := own_hold O1.out HB1x.out (by rw [HZ0.out]; omega) 1 rfl
      go_wp2_with fail
      go_ret
      exact ⟨rfl, (HB0.out.trans (HB1x.out.mono HB0.out.size))⟩
theorem tell_class {lo hi : Nat} {w0 : World} (l : List Class) (hh : hi ≤ w0.heap.size) : Tells 25 (fun w cs x => ClassC lo hi w cs x) (fun cs => .agg cs.toArray) classR w0 l :=
  ⟨enters Tryd.func25 (by decide) rfl, fun w cs x hb _ h => class_any lo hi w cs x h (Nat.le_trans hh hb.size)⟩
set_option maxRecDepth 100000 in
set_option maxHeartbeats 8000000 in
theorem extern_any (_ hi : Nat) (w : World) (cs : List Value) (x : Extern) (hx : cs = externC x) (_ : hi ≤ w.heap.size) : Calls Tryd.prog 29 #[.agg cs.toArray] w (Says w (externR x)) := by
  obtain ⟨a, n⟩ := x
  subst hx
  obtain ⟨t0, h0⟩ : ∃ t, nameV a = t := ⟨_, rfl⟩
  obtain ⟨t1, h1⟩ : ∃ t, decide (0 ≤ n) = t := ⟨_, rfl⟩
  obtain ⟨t2, h2⟩ : ∃ t, decide (n ≤ 8) = t := ⟨_, rfl⟩
  have hr : externR ⟨a, n⟩ = (t0 && (t1 && t2)) := by
    unfold externR
    simp only
    rw [h0, h1, h2]
  rw [hr]
  clear hr
  show Calls Tryd.prog 29 #[.agg #[str a, i64 n]] w _
  obtain ⟨W, hW⟩ : ∃ W, w.alloc (.cells #[str a, i64 n] 51) = W := ⟨_, rfl⟩
  obtain ⟨o1, hb0, hz0⟩ := boxed1 (c := [str a, i64 n]) hW
  have O1 := Lib.hid o1
  have HB0 := Lib.hid hb0
  have HZ0 := Lib.hid hz0
  have HW := Lib.hid hW
  have Q0 := Lib.hid fun (w' : World) (hb : Below W.heap.size W w') => (name_says a t0 h0 w')
  have e1 : decide (0 ≤ n) = t1 := h1
  have e2 : decide (n ≤ 8) = t2 := h2
  clear h0 h1 h2 o1 hb0 hz0 hW
  cases t0 with
  | false =>
    go_enter Tryd.func29, Tryd.ntmps29
    go_wp2_with fail
    rw [HW.out]
    refine (Q0.out _ (Below.refl _ _)).mono ?_; rintro e w0 ⟨rfl, hb0⟩
    have HB0x := Lib.hid hb0
    clear hb0
    have g0 := own_hold O1.out HB0x.out (by rw [HZ0.out]; omega) 0 rfl
    have g1 := own_hold O1.out HB0x.out (by rw [HZ0.out]; omega) 1 rfl
    go_wp2_with fail
    go_ret
    exact ⟨rfl, (HB0.out.trans (HB0x.out.mono HB0.out.size))⟩
  | true =>
    cases t1 with
    | false =>
      go_enter Tryd.func29, Tryd.ntmps29
      go_wp2_with fail
      rw [HW.out]
      refine (Q0.out _ (Below.refl _ _)).mono ?_; rintro e w0 ⟨rfl, hb0⟩
      have HB0x := Lib.hid hb0
      clear hb0
      have g0 := own_hold O1.out HB0x.out (by rw [HZ0.out]; omega) 0 rfl
      have g1 := own_hold O1.out HB0x.out (by rw [HZ0.out]; omega) 1 rfl
      go_wp2_with fail
      go_ret
      exact ⟨rfl, (HB0.out.trans (HB0x.out.mono HB0.out.size))⟩
    | true =>
      cases t2 with
      | false =>
        go_enter Tryd.func29, Tryd.ntmps29
        go_wp2_with fail
        rw [HW.out]
        refine (Q0.out _ (Below.refl _ _)).mono ?_; rintro e w0 ⟨rfl, hb0⟩
        have HB0x := Lib.hid hb0
        clear hb0
        have g0 := own_hold O1.out HB0x.out (by rw [HZ0.out]; omega) 0 rfl
        have g1 := own_hold O1.out HB0x.out (by rw [HZ0.out]; omega) 1 rfl
        go_wp2_with fail
        go_ret
        exact ⟨rfl, (HB0.out.trans (HB0x.out.mono HB0.out.size))⟩
      | true =>
        go_enter Tryd.func29, Tryd.ntmps29
        go_wp2_with fail
        rw [HW.out]
        refine (Q0.out _ (Below.refl _ _)).mono ?_; rintro e w0 ⟨rfl, hb0⟩
        have HB0x := Lib.hid hb0
        clear hb0
        have g0 := own_hold O1.out HB0x.out (by rw [HZ0.out]; omega) 0 rfl
        have g1 := own_hold O1.out HB0x.out (by rw [HZ0.out]; omega) 1 rfl
        go_wp2_with fail
        go_ret
        exact ⟨rfl, (HB0.out.trans (HB0x.out.mono HB0.out.size))⟩
theorem tell_extern {lo hi : Nat} {w0 : World} (l : List Extern) (hh : hi ≤ w0.heap.size) : Tells 29 (fun _ cs x => cs = externC x) (fun cs => .agg cs.toArray) externR w0 l :=
  ⟨enters Tryd.func29 (by decide) rfl, fun w cs x hb _ h => extern_any lo hi w cs x h (Nat.le_trans hh hb.size)⟩
set_option maxRecDepth 100000 in
set_option maxHeartbeats 8000000 in
theorem argX_any (_ hi : Nat) (w : World) (cs : List Value) (x : Arg) (hx : cs = argC x) (_ : hi ≤ w.heap.size) : Calls Tryd.prog 114 #[.agg cs.toArray] w (Says w (argX x)) := by
  obtain ⟨k, a, n⟩ := x
  subst hx
  obtain ⟨t0, h0⟩ : ∃ t, (k != 5) = t := ⟨_, rfl⟩
  obtain ⟨t1, h1⟩ : ∃ t, argR ⟨k, a, n⟩ = t := ⟨_, rfl⟩
  have hr : argX ⟨k, a, n⟩ = (t0 && t1) := by
    unfold argX
    simp only
    rw [h0]
    unfold argR at h1
    rw [h1]
  rw [hr]
  clear hr
  show Calls Tryd.prog 114 #[.agg #[i64 k, str a, i64 n]] w _
  obtain ⟨W, hW⟩ : ∃ W, w.alloc (.cells #[i64 k, str a, i64 n] 44) = W := ⟨_, rfl⟩
  obtain ⟨o1, hb0, hz0⟩ := boxed1 (c := [i64 k, str a, i64 n]) hW
  have O1 := Lib.hid o1
  have HB0 := Lib.hid hb0
  have HZ0 := Lib.hid hz0
  have HW := Lib.hid hW
  have e0 : (k != 5) = t0 := h0
  have Q1 := Lib.hid fun (w' : World) (hb : Below W.heap.size W w') => (right_says ⟨k, a, n⟩ t1 h1 w')
  clear h0 h1 o1 hb0 hz0 hW
  cases t0 with
  | false =>
    go_enter Tryd.func114, Tryd.ntmps114
    go_wp2_with fail
    rw [HW.out]
    go_ret
    exact ⟨rfl, HB0.out⟩
  | true =>
    cases t1 with
    | false =>
      go_enter Tryd.func114, Tryd.ntmps114
      go_wp2_with fail
      rw [HW.out]
      refine (Q1.out _ (Below.refl _ _)).mono ?_; rintro e w1 ⟨rfl, hb1⟩
      have HB1x := Lib.hid hb1
      clear hb1
      have g0 := own_hold O1.out HB1x.out (by rw [HZ0.out]; omega) 0 rfl
      have g1 := own_hold O1.out HB1x.out (by rw [HZ0.out]; omega) 1 rfl
      have g2 := own_hold O1.out HB1x.out (by rw [HZ0.out]; omega) 2 rfl
      go_wp2_with fail
      go_ret
      exact ⟨rfl, (HB0.out.trans (HB1x.out.mono HB0.out.size))⟩
    | true =>
      go_enter Tryd.func114, Tryd.ntmps114
      go_wp2_with fail
      rw [HW.out]
      refine (Q1.out _ (Below.refl _ _)).mono ?_; rintro e w1 ⟨rfl, hb1⟩
      have HB1x := Lib.hid hb1
      clear hb1
      have g0 := own_hold O1.out HB1x.out (by rw [HZ0.out]; omega) 0 rfl
      have g1 := own_hold O1.out HB1x.out (by rw [HZ0.out]; omega) 1 rfl
      have g2 := own_hold O1.out HB1x.out (by rw [HZ0.out]; omega) 2 rfl
      go_wp2_with fail
      go_ret
      exact ⟨rfl, (HB0.out.trans (HB1x.out.mono HB0.out.size))⟩
theorem tell_argX {lo hi : Nat} {w0 : World} (l : List Arg) (hh : hi ≤ w0.heap.size) : Tells 114 (fun _ cs x => cs = argC x) (fun cs => .agg cs.toArray) argX w0 l :=
  ⟨enters Tryd.func114 (by decide) rfl, fun w cs x hb _ h => argX_any lo hi w cs x h (Nat.le_trans hh hb.size)⟩
set_option maxRecDepth 100000 in
set_option maxHeartbeats 8000000 in
theorem in_any (_ hi : Nat) (w : World) (cs : List Value) (x : Bind) (hx : cs = bindC x) (_ : hi ≤ w.heap.size) : Calls Tryd.prog 110 #[.agg cs.toArray] w (Says w (inR x)) := by
  obtain ⟨b, k, a, n⟩ := x
  subst hx
  obtain ⟨t0, h0⟩ : ∃ t, nameV b = t := ⟨_, rfl⟩
  obtain ⟨t1, h1⟩ : ∃ t, argX ⟨k, a, n⟩ = t := ⟨_, rfl⟩
  have hr : inR ⟨b, k, a, n⟩ = (t0 && t1) := by
    unfold inR
    simp only
    rw [h0, h1]
  rw [hr]
  clear hr
  show Calls Tryd.prog 110 #[.agg #[str b, i64 k, str a, i64 n]] w _
  obtain ⟨W, hW⟩ : ∃ W, w.alloc (.cells #[str b, i64 k, str a, i64 n] 65) = W := ⟨_, rfl⟩
  obtain ⟨o1, hb0, hz0⟩ := boxed1 (c := [str b, i64 k, str a, i64 n]) hW
  have O1 := Lib.hid o1
  have HB0 := Lib.hid hb0
  have HZ0 := Lib.hid hz0
  have HW := Lib.hid hW
  have Q0 := Lib.hid fun (w' : World) (hb : Below W.heap.size W w') => (name_says b t0 h0 w')
  have Q1 := Lib.hid fun (w' : World) (hb : Below W.heap.size W w') => (show Calls Tryd.prog 114 #[.agg #[i64 k, str a, i64 n]] w' (Says w' t1) from by rw [← h1]; exact argX_any 0 0 w' _ ⟨k, a, n⟩ rfl (Nat.zero_le _))
  clear h0 h1 o1 hb0 hz0 hW
  cases t0 with
  | false =>
    go_enter Tryd.func110, Tryd.ntmps110
    go_wp2_with fail
    rw [HW.out]
    refine (Q0.out _ (Below.refl _ _)).mono ?_; rintro e w0 ⟨rfl, hb0⟩
    have HB0x := Lib.hid hb0
    clear hb0
    have g0 := own_hold O1.out HB0x.out (by rw [HZ0.out]; omega) 0 rfl
    have g1 := own_hold O1.out HB0x.out (by rw [HZ0.out]; omega) 1 rfl
    have g2 := own_hold O1.out HB0x.out (by rw [HZ0.out]; omega) 2 rfl
    have g3 := own_hold O1.out HB0x.out (by rw [HZ0.out]; omega) 3 rfl
    go_wp2_with fail
    go_ret
    exact ⟨rfl, (HB0.out.trans (HB0x.out.mono HB0.out.size))⟩
  | true =>
    cases t1 with
    | false =>
      go_enter Tryd.func110, Tryd.ntmps110
      go_wp2_with fail
      rw [HW.out]
      refine (Q0.out _ (Below.refl _ _)).mono ?_; rintro e w0 ⟨rfl, hb0⟩
      have HB0x := Lib.hid hb0
      clear hb0
      have g0 := own_hold O1.out HB0x.out (by rw [HZ0.out]; omega) 0 rfl
      have g1 := own_hold O1.out HB0x.out (by rw [HZ0.out]; omega) 1 rfl
      have g2 := own_hold O1.out HB0x.out (by rw [HZ0.out]; omega) 2 rfl
      have g3 := own_hold O1.out HB0x.out (by rw [HZ0.out]; omega) 3 rfl
      go_wp2_with fail
      refine (Q1.out _ HB0x.out).mono ?_; rintro e w1 ⟨rfl, hb1⟩
      have HB1x := Lib.hid (HB0x.out.trans (hb1.mono HB0x.out.size))
      clear hb1
      clear g0 g1 g2 g3
      have g0 := own_hold O1.out HB1x.out (by rw [HZ0.out]; omega) 0 rfl
      have g1 := own_hold O1.out HB1x.out (by rw [HZ0.out]; omega) 1 rfl
      have g2 := own_hold O1.out HB1x.out (by rw [HZ0.out]; omega) 2 rfl
      have g3 := own_hold O1.out HB1x.out (by rw [HZ0.out]; omega) 3 rfl
      go_wp2_with fail
      go_ret
      exact ⟨rfl, (HB0.out.trans (HB1x.out.mono HB0.out.size))⟩
    | true =>
      go_enter Tryd.func110, Tryd.ntmps110
      go_wp2_with fail
      rw [HW.out]
      refine (Q0.out _ (Below.refl _ _)).mono ?_; rintro e w0 ⟨rfl, hb0⟩
      have HB0x := Lib.hid hb0
      clear hb0
      have g0 := own_hold O1.out HB0x.out (by rw [HZ0.out]; omega) 0 rfl
      have g1 := own_hold O1.out HB0x.out (by rw [HZ0.out]; omega) 1 rfl
      have g2 := own_hold O1.out HB0x.out (by rw [HZ0.out]; omega) 2 rfl
      have g3 := own_hold O1.out HB0x.out (by rw [HZ0.out]; omega) 3 rfl
      go_wp2_with fail
      refine (Q1.out _ HB0x.out).mono ?_; rintro e w1 ⟨rfl, hb1⟩
      have HB1x := Lib.hid (HB0x.out.trans (hb1.mono HB0x.out.size))
      clear hb1
      clear g0 g1 g2 g3
      have g0 := own_hold O1.out HB1x.out (by rw [HZ0.out]; omega) 0 rfl
      have g1 := own_hold O1.out HB1x.out (by rw [HZ0.out]; omega) 1 rfl
      have g2 := own_hold O1.out HB1x.out (by rw [HZ0.out]; omega) 2 rfl
      have g3 := own_hold O1.out HB1x.out (by rw [HZ0.out]; omega) 3 rfl
      go_wp2_with fail
      go_ret
      exact ⟨rfl, (HB0.out.trans (HB1x.out.mono HB0.out.size))⟩
theorem tell_in {lo hi : Nat} {w0 : World} (l : List Bind) (hh : hi ≤ w0.heap.size) : Tells 110 (fun _ cs x => cs = bindC x) (fun cs => .agg cs.toArray) inR w0 l :=
  ⟨enters Tryd.func110 (by decide) rfl, fun w cs x hb _ h => in_any lo hi w cs x h (Nat.le_trans hh hb.size)⟩
set_option maxRecDepth 100000 in
set_option maxHeartbeats 8000000 in
theorem bind_any (_ hi : Nat) (w : World) (cs : List Value) (x : Bind) (hx : cs = bindC x) (_ : hi ≤ w.heap.size) : Calls Tryd.prog 150 #[.agg cs.toArray] w (Says w (bindR x)) := by
  obtain ⟨b, k, a, n⟩ := x
  subst hx
  obtain ⟨t0, h0⟩ : ∃ t, nameV b = t := ⟨_, rfl⟩
  obtain ⟨t1, h1⟩ : ∃ t, argR ⟨k, a, n⟩ = t := ⟨_, rfl⟩
  have hr : bindR ⟨b, k, a, n⟩ = (t0 && t1) := by
    unfold bindR
    simp only
    rw [h0, h1]
  rw [hr]
  clear hr
  show Calls Tryd.prog 150 #[.agg #[str b, i64 k, str a, i64 n]] w _
  obtain ⟨W, hW⟩ : ∃ W, w.alloc (.cells #[str b, i64 k, str a, i64 n] 111) = W := ⟨_, rfl⟩
  obtain ⟨o1, hb0, hz0⟩ := boxed1 (c := [str b, i64 k, str a, i64 n]) hW
  have O1 := Lib.hid o1
  have HB0 := Lib.hid hb0
  have HZ0 := Lib.hid hz0
  have HW := Lib.hid hW
  have Q0 := Lib.hid fun (w' : World) (hb : Below W.heap.size W w') => (name_says b t0 h0 w')
  have Q1 := Lib.hid fun (w' : World) (hb : Below W.heap.size W w') => (right_says ⟨k, a, n⟩ t1 h1 w')
  clear h0 h1 o1 hb0 hz0 hW
  cases t0 with
  | false =>
    go_enter Tryd.func150, Tryd.ntmps150
    go_wp2_with fail
    rw [HW.out]
    refine (Q0.out _ (Below.refl _ _)).mono ?_; rintro e w0 ⟨rfl, hb0⟩
    have HB0x := Lib.hid hb0
    clear hb0
    have g0 := own_hold O1.out HB0x.out (by rw [HZ0.out]; omega) 0 rfl
    have g1 := own_hold O1.out HB0x.out (by rw [HZ0.out]; omega) 1 rfl
    have g2 := own_hold O1.out HB0x.out (by rw [HZ0.out]; omega) 2 rfl
    have g3 := own_hold O1.out HB0x.out (by rw [HZ0.out]; omega) 3 rfl
    go_wp2_with fail
    go_ret
    exact ⟨rfl, (HB0.out.trans (HB0x.out.mono HB0.out.size))⟩
  | true =>
    cases t1 with
    | false =>
      go_enter Tryd.func150, Tryd.ntmps150
      go_wp2_with fail
      rw [HW.out]
      refine (Q0.out _ (Below.refl _ _)).mono ?_; rintro e w0 ⟨rfl, hb0⟩
      have HB0x := Lib.hid hb0
      clear hb0
      have g0 := own_hold O1.out HB0x.out (by rw [HZ0.out]; omega) 0 rfl
      have g1 := own_hold O1.out HB0x.out (by rw [HZ0.out]; omega) 1 rfl
      have g2 := own_hold O1.out HB0x.out (by rw [HZ0.out]; omega) 2 rfl
      have g3 := own_hold O1.out HB0x.out (by rw [HZ0.out]; omega) 3 rfl
      go_wp2_with fail
      refine (Q1.out _ HB0x.out).mono ?_; rintro e w1 ⟨rfl, hb1⟩
      have HB1x := Lib.hid (HB0x.out.trans (hb1.mono HB0x.out.size))
      clear hb1
      clear g0 g1 g2 g3
      have g0 := own_hold O1.out HB1x.out (by rw [HZ0.out]; omega) 0 rfl
      have g1 := own_hold O1.out HB1x.out (by rw [HZ0.out]; omega) 1 rfl
      have g2 := own_hold O1.out HB1x.out (by rw [HZ0.out]; omega) 2 rfl
      have g3 := own_hold O1.out HB1x.out (by rw [HZ0.out]; omega) 3 rfl
      go_wp2_with fail
      go_ret
      exact ⟨rfl, (HB0.out.trans (HB1x.out.mono HB0.out.size))⟩
    | true =>
      go_enter Tryd.func150, Tryd.ntmps150
      go_wp2_with fail
      rw [HW.out]
      refine (Q0.out _ (Below.refl _ _)).mono ?_; rintro e w0 ⟨rfl, hb0⟩
      have HB0x := Lib.hid hb0
      clear hb0
      have g0 := own_hold O1.out HB0x.out (by rw [HZ0.out]; omega) 0 rfl
      have g1 := own_hold O1.out HB0x.out (by rw [HZ0.out]; omega) 1 rfl
      have g2 := own_hold O1.out HB0x.out (by rw [HZ0.out]; omega) 2 rfl
      have g3 := own_hold O1.out HB0x.out (by rw [HZ0.out]; omega) 3 rfl
      go_wp2_with fail
      refine (Q1.out _ HB0x.out).mono ?_; rintro e w1 ⟨rfl, hb1⟩
      have HB1x := Lib.hid (HB0x.out.trans (hb1.mono HB0x.out.size))
      clear hb1
      clear g0 g1 g2 g3
      have g0 := own_hold O1.out HB1x.out (by rw [HZ0.out]; omega) 0 rfl
      have g1 := own_hold O1.out HB1x.out (by rw [HZ0.out]; omega) 1 rfl
      have g2 := own_hold O1.out HB1x.out (by rw [HZ0.out]; omega) 2 rfl
      have g3 := own_hold O1.out HB1x.out (by rw [HZ0.out]; omega) 3 rfl
      go_wp2_with fail
      go_ret
      exact ⟨rfl, (HB0.out.trans (HB1x.out.mono HB0.out.size))⟩
theorem tell_bind {lo hi : Nat} {w0 : World} (l : List Bind) (hh : hi ≤ w0.heap.size) : Tells 150 (fun _ cs x => cs = bindC x) (fun cs => .agg cs.toArray) bindR w0 l :=
  ⟨enters Tryd.func150 (by decide) rfl, fun w cs x hb _ h => bind_any lo hi w cs x h (Nat.le_trans hh hb.size)⟩
set_option maxRecDepth 100000 in
set_option maxHeartbeats 8000000 in
theorem phi_any (lo hi : Nat) (w : World) (cs : List Value) (x : Phi) (hx : PhiC lo hi w cs x) (hh : hi ≤ w.heap.size) : Calls Tryd.prog 82 #[.agg cs.toArray] w (Says w (phiR x)) := by
  obtain ⟨y1, rfl, k1⟩ := hx
  obtain ⟨a, l⟩ := x
  simp only at k1 ⊢
  obtain ⟨B1, c1, rfl⟩ := k1.form
  obtain ⟨t0, h0⟩ : ∃ t, nameV a = t := ⟨_, rfl⟩
  obtain ⟨t1, h1⟩ : ∃ t, decide (0 < l.length) = t := ⟨_, rfl⟩
  obtain ⟨t2, h2⟩ : ∃ t, allR 256 inR l = t := ⟨_, rfl⟩
  have hr : phiR ⟨a, l⟩ = (t0 && (t1 && t2)) := by
    unfold phiR
    simp only
    rw [h0, h1, h2]
  rw [hr]
  clear hr
  show Calls Tryd.prog 82 #[.agg #[str a, .slice B1 l.length c1]] w _
  obtain ⟨W, hW⟩ : ∃ W, w.alloc (.cells #[str a, .slice B1 l.length c1] 63) = W := ⟨_, rfl⟩
  obtain ⟨o1, hb0, hz0⟩ := boxed1 (c := [str a, .slice B1 l.length c1]) hW
  have O1 := Lib.hid o1
  have HB0 := Lib.hid hb0
  have HZ0 := Lib.hid hz0
  have HW := Lib.hid hW
  have Q0 := Lib.hid fun (w' : World) (hb : Below W.heap.size W w') => (name_says a t0 h0 w')
  have e1 : decide (0 < l.length) = t1 := h1
  have Q2 := Lib.hid fun (w' : World) (hb : Below W.heap.size W w') => (show Calls Tryd.prog 109 #[.slice B1 l.length c1, .int .i64 256, fv 110] w' (Says w' t2) from by rw [← h2]; exact (allIn_any _ _ w' _ _ 256 _ _ (Binds.move (Still.of_below ((HB0.out.trans (hb.mono HB0.out.size)).mono hh)) k1) (Nat.le_trans hh (Nat.le_trans HB0.out.size hb.size)) (tell_in (lo := 0) _ (Nat.le_trans hh (Nat.le_trans HB0.out.size hb.size))) (by decide)))
  clear h0 h1 h2 o1 hb0 hz0 hW k1
  cases t0 with
  | false =>
    go_enter Tryd.func82, Tryd.ntmps82
    go_wp2_with fail
    rw [HW.out]
    refine (Q0.out _ (Below.refl _ _)).mono ?_; rintro e w0 ⟨rfl, hb0⟩
    have HB0x := Lib.hid hb0
    clear hb0
    have g0 := own_hold O1.out HB0x.out (by rw [HZ0.out]; omega) 0 rfl
    have g1 := own_hold O1.out HB0x.out (by rw [HZ0.out]; omega) 1 rfl
    go_wp2_with fail
    go_ret
    exact ⟨rfl, (HB0.out.trans (HB0x.out.mono HB0.out.size))⟩
  | true =>
    cases t1 with
    | false =>
      go_enter Tryd.func82, Tryd.ntmps82
      go_wp2_with fail
      rw [HW.out]
      refine (Q0.out _ (Below.refl _ _)).mono ?_; rintro e w0 ⟨rfl, hb0⟩
      have HB0x := Lib.hid hb0
      clear hb0
      have g0 := own_hold O1.out HB0x.out (by rw [HZ0.out]; omega) 0 rfl
      have g1 := own_hold O1.out HB0x.out (by rw [HZ0.out]; omega) 1 rfl
      go_wp2_with fail
      go_ret
      exact ⟨rfl, (HB0.out.trans (HB0x.out.mono HB0.out.size))⟩
    | true =>
      cases t2 with
      | false =>
        go_enter Tryd.func82, Tryd.ntmps82
        go_wp2_with fail
        rw [HW.out]
        refine (Q0.out _ (Below.refl _ _)).mono ?_; rintro e w0 ⟨rfl, hb0⟩
        have HB0x := Lib.hid hb0
        clear hb0
        have g0 := own_hold O1.out HB0x.out (by rw [HZ0.out]; omega) 0 rfl
        have g1 := own_hold O1.out HB0x.out (by rw [HZ0.out]; omega) 1 rfl
        go_wp2_with fail
        refine (Q2.out _ HB0x.out).mono ?_; rintro e w2 ⟨rfl, hb2⟩
        have HB2x := Lib.hid (HB0x.out.trans (hb2.mono HB0x.out.size))
        clear hb2
        clear g0 g1
        have g0 := own_hold O1.out HB2x.out (by rw [HZ0.out]; omega) 0 rfl
        have g1 := own_hold O1.out HB2x.out (by rw [HZ0.out]; omega) 1 rfl
        go_wp2_with fail
        go_ret
        exact ⟨rfl, (HB0.out.trans (HB2x.out.mono HB0.out.size))⟩
      | true =>
        go_enter Tryd.func82, Tryd.ntmps82
        go_wp2_with fail
        rw [HW.out]
        refine (Q0.out _ (Below.refl _ _)).mono ?_; rintro e w0 ⟨rfl, hb0⟩
        have HB0x := Lib.hid hb0
        clear hb0
        have g0 := own_hold O1.out HB0x.out (by rw [HZ0.out]; omega) 0 rfl
        have g1 := own_hold O1.out HB0x.out (by rw [HZ0.out]; omega) 1 rfl
        go_wp2_with fail
        refine (Q2.out _ HB0x.out).mono ?_; rintro e w2 ⟨rfl, hb2⟩
        have HB2x := Lib.hid (HB0x.out.trans (hb2.mono HB0x.out.size))
        clear hb2
        clear g0 g1
        have g0 := own_hold O1.out HB2x.out (by rw [HZ0.out]; omega) 0 rfl
        have g1 := own_hold O1.out HB2x.out (by rw [HZ0.out]; omega) 1 rfl
        go_wp2_with fail
        go_ret
        exact ⟨rfl, (HB0.out.trans (HB2x.out.mono HB0.out.size))⟩
theorem tell_phi {lo hi : Nat} {w0 : World} (l : List Phi) (hh : hi ≤ w0.heap.size) : Tells 82 (fun w cs x => PhiC lo hi w cs x) (fun cs => .agg cs.toArray) phiR w0 l :=
  ⟨enters Tryd.func82 (by decide) rfl, fun w cs x hb _ h => phi_any lo hi w cs x h (Nat.le_trans hh hb.size)⟩
set_option maxRecDepth 100000 in
set_option maxHeartbeats 8000000 in
theorem frame_any (lo hi : Nat) (w : World) (cs : List Value) (x : Api.Frame) (hx : FrameC lo hi w cs x) (hh : hi ≤ w.heap.size) : Calls Tryd.prog 132 #[.agg cs.toArray] w (Says w (frameR x)) := by
  obtain ⟨y1, rfl, k1⟩ := hx
  obtain ⟨a, b, n, l⟩ := x
  simp only at k1 ⊢
  obtain ⟨B1, c1, rfl⟩ := k1.form
  obtain ⟨t0, h0⟩ : ∃ t, nameV a = t := ⟨_, rfl⟩
  obtain ⟨t1, h1⟩ : ∃ t, nameV b = t := ⟨_, rfl⟩
  obtain ⟨t2, h2⟩ : ∃ t, decide (0 ≤ n) = t := ⟨_, rfl⟩
  obtain ⟨t3, h3⟩ : ∃ t, decide (n ≤ 1024) = t := ⟨_, rfl⟩
  obtain ⟨t4, h4⟩ : ∃ t, allR 16 bindR l = t := ⟨_, rfl⟩
  have hr : frameR ⟨a, b, n, l⟩ = (t0 && (t1 && (t2 && (t3 && t4)))) := by
    unfold frameR
    simp only
    rw [h0, h1, h2, h3, h4]; rw [Bool.and_assoc]
  rw [hr]
  clear hr
  show Calls Tryd.prog 132 #[.agg #[str a, str b, i64 n, .slice B1 l.length c1]] w _
  obtain ⟨W, hW⟩ : ∃ W, w.alloc (.cells #[str a, str b, i64 n, .slice B1 l.length c1] 109) = W := ⟨_, rfl⟩
  obtain ⟨o1, hb0, hz0⟩ := boxed1 (c := [str a, str b, i64 n, .slice B1 l.length c1]) hW
  have O1 := Lib.hid o1
  have HB0 := Lib.hid hb0
  have HZ0 := Lib.hid hz0
  have HW := Lib.hid hW
  have Q0 := Lib.hid fun (w' : World) (hb : Below W.heap.size W w') => (name_says a t0 h0 w')
  have Q1 := Lib.hid fun (w' : World) (hb : Below W.heap.size W w') => (name_says b t1 h1 w')
  have e2 : decide (0 ≤ n) = t2 := h2
  have e3 : decide (n ≤ 1024) = t3 := h3
  have Q4 := Lib.hid fun (w' : World) (hb : Below W.heap.size W w') => (show Calls Tryd.prog 149 #[.slice B1 l.length c1, .int .i64 16, fv 150] w' (Says w' t4) from by rw [← h4]; exact (allBind_any _ _ w' _ _ 16 _ _ (Binds.move (Still.of_below ((HB0.out.trans (hb.mono HB0.out.size)).mono hh)) k1) (Nat.le_trans hh (Nat.le_trans HB0.out.size hb.size)) (tell_bind (lo := 0) _ (Nat.le_trans hh (Nat.le_trans HB0.out.size hb.size))) (by decide)))
  clear h0 h1 h2 h3 h4 o1 hb0 hz0 hW k1
  cases t0 with
  | false =>
    go_enter Tryd.func132, Tryd.ntmps132
    go_wp2_with fail
    rw [HW.out]
    refine (Q0.out _ (Below.refl _ _)).mono ?_; rintro e w0 ⟨rfl, hb0⟩
    have HB0x := Lib.hid hb0
    clear hb0
    have g0 := own_hold O1.out HB0x.out (by rw [HZ0.out]; omega) 0 rfl
    have g1 := own_hold O1.out HB0x.out (by rw [HZ0.out]; omega) 1 rfl
    have g2 := own_hold O1.out HB0x.out (by rw [HZ0.out]; omega) 2 rfl
    have g3 := own_hold O1.out HB0x.out (by rw [HZ0.out]; omega) 3 rfl
    go_wp2_with fail
    go_ret
    exact ⟨rfl, (HB0.out.trans (HB0x.out.mono HB0.out.size))⟩
  | true =>
    cases t1 with
    | false =>
      go_enter Tryd.func132, Tryd.ntmps132
      go_wp2_with fail
      rw [HW.out]
      refine (Q0.out _ (Below.refl _ _)).mono ?_; rintro e w0 ⟨rfl, hb0⟩
      have HB0x := Lib.hid hb0
      clear hb0
      have g0 := own_hold O1.out HB0x.out (by rw [HZ0.out]; omega) 0 rfl
      have g1 := own_hold O1.out HB0x.out (by rw [HZ0.out]; omega) 1 rfl
      have g2 := own_hold O1.out HB0x.out (by rw [HZ0.out]; omega) 2 rfl
      have g3 := own_hold O1.out HB0x.out (by rw [HZ0.out]; omega) 3 rfl
      go_wp2_with fail
      refine (Q1.out _ HB0x.out).mono ?_; rintro e w1 ⟨rfl, hb1⟩
      have HB1x := Lib.hid (HB0x.out.trans (hb1.mono HB0x.out.size))
      clear hb1
      clear g0 g1 g2 g3
      have g0 := own_hold O1.out HB1x.out (by rw [HZ0.out]; omega) 0 rfl
      have g1 := own_hold O1.out HB1x.out (by rw [HZ0.out]; omega) 1 rfl
      have g2 := own_hold O1.out HB1x.out (by rw [HZ0.out]; omega) 2 rfl
      have g3 := own_hold O1.out HB1x.out (by rw [HZ0.out]; omega) 3 rfl
      go_wp2_with fail
      go_ret
      exact ⟨rfl, (HB0.out.trans (HB1x.out.mono HB0.out.size))⟩
    | true =>
      cases t2 with
      | false =>
        go_enter Tryd.func132, Tryd.ntmps132
        go_wp2_with fail
        rw [HW.out]
        refine (Q0.out _ (Below.refl _ _)).mono ?_; rintro e w0 ⟨rfl, hb0⟩
        have HB0x := Lib.hid hb0
        clear hb0
        have g0 := own_hold O1.out HB0x.out (by rw [HZ0.out]; omega) 0 rfl
        have g1 := own_hold O1.out HB0x.out (by rw [HZ0.out]; omega) 1 rfl
        have g2 := own_hold O1.out HB0x.out (by rw [HZ0.out]; omega) 2 rfl
        have g3 := own_hold O1.out HB0x.out (by rw [HZ0.out]; omega) 3 rfl
        go_wp2_with fail
        refine (Q1.out _ HB0x.out).mono ?_; rintro e w1 ⟨rfl, hb1⟩
        have HB1x := Lib.hid (HB0x.out.trans (hb1.mono HB0x.out.size))
        clear hb1
        clear g0 g1 g2 g3
        have g0 := own_hold O1.out HB1x.out (by rw [HZ0.out]; omega) 0 rfl
        have g1 := own_hold O1.out HB1x.out (by rw [HZ0.out]; omega) 1 rfl
        have g2 := own_hold O1.out HB1x.out (by rw [HZ0.out]; omega) 2 rfl
        have g3 := own_hold O1.out HB1x.out (by rw [HZ0.out]; omega) 3 rfl
        go_wp2_with fail
        go_ret
        exact ⟨rfl, (HB0.out.trans (HB1x.out.mono HB0.out.size))⟩
      | true =>
        cases t3 with
        | false =>
          go_enter Tryd.func132, Tryd.ntmps132
          go_wp2_with fail
          rw [HW.out]
          refine (Q0.out _ (Below.refl _ _)).mono ?_; rintro e w0 ⟨rfl, hb0⟩
          have HB0x := Lib.hid hb0
          clear hb0
          have g0 := own_hold O1.out HB0x.out (by rw [HZ0.out]; omega) 0 rfl
          have g1 := own_hold O1.out HB0x.out (by rw [HZ0.out]; omega) 1 rfl
          have g2 := own_hold O1.out HB0x.out (by rw [HZ0.out]; omega) 2 rfl
          have g3 := own_hold O1.out HB0x.out (by rw [HZ0.out]; omega) 3 rfl
          go_wp2_with fail
          refine (Q1.out _ HB0x.out).mono ?_; rintro e w1 ⟨rfl, hb1⟩
          have HB1x := Lib.hid (HB0x.out.trans (hb1.mono HB0x.out.size))
          clear hb1
          clear g0 g1 g2 g3
          have g0 := own_hold O1.out HB1x.out (by rw [HZ0.out]; omega) 0 rfl
          have g1 := own_hold O1.out HB1x.out (by rw [HZ0.out]; omega) 1 rfl
          have g2 := own_hold O1.out HB1x.out (by rw [HZ0.out]; omega) 2 rfl
          have g3 := own_hold O1.out HB1x.out (by rw [HZ0.out]; omega) 3 rfl
          go_wp2_with fail
          go_ret
          exact ⟨rfl, (HB0.out.trans (HB1x.out.mono HB0.out.size))⟩
        | true =>
          cases t4 with
          | false =>
            go_enter Tryd.func132, Tryd.ntmps132
            go_wp2_with fail
            rw [HW.out]
            refine (Q0.out _ (Below.refl _ _)).mono ?_; rintro e w0 ⟨rfl, hb0⟩
            have HB0x := Lib.hid hb0
            clear hb0
            have g0 := own_hold O1.out HB0x.out (by rw [HZ0.out]; omega) 0 rfl
            have g1 := own_hold O1.out HB0x.out (by rw [HZ0.out]; omega) 1 rfl
            have g2 := own_hold O1.out HB0x.out (by rw [HZ0.out]; omega) 2 rfl
            have g3 := own_hold O1.out HB0x.out (by rw [HZ0.out]; omega) 3 rfl
            go_wp2_with fail
            refine (Q1.out _ HB0x.out).mono ?_; rintro e w1 ⟨rfl, hb1⟩
            have HB1x := Lib.hid (HB0x.out.trans (hb1.mono HB0x.out.size))
            clear hb1
            clear g0 g1 g2 g3
            have g0 := own_hold O1.out HB1x.out (by rw [HZ0.out]; omega) 0 rfl
            have g1 := own_hold O1.out HB1x.out (by rw [HZ0.out]; omega) 1 rfl
            have g2 := own_hold O1.out HB1x.out (by rw [HZ0.out]; omega) 2 rfl
            have g3 := own_hold O1.out HB1x.out (by rw [HZ0.out]; omega) 3 rfl
            go_wp2_with fail
            refine (Q4.out _ HB1x.out).mono ?_; rintro e w4 ⟨rfl, hb4⟩
            have HB4x := Lib.hid (HB1x.out.trans (hb4.mono HB1x.out.size))
            clear hb4
            clear g0 g1 g2 g3
            have g0 := own_hold O1.out HB4x.out (by rw [HZ0.out]; omega) 0 rfl
            have g1 := own_hold O1.out HB4x.out (by rw [HZ0.out]; omega) 1 rfl
            have g2 := own_hold O1.out HB4x.out (by rw [HZ0.out]; omega) 2 rfl
            have g3 := own_hold O1.out HB4x.out (by rw [HZ0.out]; omega) 3 rfl
            go_wp2_with fail
            go_ret
            exact ⟨rfl, (HB0.out.trans (HB4x.out.mono HB0.out.size))⟩
          | true =>
            go_enter Tryd.func132, Tryd.ntmps132
            go_wp2_with fail
            rw [HW.out]
            refine (Q0.out _ (Below.refl _ _)).mono ?_; rintro e w0 ⟨rfl, hb0⟩
            have HB0x := Lib.hid hb0
            clear hb0
            have g0 := own_hold O1.out HB0x.out (by rw [HZ0.out]; omega) 0 rfl
            have g1 := own_hold O1.out HB0x.out (by rw [HZ0.out]; omega) 1 rfl
            have g2 := own_hold O1.out HB0x.out (by rw [HZ0.out]; omega) 2 rfl
            have g3 := own_hold O1.out HB0x.out (by rw [HZ0.out]; omega) 3 rfl
            go_wp2_with fail
            refine (Q1.out _ HB0x.out).mono ?_; rintro e w1 ⟨rfl, hb1⟩
            have HB1x := Lib.hid (HB0x.out.trans (hb1.mono HB0x.out.size))
            clear hb1
            clear g0 g1 g2 g3
            have g0 := own_hold O1.out HB1x.out (by rw [HZ0.out]; omega) 0 rfl
            have g1 := own_hold O1.out HB1x.out (by rw [HZ0.out]; omega) 1 rfl
            have g2 := own_hold O1.out HB1x.out (by rw [HZ0.out]; omega) 2 rfl
            have g3 := own_hold O1.out HB1x.out (by rw [HZ0.out]; omega) 3 rfl
            go_wp2_with fail
            refine (Q4.out _ HB1x.out).mono ?_; rintro e w4 ⟨rfl, hb4⟩
            have HB4x := Lib.hid (HB1x.out.trans (hb4.mono HB1x.out.size))
            clear hb4
            clear g0 g1 g2 g3
            have g0 := own_hold O1.out HB4x.out (by rw [HZ0.out]; omega) 0 rfl
            have g1 := own_hold O1.out HB4x.out (by rw [HZ0.out]; omega) 1 rfl
            have g2 := own_hold O1.out HB4x.out (by rw [HZ0.out]; omega) 2 rfl
            have g3 := own_hold O1.out HB4x.out (by rw [HZ0.out]; omega) 3 rfl
            go_wp2_with fail
            go_ret
            exact ⟨rfl, (HB0.out.trans (HB4x.out.mono HB0.out.size))⟩
theorem tell_frame {lo hi : Nat} {w0 : World} (l : List Api.Frame) (hh : hi ≤ w0.heap.size) : Tells 132 (fun w cs x => FrameC lo hi w cs x) (fun cs => .agg cs.toArray) frameR w0 l :=
  ⟨enters Tryd.func132 (by decide) rfl, fun w cs x hb _ h => frame_any lo hi w cs x h (Nat.le_trans hh hb.size)⟩
set_option maxRecDepth 100000 in
set_option maxHeartbeats 8000000 in
theorem virt_any (lo hi : Nat) (w : World) (cs : List Value) (x : Virt) (hx : VirtC lo hi w cs x) (hh : hi ≤ w.heap.size) : Calls Tryd.prog 134 #[.agg cs.toArray] w (Says w (virtR x)) := by
  obtain ⟨y1, rfl, k1⟩ := hx
  obtain ⟨a, l⟩ := x
  simp only at k1 ⊢
  obtain ⟨B1, c1, rfl⟩ := k1.form
  obtain ⟨t0, h0⟩ : ∃ t, nameV a = t := ⟨_, rfl⟩
  obtain ⟨t1, h1⟩ : ∃ t, allR 8 argR l = t := ⟨_, rfl⟩
  have hr : virtR ⟨a, l⟩ = (t0 && t1) := by
    unfold virtR
    simp only
    rw [h0, h1]
  rw [hr]
  clear hr
  show Calls Tryd.prog 134 #[.agg #[str a, .slice B1 l.length c1]] w _
  obtain ⟨W, hW⟩ : ∃ W, w.alloc (.cells #[str a, .slice B1 l.length c1] 113) = W := ⟨_, rfl⟩
  obtain ⟨o1, hb0, hz0⟩ := boxed1 (c := [str a, .slice B1 l.length c1]) hW
  have O1 := Lib.hid o1
  have HB0 := Lib.hid hb0
  have HZ0 := Lib.hid hz0
  have HW := Lib.hid hW
  have Q0 := Lib.hid fun (w' : World) (hb : Below W.heap.size W w') => (name_says a t0 h0 w')
  have Q1 := Lib.hid fun (w' : World) (hb : Below W.heap.size W w') => (show Calls Tryd.prog 113 #[.slice B1 l.length c1, .int .i64 8, fv 124] w' (Says w' t1) from by rw [← h1]; exact (allArg_any _ _ w' _ _ 8 _ _ (Args.move (Still.of_below ((HB0.out.trans (hb.mono HB0.out.size)).mono hh)) k1) (Nat.le_trans hh (Nat.le_trans HB0.out.size hb.size)) (tell_right _ _) (by decide)))
  clear h0 h1 o1 hb0 hz0 hW k1
  cases t0 with
  | false =>
    go_enter Tryd.func134, Tryd.ntmps134
    go_wp2_with fail
    rw [HW.out]
    refine (Q0.out _ (Below.refl _ _)).mono ?_; rintro e w0 ⟨rfl, hb0⟩
    have HB0x := Lib.hid hb0
    clear hb0
    have g0 := own_hold O1.out HB0x.out (by rw [HZ0.out]; omega) 0 rfl
    have g1 := own_hold O1.out HB0x.out (by rw [HZ0.out]; omega) 1 rfl
    go_wp2_with fail
    go_ret
    exact ⟨rfl, (HB0.out.trans (HB0x.out.mono HB0.out.size))⟩
  | true =>
    cases t1 with
    | false =>
      go_enter Tryd.func134, Tryd.ntmps134
      go_wp2_with fail
      rw [HW.out]
      refine (Q0.out _ (Below.refl _ _)).mono ?_; rintro e w0 ⟨rfl, hb0⟩
      have HB0x := Lib.hid hb0
      clear hb0
      have g0 := own_hold O1.out HB0x.out (by rw [HZ0.out]; omega) 0 rfl
      have g1 := own_hold O1.out HB0x.out (by rw [HZ0.out]; omega) 1 rfl
      go_wp2_with fail
      refine (Q1.out _ HB0x.out).mono ?_; rintro e w1 ⟨rfl, hb1⟩
      have HB1x := Lib.hid (HB0x.out.trans (hb1.mono HB0x.out.size))
      clear hb1
      clear g0 g1
      have g0 := own_hold O1.out HB1x.out (by rw [HZ0.out]; omega) 0 rfl
      have g1 := own_hold O1.out HB1x.out (by rw [HZ0.out]; omega) 1 rfl
      go_wp2_with fail
      go_ret
      exact ⟨rfl, (HB0.out.trans (HB1x.out.mono HB0.out.size))⟩
    | true =>
      go_enter Tryd.func134, Tryd.ntmps134
      go_wp2_with fail
      rw [HW.out]
      refine (Q0.out _ (Below.refl _ _)).mono ?_; rintro e w0 ⟨rfl, hb0⟩
      have HB0x := Lib.hid hb0
      clear hb0
      have g0 := own_hold O1.out HB0x.out (by rw [HZ0.out]; omega) 0 rfl
      have g1 := own_hold O1.out HB0x.out (by rw [HZ0.out]; omega) 1 rfl
      go_wp2_with fail
      refine (Q1.out _ HB0x.out).mono ?_; rintro e w1 ⟨rfl, hb1⟩
      have HB1x := Lib.hid (HB0x.out.trans (hb1.mono HB0x.out.size))
      clear hb1
      clear g0 g1
      have g0 := own_hold O1.out HB1x.out (by rw [HZ0.out]; omega) 0 rfl
      have g1 := own_hold O1.out HB1x.out (by rw [HZ0.out]; omega) 1 rfl
      go_wp2_with fail
      go_ret
      exact ⟨rfl, (HB0.out.trans (HB1x.out.mono HB0.out.size))⟩
theorem tell_virt {lo hi : Nat} {w0 : World} (l : List Virt) (hh : hi ≤ w0.heap.size) : Tells 134 (fun w cs x => VirtC lo hi w cs x) (fun cs => .agg cs.toArray) virtR w0 l :=
  ⟨enters Tryd.func134 (by decide) rfl, fun w cs x hb _ h => virt_any lo hi w cs x h (Nat.le_trans hh hb.size)⟩
end Go.Proofs.YtdgmdpphimenjaaDoor.Sh6

/-
  Package show: what is right of ends, states, instructions, blocks, functions, programs, walked.
-/
namespace Go.Proofs.YtdgmdpphimenjaaDoor.Sh6
open Go.RowKit Api Syn WordM Mem Rd5

set_option maxHeartbeats 4000000 in
theorem argN_any (a : Arg) (b : Bool) (h : argN a = b) (w : World) : Calls Tryd.prog 116 #[.agg #[i64 a.kind, str a.s, i64 a.n]] w (Says w b) := by
  obtain ⟨k, x, n⟩ := a
  unfold argN at h
  simp only at h ⊢
  obtain ⟨s, hs⟩ : ∃ s : ByteArray, s = ⟨x.toArray⟩ := ⟨_, rfl⟩
  have e0 := str_empty (x := x) (s := s) (by rw [hs])
  rw [← e0] at h
  rw [show (str x : Value) = .string s by rw [hs]]
  clear hs e0
  subst h
  obtain ⟨t0, h0⟩ : ∃ t, (k == 0) = t := ⟨_, rfl⟩
  obtain ⟨t1, h1⟩ : ∃ t, s.toList.isEmpty = t := ⟨_, rfl⟩
  obtain ⟨t2, h2⟩ : ∃ t, (n == 0) = t := ⟨_, rfl⟩
  rw [h0, h1, h2]
  cases t0 <;> cases t1 <;> cases t2
  all_goals
    go_enter Tryd.func116, Tryd.ntmps116
    go_wp2
    go_ret
    exact ⟨rfl, (Below.refl _ _).alloc (Nat.le_refl _) _⟩
theorem dests_any (lo hi : Nat) (w : World) (v : Value) (l : List Wd) (n : Nat) (hl : Texts lo hi w v l) (hh : hi ≤ w.heap.size) (hn : n ≤ 2) (b : Bool) (h : destsR n l = b) : Calls Tryd.prog 117 #[v, .int .i64 (n : Int)] w (Says w b) := by
  obtain ⟨A, cap, rfl⟩ := hl.form
  obtain ⟨t1, h1⟩ : ∃ t, allR n nameV l = t := ⟨_, rfl⟩
  have Q := Lib.hid (allStr_any lo hi w _ l n _ nameV hl hh (tell_name w l) (by omega))
  rw [h1] at Q
  by_cases hln : l.length = n
  · have hb : b = t1 := by
      rw [← h, ← h1]
      unfold destsR allR
      rw [decide_eq_true hln, decide_eq_true (by omega)]
    subst hb
    subst hln
    have e0 : (l.length == l.length) = true := by simp
    clear h h1 hl
    go_enter Tryd.func117, Tryd.ntmps117
    go_wp2_with fail
    refine (Q.out).mono ?_; rintro e w1 ⟨rfl, hb⟩
    have HB := Lib.hid hb
    clear hb
    go_wp2_with fail
    go_ret
    exact ⟨rfl, HB.out⟩
  · have e0 : (l.length == n) = false := by simp [hln]
    obtain rfl : b = false := by
      rw [← h]
      unfold destsR
      rw [decide_eq_false hln]; rfl
    clear h h1 hl
    go_enter Tryd.func117, Tryd.ntmps117
    go_wp2_with fail
    go_ret
    exact ⟨rfl, Below.refl _ _⟩
set_option maxRecDepth 100000 in
set_option maxHeartbeats 8000000 in
theorem end1 (lo hi : Nat) (w : World) (k ak an n : Int) (a : Wd) (dl : List Wd) (B1 : Option Addr) (c1 : Nat) (hk : k = 1) (kd : Texts lo hi w (.slice B1 dl.length c1) dl) (hh : hi ≤ w.heap.size) : Calls Tryd.prog 85 #[.agg #[i64 k, i64 ak, str a, i64 an, .slice B1 dl.length c1, i64 n]] w (Says w (argN ⟨ak, a, an⟩ && (destsR 1 dl && (n == 0)))) := by
  obtain ⟨t0, h0⟩ : ∃ t, argN ⟨ak, a, an⟩ = t := ⟨_, rfl⟩
  obtain ⟨t1, h1⟩ : ∃ t, destsR 1 dl = t := ⟨_, rfl⟩
  obtain ⟨t2, h2⟩ : ∃ t, (n == 0) = t := ⟨_, rfl⟩
  rw [h0, h1, h2]
  obtain ⟨W, hW⟩ : ∃ W, w.alloc (.cells #[i64 k, i64 ak, str a, i64 an, .slice B1 dl.length c1, i64 n] 46) = W := ⟨_, rfl⟩
  obtain ⟨o1, hb0, hz0⟩ := boxed1 (c := [i64 k, i64 ak, str a, i64 an, .slice B1 dl.length c1, i64 n]) hW
  have O1 := Lib.hid o1
  have HB0 := Lib.hid hb0
  have HZ0 := Lib.hid hz0
  have HW := Lib.hid hW
  have Q0 := Lib.hid fun (w' : World) (hb : Below W.heap.size W w') => (argN_any ⟨ak, a, an⟩ t0 h0 w')
  have Q1 := Lib.hid fun (w' : World) (hb : Below W.heap.size W w') => (show Calls Tryd.prog 117 #[.slice B1 dl.length c1, .int .i64 1] w' (Says w' t1) from dests_any lo hi w' _ dl 1 (Texts.move (Still.of_below ((HB0.out.trans (hb.mono HB0.out.size)).mono hh)) kd) (Nat.le_trans hh (Nat.le_trans HB0.out.size hb.size)) (by decide) t1 h1)
  have e2 : (n == 0) = t2 := h2
  obtain rfl : k = 1 := hk
  clear h0 h1 h2 o1 hb0 hz0 hW kd
  cases t0 with
  | false =>
    go_enter Tryd.func85, Tryd.ntmps85
    go_wp2_with fail
    rw [HW.out]
    refine (Q0.out _ (Below.refl _ _)).mono ?_; rintro e w0 ⟨rfl, hb0⟩
    have HB0x := Lib.hid hb0
    clear hb0
    have g0 := own_hold O1.out HB0x.out (by rw [HZ0.out]; omega) 0 rfl
    have g1 := own_hold O1.out HB0x.out (by rw [HZ0.out]; omega) 1 rfl
    have g2 := own_hold O1.out HB0x.out (by rw [HZ0.out]; omega) 2 rfl
    have g3 := own_hold O1.out HB0x.out (by rw [HZ0.out]; omega) 3 rfl
    have g4 := own_hold O1.out HB0x.out (by rw [HZ0.out]; omega) 4 rfl
    have g5 := own_hold O1.out HB0x.out (by rw [HZ0.out]; omega) 5 rfl
    go_wp2_with fail
    go_ret
    exact ⟨rfl, (HB0.out.trans (HB0x.out.mono HB0.out.size))⟩
  | true =>
    cases t1 with
    | false =>
      go_enter Tryd.func85, Tryd.ntmps85
      go_wp2_with fail
      rw [HW.out]
      refine (Q0.out _ (Below.refl _ _)).mono ?_; rintro e w0 ⟨rfl, hb0⟩
      have HB0x := Lib.hid hb0
      clear hb0
      have g0 := own_hold O1.out HB0x.out (by rw [HZ0.out]; omega) 0 rfl
      have g1 := own_hold O1.out HB0x.out (by rw [HZ0.out]; omega) 1 rfl
      have g2 := own_hold O1.out HB0x.out (by rw [HZ0.out]; omega) 2 rfl
      have g3 := own_hold O1.out HB0x.out (by rw [HZ0.out]; omega) 3 rfl
      have g4 := own_hold O1.out HB0x.out (by rw [HZ0.out]; omega) 4 rfl
      have g5 := own_hold O1.out HB0x.out (by rw [HZ0.out]; omega) 5 rfl
      go_wp2_with fail
      refine (Q1.out _ HB0x.out).mono ?_; rintro e w1 ⟨rfl, hb1⟩
      have HB1x := Lib.hid (HB0x.out.trans (hb1.mono HB0x.out.size))
      clear hb1
      clear g0 g1 g2 g3 g4 g5
      have g0 := own_hold O1.out HB1x.out (by rw [HZ0.out]; omega) 0 rfl
      have g1 := own_hold O1.out HB1x.out (by rw [HZ0.out]; omega) 1 rfl
      have g2 := own_hold O1.out HB1x.out (by rw [HZ0.out]; omega) 2 rfl
      have g3 := own_hold O1.out HB1x.out (by rw [HZ0.out]; omega) 3 rfl
      have g4 := own_hold O1.out HB1x.out (by rw [HZ0.out]; omega) 4 rfl
      have g5 := own_hold O1.out HB1x.out (by rw [HZ0.out]; omega) 5 rfl
      go_wp2_with fail
      go_ret
      exact ⟨rfl, (HB0.out.trans (HB1x.out.mono HB0.out.size))⟩
    | true =>
      cases t2 with
      | false =>
        go_enter Tryd.func85, Tryd.ntmps85
        go_wp2_with fail
        rw [HW.out]
        refine (Q0.out _ (Below.refl _ _)).mono ?_; rintro e w0 ⟨rfl, hb0⟩
        have HB0x := Lib.hid hb0
        clear hb0
        have g0 := own_hold O1.out HB0x.out (by rw [HZ0.out]; omega) 0 rfl
        have g1 := own_hold O1.out HB0x.out (by rw [HZ0.out]; omega) 1 rfl
        have g2 := own_hold O1.out HB0x.out (by rw [HZ0.out]; omega) 2 rfl
        have g3 := own_hold O1.out HB0x.out (by rw [HZ0.out]; omega) 3 rfl
        have g4 := own_hold O1.out HB0x.out (by rw [HZ0.out]; omega) 4 rfl
        have g5 := own_hold O1.out HB0x.out (by rw [HZ0.out]; omega) 5 rfl
        go_wp2_with fail
        refine (Q1.out _ HB0x.out).mono ?_; rintro e w1 ⟨rfl, hb1⟩
        have HB1x := Lib.hid (HB0x.out.trans (hb1.mono HB0x.out.size))
        clear hb1
        clear g0 g1 g2 g3 g4 g5
        have g0 := own_hold O1.out HB1x.out (by rw [HZ0.out]; omega) 0 rfl
        have g1 := own_hold O1.out HB1x.out (by rw [HZ0.out]; omega) 1 rfl
        have g2 := own_hold O1.out HB1x.out (by rw [HZ0.out]; omega) 2 rfl
        have g3 := own_hold O1.out HB1x.out (by rw [HZ0.out]; omega) 3 rfl
        have g4 := own_hold O1.out HB1x.out (by rw [HZ0.out]; omega) 4 rfl
        have g5 := own_hold O1.out HB1x.out (by rw [HZ0.out]; omega) 5 rfl
        go_wp2_with fail
        go_ret
        exact ⟨rfl, (HB0.out.trans (HB1x.out.mono HB0.out.size))⟩
      | true =>
        go_enter Tryd.func85, Tryd.ntmps85
        go_wp2_with fail
        rw [HW.out]
        refine (Q0.out _ (Below.refl _ _)).mono ?_; rintro e w0 ⟨rfl, hb0⟩
        have HB0x := Lib.hid hb0
        clear hb0
        have g0 := own_hold O1.out HB0x.out (by rw [HZ0.out]; omega) 0 rfl
        have g1 := own_hold O1.out HB0x.out (by rw [HZ0.out]; omega) 1 rfl
        have g2 := own_hold O1.out HB0x.out (by rw [HZ0.out]; omega) 2 rfl
        have g3 := own_hold O1.out HB0x.out (by rw [HZ0.out]; omega) 3 rfl
        have g4 := own_hold O1.out HB0x.out (by rw [HZ0.out]; omega) 4 rfl
        have g5 := own_hold O1.out HB0x.out (by rw [HZ0.out]; omega) 5 rfl
        go_wp2_with fail
        refine (Q1.out _ HB0x.out).mono ?_; rintro e w1 ⟨rfl, hb1⟩
        have HB1x := Lib.hid (HB0x.out.trans (hb1.mono HB0x.out.size))
        clear hb1
        clear g0 g1 g2 g3 g4 g5
        have g0 := own_hold O1.out HB1x.out (by rw [HZ0.out]; omega) 0 rfl
        have g1 := own_hold O1.out HB1x.out (by rw [HZ0.out]; omega) 1 rfl
        have g2 := own_hold O1.out HB1x.out (by rw [HZ0.out]; omega) 2 rfl
        have g3 := own_hold O1.out HB1x.out (by rw [HZ0.out]; omega) 3 rfl
        have g4 := own_hold O1.out HB1x.out (by rw [HZ0.out]; omega) 4 rfl
        have g5 := own_hold O1.out HB1x.out (by rw [HZ0.out]; omega) 5 rfl
        go_wp2_with fail
        go_ret
        exact ⟨rfl, (HB0.out.trans (HB1x.out.mono HB0.out.size))⟩
set_option maxRecDepth 100000 in
set_option maxHeartbeats 8000000 in
theorem end2 (lo hi : Nat) (w : World) (k ak an n : Int) (a : Wd) (dl : List Wd) (B1 : Option Addr) (c1 : Nat) (hk : k = 2) (kd : Texts lo hi w (.slice B1 dl.length c1) dl) (hh : hi ≤ w.heap.size) : Calls Tryd.prog 85 #[.agg #[i64 k, i64 ak, str a, i64 an, .slice B1 dl.length c1, i64 n]] w (Says w (argX ⟨ak, a, an⟩ && (destsR 2 dl && (n == 0)))) := by
  obtain ⟨t0, h0⟩ : ∃ t, argX ⟨ak, a, an⟩ = t := ⟨_, rfl⟩
  obtain ⟨t1, h1⟩ : ∃ t, destsR 2 dl = t := ⟨_, rfl⟩
  obtain ⟨t2, h2⟩ : ∃ t, (n == 0) = t := ⟨_, rfl⟩
  rw [h0, h1, h2]
  obtain ⟨W, hW⟩ : ∃ W, w.alloc (.cells #[i64 k, i64 ak, str a, i64 an, .slice B1 dl.length c1, i64 n] 46) = W := ⟨_, rfl⟩
  obtain ⟨o1, hb0, hz0⟩ := boxed1 (c := [i64 k, i64 ak, str a, i64 an, .slice B1 dl.length c1, i64 n]) hW
  have O1 := Lib.hid o1
  have HB0 := Lib.hid hb0
  have HZ0 := Lib.hid hz0
  have HW := Lib.hid hW
  have Q0 := Lib.hid fun (w' : World) (hb : Below W.heap.size W w') => (show Calls Tryd.prog 114 #[.agg #[i64 ak, str a, i64 an]] w' (Says w' t0) from by rw [← h0]; exact argX_any 0 0 w' _ ⟨ak, a, an⟩ rfl (Nat.zero_le _))
  have Q1 := Lib.hid fun (w' : World) (hb : Below W.heap.size W w') => (show Calls Tryd.prog 117 #[.slice B1 dl.length c1, .int .i64 2] w' (Says w' t1) from dests_any lo hi w' _ dl 2 (Texts.move (Still.of_below ((HB0.out.trans (hb.mono HB0.out.size)).mono hh)) kd) (Nat.le_trans hh (Nat.le_trans HB0.out.size hb.size)) (by decide) t1 h1)
  have e2 : (n == 0) = t2 := h2
  obtain rfl : k = 2 := hk
  clear h0 h1 h2 o1 hb0 hz0 hW kd
  cases t0 with
  | false =>
    go_enter Tryd.func85, Tryd.ntmps85
    go_wp2_with fail
    rw [HW.out]
    refine (Q0.out _ (Below.refl _ _)).mono ?_; rintro e w0 ⟨rfl, hb0⟩
    have HB0x := Lib.hid hb0
    clear hb0
    have g0 := own_hold O1.out HB0x.out (by rw [HZ0.out]; omega) 0 rfl
    have g1 := own_hold O1.out HB0x.out (by rw [HZ0.out]; omega) 1 rfl
    have g2 := own_hold O1.out HB0x.out (by rw [HZ0.out]; omega) 2 rfl
    have g3 := own_hold O1.out HB0x.out (by rw [HZ0.out]; omega) 3 rfl
    have g4 := own_hold O1.out HB0x.out (by rw [HZ0.out]; omega) 4 rfl
    have g5 := own_hold O1.out HB0x.out (by rw [HZ0.out]; omega) 5 rfl
    go_wp2_with fail
    go_ret
    exact ⟨rfl, (HB0.out.trans (HB0x.out.mono HB0.out.size))⟩
  | true =>
    cases t1 with
    | false =>
      go_enter Tryd.func85, Tryd.ntmps85
      go_wp2_with fail
      rw [HW.out]
      refine (Q0.out _ (Below.refl _ _)).mono ?_; rintro e w0 ⟨rfl, hb0⟩
      have HB0x := Lib.hid hb0
      clear hb0
      have g0 := own_hold O1.out HB0x.out (by rw [HZ0.out]; omega) 0 rfl
      have g1 := own_hold O1.out HB0x.out (by rw [HZ0.out]; omega) 1 rfl
      have g2 := own_hold O1.out HB0x.out (by rw [HZ0.out]; omega) 2 rfl
      have g3 := own_hold O1.out HB0x.out (by rw [HZ0.out]; omega) 3 rfl
      have g4 := own_hold O1.out HB0x.out (by rw [HZ0.out]; omega) 4 rfl
      have g5 := own_hold O1.out HB0x.out (by rw [HZ0.out]; omega) 5 rfl
      go_wp2_with fail
      refine (Q1.out _ HB0x.out).mono ?_; rintro e w1 ⟨rfl, hb1⟩
      have HB1x := Lib.hid (HB0x.out.trans (hb1.mono HB0x.out.size))
      clear hb1
      clear g0 g1 g2 g3 g4 g5
      have g0 := own_hold O1.out HB1x.out (by rw [HZ0.out]; omega) 0 rfl
      have g1 := own_hold O1.out HB1x.out (by rw [HZ0.out]; omega) 1 rfl
      have g2 := own_hold O1.out HB1x.out (by rw [HZ0.out]; omega) 2 rfl
      have g3 := own_hold O1.out HB1x.out (by rw [HZ0.out]; omega) 3 rfl
      have g4 := own_hold O1.out HB1x.out (by rw [HZ0.out]; omega) 4 rfl
      have g5 := own_hold O1.out HB1x.out (by rw [HZ0.out]; omega) 5 rfl
      go_wp2_with fail
      go_ret
      exact ⟨rfl, (HB0.out.trans (HB1x.out.mono HB0.out.size))⟩
    | true =>
      cases t2 with
      | false =>
        go_enter Tryd.func85, Tryd.ntmps85
        go_wp2_with fail
        rw [HW.out]
        refine (Q0.out _ (Below.refl _ _)).mono ?_; rintro e w0 ⟨rfl, hb0⟩
        have HB0x := Lib.hid hb0
        clear hb0
        have g0 := own_hold O1.out HB0x.out (by rw [HZ0.out]; omega) 0 rfl
        have g1 := own_hold O1.out HB0x.out (by rw [HZ0.out]; omega) 1 rfl
        have g2 := own_hold O1.out HB0x.out (by rw [HZ0.out]; omega) 2 rfl
        have g3 := own_hold O1.out HB0x.out (by rw [HZ0.out]; omega) 3 rfl
        have g4 := own_hold O1.out HB0x.out (by rw [HZ0.out]; omega) 4 rfl
        have g5 := own_hold O1.out HB0x.out (by rw [HZ0.out]; omega) 5 rfl
        go_wp2_with fail
        refine (Q1.out _ HB0x.out).mono ?_; rintro e w1 ⟨rfl, hb1⟩
        have HB1x := Lib.hid (HB0x.out.trans (hb1.mono HB0x.out.size))
        clear hb1
        clear g0 g1 g2 g3 g4 g5
        have g0 := own_hold O1.out HB1x.out (by rw [HZ0.out]; omega) 0 rfl
        have g1 := own_hold O1.out HB1x.out (by rw [HZ0.out]; omega) 1 rfl
        have g2 := own_hold O1.out HB1x.out (by rw [HZ0.out]; omega) 2 rfl
        have g3 := own_hold O1.out HB1x.out (by rw [HZ0.out]; omega) 3 rfl
        have g4 := own_hold O1.out HB1x.out (by rw [HZ0.out]; omega) 4 rfl
        have g5 := own_hold O1.out HB1x.out (by rw [HZ0.out]; omega) 5 rfl
        go_wp2_with fail
        go_ret
        exact ⟨rfl, (HB0.out.trans (HB1x.out.mono HB0.out.size))⟩
      | true =>
        go_enter Tryd.func85, Tryd.ntmps85
        go_wp2_with fail
        rw [HW.out]
        refine (Q0.out _ (Below.refl _ _)).mono ?_; rintro e w0 ⟨rfl, hb0⟩
        have HB0x := Lib.hid hb0
        clear hb0
        have g0 := own_hold O1.out HB0x.out (by rw [HZ0.out]; omega) 0 rfl
        have g1 := own_hold O1.out HB0x.out (by rw [HZ0.out]; omega) 1 rfl
        have g2 := own_hold O1.out HB0x.out (by rw [HZ0.out]; omega) 2 rfl
        have g3 := own_hold O1.out HB0x.out (by rw [HZ0.out]; omega) 3 rfl
        have g4 := own_hold O1.out HB0x.out (by rw [HZ0.out]; omega) 4 rfl
        have g5 := own_hold O1.out HB0x.out (by rw [HZ0.out]; omega) 5 rfl
        go_wp2_with fail
        refine (Q1.out _ HB0x.out).mono ?_; rintro e w1 ⟨rfl, hb1⟩
        have HB1x := Lib.hid (HB0x.out.trans (hb1.mono HB0x.out.size))
        clear hb1
        clear g0 g1 g2 g3 g4 g5
        have g0 := own_hold O1.out HB1x.out (by rw [HZ0.out]; omega) 0 rfl
        have g1 := own_hold O1.out HB1x.out (by rw [HZ0.out]; omega) 1 rfl
        have g2 := own_hold O1.out HB1x.out (by rw [HZ0.out]; omega) 2 rfl
        have g3 := own_hold O1.out HB1x.out (by rw [HZ0.out]; omega) 3 rfl
        have g4 := own_hold O1.out HB1x.out (by rw [HZ0.out]; omega) 4 rfl
        have g5 := own_hold O1.out HB1x.out (by rw [HZ0.out]; omega) 5 rfl
        go_wp2_with fail
        go_ret
        exact ⟨rfl, (HB0.out.trans (HB1x.out.mono HB0.out.size))⟩
set_option maxRecDepth 100000 in
set_option maxHeartbeats 8000000 in
theorem end3 (lo hi : Nat) (w : World) (k ak an n : Int) (a : Wd) (dl : List Wd) (B1 : Option Addr) (c1 : Nat) (hk : k = 3) (kd : Texts lo hi w (.slice B1 dl.length c1) dl) (hh : hi ≤ w.heap.size) : Calls Tryd.prog 85 #[.agg #[i64 k, i64 ak, str a, i64 an, .slice B1 dl.length c1, i64 n]] w (Says w (argX ⟨ak, a, an⟩ && (destsR 0 dl && (n == 0)))) := by
  obtain ⟨t0, h0⟩ : ∃ t, argX ⟨ak, a, an⟩ = t := ⟨_, rfl⟩
  obtain ⟨t1, h1⟩ : ∃ t, destsR 0 dl = t := ⟨_, rfl⟩
  obtain ⟨t2, h2⟩ : ∃ t, (n == 0) = t := ⟨_, rfl⟩
  rw [h0, h1, h2]
  obtain ⟨W, hW⟩ : ∃ W, w.alloc (.cells #[i64 k, i64 ak, str a, i64 an, .slice B1 dl.length c1, i64 n] 46) = W := ⟨_, rfl⟩
  obtain ⟨o1, hb0, hz0⟩ := boxed1 (c := [i64 k, i64 ak, str a, i64 an, .slice B1 dl.length c1, i64 n]) hW
  have O1 := Lib.hid o1
  have HB0 := Lib.hid hb0
  have HZ0 := Lib.hid hz0
  have HW := Lib.hid hW
  have Q0 := Lib.hid fun (w' : World) (hb : Below W.heap.size W w') => (show Calls Tryd.prog 114 #[.agg #[i64 ak, str a, i64 an]] w' (Says w' t0) from by rw [← h0]; exact argX_any 0 0 w' _ ⟨ak, a, an⟩ rfl (Nat.zero_le _))
  have Q1 := Lib.hid fun (w' : World) (hb : Below W.heap.size W w') => (show Calls Tryd.prog 117 #[.slice B1 dl.length c1, .int .i64 0] w' (Says w' t1) from dests_any lo hi w' _ dl 0 (Texts.move (Still.of_below ((HB0.out.trans (hb.mono HB0.out.size)).mono hh)) kd) (Nat.le_trans hh (Nat.le_trans HB0.out.size hb.size)) (by decide) t1 h1)
  have e2 : (n == 0) = t2 := h2
  obtain rfl : k = 3 := hk
  clear h0 h1 h2 o1 hb0 hz0 hW kd
  cases t0 with
  | false =>
    go_enter Tryd.func85, Tryd.ntmps85
    go_wp2_with fail
    rw [HW.out]
    refine (Q0.out _ (Below.refl _ _)).mono ?_; rintro e w0 ⟨rfl, hb0⟩
    have HB0x := Lib.hid hb0
    clear hb0
    have g0 := own_hold O1.out HB0x.out (by rw [HZ0.out]; omega) 0 rfl
    have g1 := own_hold O1.out HB0x.out (by rw [HZ0.out]; omega) 1 rfl
    have g2 := own_hold O1.out HB0x.out (by rw [HZ0.out]; omega) 2 rfl
    have g3 := own_hold O1.out HB0x.out (by rw [HZ0.out]; omega) 3 rfl
    have g4 := own_hold O1.out HB0x.out (by rw [HZ0.out]; omega) 4 rfl
    have g5 := own_hold O1.out HB0x.out (by rw [HZ0.out]; omega) 5 rfl
    go_wp2_with fail
    go_ret
    exact ⟨rfl, (HB0.out.trans (HB0x.out.mono HB0.out.size))⟩
  | true =>
    cases t1 with
    | false =>
      go_enter Tryd.func85, Tryd.ntmps85
      go_wp2_with fail
      rw [HW.out]
      refine (Q0.out _ (Below.refl _ _)).mono ?_; rintro e w0 ⟨rfl, hb0⟩
      have HB0x := Lib.hid hb0
      clear hb0
      have g0 := own_hold O1.out HB0x.out (by rw [HZ0.out]; omega) 0 rfl
      have g1 := own_hold O1.out HB0x.out (by rw [HZ0.out]; omega) 1 rfl
      have g2 := own_hold O1.out HB0x.out (by rw [HZ0.out]; omega) 2 rfl
      have g3 := own_hold O1.out HB0x.out (by rw [HZ0.out]; omega) 3 rfl
      have g4 := own_hold O1.out HB0x.out (by rw [HZ0.out]; omega) 4 rfl
      have g5 := own_hold O1.out HB0x.out (by rw [HZ0.out]; omega) 5 rfl
      go_wp2_with fail
      refine (Q1.out _ HB0x.out).mono ?_; rintro e w1 ⟨rfl, hb1⟩
      have HB1x := Lib.hid (HB0x.out.trans (hb1.mono HB0x.out.size))
      clear hb1
      clear g0 g1 g2 g3 g4 g5
      have g0 := own_hold O1.out HB1x.out (by rw [HZ0.out]; omega) 0 rfl
      have g1 := own_hold O1.out HB1x.out (by rw [HZ0.out]; omega) 1 rfl
      have g2 := own_hold O1.out HB1x.out (by rw [HZ0.out]; omega) 2 rfl
      have g3 := own_hold O1.out HB1x.out (by rw [HZ0.out]; omega) 3 rfl
      have g4 := own_hold O1.out HB1x.out (by rw [HZ0.out]; omega) 4 rfl
      have g5 := own_hold O1.out HB1x.out (by rw [HZ0.out]; omega) 5 rfl
      go_wp2_with fail
      go_ret
      exact ⟨rfl, (HB0.out.trans (HB1x.out.mono HB0.out.size))⟩
    | true =>
      cases t2 with
      | false =>
        go_enter Tryd.func85, Tryd.ntmps85
        go_wp2_with fail
        rw [HW.out]
        refine (Q0.out _ (Below.refl _ _)).mono ?_; rintro e w0 ⟨rfl, hb0⟩
        have HB0x := Lib.hid hb0
        clear hb0
        have g0 := own_hold O1.out HB0x.out (by rw [HZ0.out]; omega) 0 rfl
        have g1 := own_hold O1.out HB0x.out (by rw [HZ0.out]; omega) 1 rfl
        have g2 := own_hold O1.out HB0x.out (by rw [HZ0.out]; omega) 2 rfl
        have g3 := own_hold O1.out HB0x.out (by rw [HZ0.out]; omega) 3 rfl
        have g4 := own_hold O1.out HB0x.out (by rw [HZ0.out]; omega) 4 rfl
        have g5 := own_hold O1.out HB0x.out (by rw [HZ0.out]; omega) 5 rfl
        go_wp2_with fail
        refine (Q1.out _ HB0x.out).mono ?_; rintro e w1 ⟨rfl, hb1⟩
        have HB1x := Lib.hid (HB0x.out.trans (hb1.mono HB0x.out.size))
        clear hb1
        clear g0 g1 g2 g3 g4 g5
        have g0 := own_hold O1.out HB1x.out (by rw [HZ0.out]; omega) 0 rfl
        have g1 := own_hold O1.out HB1x.out (by rw [HZ0.out]; omega) 1 rfl
        have g2 := own_hold O1.out HB1x.out (by rw [HZ0.out]; omega) 2 rfl
        have g3 := own_hold O1.out HB1x.out (by rw [HZ0.out]; omega) 3 rfl
        have g4 := own_hold O1.out HB1x.out (by rw [HZ0.out]; omega) 4 rfl
        have g5 := own_hold O1.out HB1x.out (by rw [HZ0.out]; omega) 5 rfl
        go_wp2_with fail
        go_ret
        exact ⟨rfl, (HB0.out.trans (HB1x.out.mono HB0.out.size))⟩
      | true =>
        go_enter Tryd.func85, Tryd.ntmps85
        go_wp2_with fail
        rw [HW.out]
        refine (Q0.out _ (Below.refl _ _)).mono ?_; rintro e w0 ⟨rfl, hb0⟩
        have HB0x := Lib.hid hb0
        clear hb0
        have g0 := own_hold O1.out HB0x.out (by rw [HZ0.out]; omega) 0 rfl
        have g1 := own_hold O1.out HB0x.out (by rw [HZ0.out]; omega) 1 rfl
        have g2 := own_hold O1.out HB0x.out (by rw [HZ0.out]; omega) 2 rfl
        have g3 := own_hold O1.out HB0x.out (by rw [HZ0.out]; omega) 3 rfl
        have g4 := own_hold O1.out HB0x.out (by rw [HZ0.out]; omega) 4 rfl
        have g5 := own_hold O1.out HB0x.out (by rw [HZ0.out]; omega) 5 rfl
        go_wp2_with fail
        refine (Q1.out _ HB0x.out).mono ?_; rintro e w1 ⟨rfl, hb1⟩
        have HB1x := Lib.hid (HB0x.out.trans (hb1.mono HB0x.out.size))
        clear hb1
        clear g0 g1 g2 g3 g4 g5
        have g0 := own_hold O1.out HB1x.out (by rw [HZ0.out]; omega) 0 rfl
        have g1 := own_hold O1.out HB1x.out (by rw [HZ0.out]; omega) 1 rfl
        have g2 := own_hold O1.out HB1x.out (by rw [HZ0.out]; omega) 2 rfl
        have g3 := own_hold O1.out HB1x.out (by rw [HZ0.out]; omega) 3 rfl
        have g4 := own_hold O1.out HB1x.out (by rw [HZ0.out]; omega) 4 rfl
        have g5 := own_hold O1.out HB1x.out (by rw [HZ0.out]; omega) 5 rfl
        go_wp2_with fail
        go_ret
        exact ⟨rfl, (HB0.out.trans (HB1x.out.mono HB0.out.size))⟩
set_option maxRecDepth 100000 in
set_option maxHeartbeats 8000000 in
theorem end4 (lo hi : Nat) (w : World) (k ak an n : Int) (a : Wd) (dl : List Wd) (B1 : Option Addr) (c1 : Nat) (hk : k = 4) (kd : Texts lo hi w (.slice B1 dl.length c1) dl) (hh : hi ≤ w.heap.size) : Calls Tryd.prog 85 #[.agg #[i64 k, i64 ak, str a, i64 an, .slice B1 dl.length c1, i64 n]] w (Says w (argN ⟨ak, a, an⟩ && destsR 0 dl)) := by
  obtain ⟨t0, h0⟩ : ∃ t, argN ⟨ak, a, an⟩ = t := ⟨_, rfl⟩
  obtain ⟨t1, h1⟩ : ∃ t, destsR 0 dl = t := ⟨_, rfl⟩
  rw [h0, h1]
  obtain ⟨W, hW⟩ : ∃ W, w.alloc (.cells #[i64 k, i64 ak, str a, i64 an, .slice B1 dl.length c1, i64 n] 46) = W := ⟨_, rfl⟩
  obtain ⟨o1, hb0, hz0⟩ := boxed1 (c := [i64 k, i64 ak, str a, i64 an, .slice B1 dl.length c1, i64 n]) hW
  have O1 := Lib.hid o1
  have HB0 := Lib.hid hb0
  have HZ0 := Lib.hid hz0
  have HW := Lib.hid hW
  have Q0 := Lib.hid fun (w' : World) (hb : Below W.heap.size W w') => (argN_any ⟨ak, a, an⟩ t0 h0 w')
  have Q1 := Lib.hid fun (w' : World) (hb : Below W.heap.size W w') => (show Calls Tryd.prog 117 #[.slice B1 dl.length c1, .int .i64 0] w' (Says w' t1) from dests_any lo hi w' _ dl 0 (Texts.move (Still.of_below ((HB0.out.trans (hb.mono HB0.out.size)).mono hh)) kd) (Nat.le_trans hh (Nat.le_trans HB0.out.size hb.size)) (by decide) t1 h1)
  obtain rfl : k = 4 := hk
  clear h0 h1 o1 hb0 hz0 hW kd
  cases t0 with
  | false =>
    go_enter Tryd.func85, Tryd.ntmps85
    go_wp2_with fail
    rw [HW.out]
    refine (Q0.out _ (Below.refl _ _)).mono ?_; rintro e w0 ⟨rfl, hb0⟩
    have HB0x := Lib.hid hb0
    clear hb0
    have g0 := own_hold O1.out HB0x.out (by rw [HZ0.out]; omega) 0 rfl
    have g1 := own_hold O1.out HB0x.out (by rw [HZ0.out]; omega) 1 rfl
    have g2 := own_hold O1.out HB0x.out (by rw [HZ0.out]; omega) 2 rfl
    have g3 := own_hold O1.out HB0x.out (by rw [HZ0.out]; omega) 3 rfl
    have g4 := own_hold O1.out HB0x.out (by rw [HZ0.out]; omega) 4 rfl
    have g5 := own_hold O1.out HB0x.out (by rw [HZ0.out]; omega) 5 rfl
    go_wp2_with fail
    go_ret
    exact ⟨rfl, (HB0.out.trans (HB0x.out.mono HB0.out.size))⟩
  | true =>
    cases t1 with
    | false =>
      go_enter Tryd.func85, Tryd.ntmps85
      go_wp2_with fail
      rw [HW.out]
      refine (Q0.out _ (Below.refl _ _)).mono ?_; rintro e w0 ⟨rfl, hb0⟩
      have HB0x := Lib.hid hb0
      clear hb0
      have g0 := own_hold O1.out HB0x.out (by rw [HZ0.out]; omega) 0 rfl
      have g1 := own_hold O1.out HB0x.out (by rw [HZ0.out]; omega) 1 rfl
      have g2 := own_hold O1.out HB0x.out (by rw [HZ0.out]; omega) 2 rfl
      have g3 := own_hold O1.out HB0x.out (by rw [HZ0.out]; omega) 3 rfl
      have g4 := own_hold O1.out HB0x.out (by rw [HZ0.out]; omega) 4 rfl
      have g5 := own_hold O1.out HB0x.out (by rw [HZ0.out]; omega) 5 rfl
      go_wp2_with fail
      refine (Q1.out _ HB0x.out).mono ?_; rintro e w1 ⟨rfl, hb1⟩
      have HB1x := Lib.hid (HB0x.out.trans (hb1.mono HB0x.out.size))
      clear hb1
      clear g0 g1 g2 g3 g4 g5
      have g0 := own_hold O1.out HB1x.out (by rw [HZ0.out]; omega) 0 rfl
      have g1 := own_hold O1.out HB1x.out (by rw [HZ0.out]; omega) 1 rfl
      have g2 := own_hold O1.out HB1x.out (by rw [HZ0.out]; omega) 2 rfl
      have g3 := own_hold O1.out HB1x.out (by rw [HZ0.out]; omega) 3 rfl
      have g4 := own_hold O1.out HB1x.out (by rw [HZ0.out]; omega) 4 rfl
      have g5 := own_hold O1.out HB1x.out (by rw [HZ0.out]; omega) 5 rfl
      go_wp2_with fail
      go_ret
      exact ⟨rfl, (HB0.out.trans (HB1x.out.mono HB0.out.size))⟩
    | true =>
      go_enter Tryd.func85, Tryd.ntmps85
      go_wp2_with fail
      rw [HW.out]
      refine (Q0.out _ (Below.refl _ _)).mono ?_; rintro e w0 ⟨rfl, hb0⟩
      have HB0x := Lib.hid hb0
      clear hb0
      have g0 := own_hold O1.out HB0x.out (by rw [HZ0.out]; omega) 0 rfl
      have g1 := own_hold O1.out HB0x.out (by rw [HZ0.out]; omega) 1 rfl
      have g2 := own_hold O1.out HB0x.out (by rw [HZ0.out]; omega) 2 rfl
      have g3 := own_hold O1.out HB0x.out (by rw [HZ0.out]; omega) 3 rfl
      have g4 := own_hold O1.out HB0x.out (by rw [HZ0.out]; omega) 4 rfl
      have g5 := own_hold O1.out HB0x.out (by rw [HZ0.out]; omega) 5 rfl
      go_wp2_with fail
      refine (Q1.out _ HB0x.out).mono ?_; rintro e w1 ⟨rfl, hb1⟩
      have HB1x := Lib.hid (HB0x.out.trans (hb1.mono HB0x.out.size))
      clear hb1
      clear g0 g1 g2 g3 g4 g5
      have g0 := own_hold O1.out HB1x.out (by rw [HZ0.out]; omega) 0 rfl
      have g1 := own_hold O1.out HB1x.out (by rw [HZ0.out]; omega) 1 rfl
      have g2 := own_hold O1.out HB1x.out (by rw [HZ0.out]; omega) 2 rfl
      have g3 := own_hold O1.out HB1x.out (by rw [HZ0.out]; omega) 3 rfl
      have g4 := own_hold O1.out HB1x.out (by rw [HZ0.out]; omega) 4 rfl
      have g5 := own_hold O1.out HB1x.out (by rw [HZ0.out]; omega) 5 rfl
      go_wp2_with fail
      go_ret
      exact ⟨rfl, (HB0.out.trans (HB1x.out.mono HB0.out.size))⟩
end Go.Proofs.YtdgmdpphimenjaaDoor.Sh6

/-
  Package show: states, instructions, blocks, functions, programs, walked.
-/
namespace Go.Proofs.YtdgmdpphimenjaaDoor.Sh6
open Go.RowKit Api Syn WordM Mem Rd5

set_option maxHeartbeats 4000000 in
theorem fin_any (lo hi : Nat) (w : World) (cs : List Value) (x : Api.Term) (hx : TermC lo hi w cs x) (hh : hi ≤ w.heap.size) : Calls Tryd.prog 85 #[.agg cs.toArray] w (Says w (finR x)) := by
  obtain ⟨u, rfl, kd⟩ := hx
  obtain ⟨k, ⟨ak, a, an⟩, dl, n⟩ := x
  simp only at kd ⊢
  obtain ⟨B1, c1, rfl⟩ := kd.form
  unfold finR
  simp only
  by_cases h1 : k = 1
  · rw [if_pos h1]; exact end1 lo hi w k ak an n a dl B1 c1 h1 kd hh
  rw [if_neg h1]
  by_cases h2 : k = 2
  · rw [if_pos h2]; exact end2 lo hi w k ak an n a dl B1 c1 h2 kd hh
  rw [if_neg h2]
  by_cases h3 : k = 3
  · rw [if_pos h3]; exact end3 lo hi w k ak an n a dl B1 c1 h3 kd hh
  rw [if_neg h3]
  by_cases h4 : k = 4
  · rw [if_pos h4]; exact end4 lo hi w k ak an n a dl B1 c1 h4 kd hh
  rw [if_neg h4]
  have e1 : (k == 1) = false := by simp [h1]
  have e2 : (k == 2) = false := by simp [h2]
  have e3 : (k == 3) = false := by simp [h3]
  have e4 : (k == 4) = false := by simp [h4]
  clear h1 h2 h3 h4 kd hh
  show Calls Tryd.prog 85 #[.agg #[i64 k, i64 ak, str a, i64 an, .slice B1 dl.length c1, i64 n]] w _
  go_enter Tryd.func85, Tryd.ntmps85
  go_wp2
  go_ret
  exact ⟨rfl, (Below.refl _ _).alloc (Nat.le_refl _) _⟩
theorem len_zero (l : Nat) (t : Bool) (h : decide (l = 0) = t) : ((l : Int) == 0) = t := by
  rw [← h]
  rw [Bool.eq_iff_iff]
  simp
theorem form_most {op : Int} : 0 ≤ (formV op).1.most ∧ (formV op).1.most ≤ 8 := by
  unfold formV
  split
  · simp
  · simp only
    repeat' split
    all_goals simp
theorem most_all {a km : Nat} {l : List Arg} (h : l.length = a) : (decide ((a : Int) ≤ (km : Int)) && l.all argX) = allR km argX l := by
  unfold allR
  subst h
  congr 1
  exact decide_eq_decide.2 (by omega)
theorem swap_and (a b c d e f : Bool) : (a && (b && (c && (d && ((e && f)))))) = (a && (b && (c && (d && (e && f))))) := rfl
set_option maxRecDepth 100000 in
set_option maxHeartbeats 8000000 in
theorem state_no (w : World) (op : Int) (ds nm : Wd) (as_ : List Arg) (fr : List Api.Frame) (ob : List Virt) (B1 B2 B3 : Option Addr) (c1 c2 c3 : Nat) (e31 : (op != 31) = true) (e34 : (op != 34) = true) : Calls Tryd.prog 115 #[.agg #[i64 op, str ds, str nm, .slice B1 as_.length c1, .slice B2 fr.length c2, .slice B3 ob.length c3]] w (Says w (decide (fr.length = 0) && decide (ob.length = 0))) := by
  obtain ⟨t0, h0⟩ : ∃ t, decide (fr.length = 0) = t := ⟨_, rfl⟩
  obtain ⟨t1, h1⟩ : ∃ t, decide (ob.length = 0) = t := ⟨_, rfl⟩
  rw [h0, h1]
  obtain ⟨W, hW⟩ : ∃ W, w.alloc (.cells #[i64 op, str ds, str nm, .slice B1 as_.length c1, .slice B2 fr.length c2, .slice B3 ob.length c3] 72) = W := ⟨_, rfl⟩
  obtain ⟨o1, hb0, hz0⟩ := boxed1 (c := [i64 op, str ds, str nm, .slice B1 as_.length c1, .slice B2 fr.length c2, .slice B3 ob.length c3]) hW
  have O1 := Lib.hid o1
  have HB0 := Lib.hid hb0
  have HZ0 := Lib.hid hz0
  have HW := Lib.hid hW
  have e0 : ((fr.length : Int) == 0) = t0 := len_zero _ _ h0
  have e1 : ((ob.length : Int) == 0) = t1 := len_zero _ _ h1
  clear h0 h1 o1 hb0 hz0 hW 
  cases t0 with
  | false =>
    go_enter Tryd.func115, Tryd.ntmps115
    go_wp2_with fail
    rw [HW.out]
    go_ret
    exact ⟨rfl, HB0.out⟩
  | true =>
    cases t1 with
    | false =>
      go_enter Tryd.func115, Tryd.ntmps115
      go_wp2_with fail
      rw [HW.out]
      go_ret
      exact ⟨rfl, HB0.out⟩
    | true =>
      go_enter Tryd.func115, Tryd.ntmps115
      go_wp2_with fail
      rw [HW.out]
      go_ret
      exact ⟨rfl, HB0.out⟩
set_option maxRecDepth 100000 in
set_option maxHeartbeats 8000000 in
theorem state_31 (lo hi : Nat) (w : World) (op : Int) (ds nm : Wd) (as_ : List Arg) (fr : List Api.Frame) (ob : List Virt) (B1 B2 B3 : Option Addr) (c1 c2 c3 : Nat) (e31 : (op != 31) = false) (kf : Frames lo hi w (.slice B2 fr.length c2) fr) (ko : Virts lo hi w (.slice B3 ob.length c3) ob) (hh : hi ≤ w.heap.size) : Calls Tryd.prog 115 #[.agg #[i64 op, str ds, str nm, .slice B1 as_.length c1, .slice B2 fr.length c2, .slice B3 ob.length c3]] w (Says w (allR 16 frameR fr && allR 99 virtR ob)) := by
  obtain ⟨t0, h0⟩ : ∃ t, allR 16 frameR fr = t := ⟨_, rfl⟩
  obtain ⟨t1, h1⟩ : ∃ t, allR 99 virtR ob = t := ⟨_, rfl⟩
  rw [h0, h1]
  obtain ⟨W, hW⟩ : ∃ W, w.alloc (.cells #[i64 op, str ds, str nm, .slice B1 as_.length c1, .slice B2 fr.length c2, .slice B3 ob.length c3] 72) = W := ⟨_, rfl⟩
  obtain ⟨o1, hb0, hz0⟩ := boxed1 (c := [i64 op, str ds, str nm, .slice B1 as_.length c1, .slice B2 fr.length c2, .slice B3 ob.length c3]) hW
  have O1 := Lib.hid o1
  have HB0 := Lib.hid hb0
  have HZ0 := Lib.hid hz0
  have HW := Lib.hid hW
  have Q0 := Lib.hid fun (w' : World) (hb : Below W.heap.size W w') => (show Calls Tryd.prog 131 #[.slice B2 fr.length c2, .int .i64 16, fv 132] w' (Says w' t0) from by rw [← h0]; exact allFrame_any _ _ w' _ _ 16 _ _ (Frames.move (Still.of_below ((HB0.out.trans (hb.mono HB0.out.size)).mono hh)) kf) (Nat.le_trans hh (Nat.le_trans HB0.out.size hb.size)) (tell_frame _ (Nat.le_trans hh (Nat.le_trans HB0.out.size hb.size))) (by decide))
  have Q1 := Lib.hid fun (w' : World) (hb : Below W.heap.size W w') => (show Calls Tryd.prog 133 #[.slice B3 ob.length c3, .int .i64 99, fv 134] w' (Says w' t1) from by rw [← h1]; exact allVirt_any _ _ w' _ _ 99 _ _ (Virts.move (Still.of_below ((HB0.out.trans (hb.mono HB0.out.size)).mono hh)) ko) (Nat.le_trans hh (Nat.le_trans HB0.out.size hb.size)) (tell_virt _ (Nat.le_trans hh (Nat.le_trans HB0.out.size hb.size))) (by decide))
  clear h0 h1 o1 hb0 hz0 hW kf ko
  cases t0 with
  | false =>
    go_enter Tryd.func115, Tryd.ntmps115
    go_wp2_with fail
    rw [HW.out]
    refine (Q0.out _ (Below.refl _ _)).mono ?_; rintro e w0 ⟨rfl, hb0⟩
    have HB0x := Lib.hid hb0
    clear hb0
    have g0 := own_hold O1.out HB0x.out (by rw [HZ0.out]; omega) 0 rfl
    have g1 := own_hold O1.out HB0x.out (by rw [HZ0.out]; omega) 1 rfl
    have g2 := own_hold O1.out HB0x.out (by rw [HZ0.out]; omega) 2 rfl
    have g3 := own_hold O1.out HB0x.out (by rw [HZ0.out]; omega) 3 rfl
    have g4 := own_hold O1.out HB0x.out (by rw [HZ0.out]; omega) 4 rfl
    have g5 := own_hold O1.out HB0x.out (by rw [HZ0.out]; omega) 5 rfl
    go_wp2_with fail
    go_ret
    exact ⟨rfl, (HB0.out.trans (HB0x.out.mono HB0.out.size))⟩
  | true =>
    cases t1 with
    | false =>
      go_enter Tryd.func115, Tryd.ntmps115
      go_wp2_with fail
      rw [HW.out]
      refine (Q0.out _ (Below.refl _ _)).mono ?_; rintro e w0 ⟨rfl, hb0⟩
      have HB0x := Lib.hid hb0
      clear hb0
      have g0 := own_hold O1.out HB0x.out (by rw [HZ0.out]; omega) 0 rfl
      have g1 := own_hold O1.out HB0x.out (by rw [HZ0.out]; omega) 1 rfl
      have g2 := own_hold O1.out HB0x.out (by rw [HZ0.out]; omega) 2 rfl
      have g3 := own_hold O1.out HB0x.out (by rw [HZ0.out]; omega) 3 rfl
      have g4 := own_hold O1.out HB0x.out (by rw [HZ0.out]; omega) 4 rfl
      have g5 := own_hold O1.out HB0x.out (by rw [HZ0.out]; omega) 5 rfl
      go_wp2_with fail
      refine (Q1.out _ HB0x.out).mono ?_; rintro e w1 ⟨rfl, hb1⟩
      have HB1x := Lib.hid (HB0x.out.trans (hb1.mono HB0x.out.size))
      clear hb1
      clear g0 g1 g2 g3 g4 g5
      have g0 := own_hold O1.out HB1x.out (by rw [HZ0.out]; omega) 0 rfl
      have g1 := own_hold O1.out HB1x.out (by rw [HZ0.out]; omega) 1 rfl
      have g2 := own_hold O1.out HB1x.out (by rw [HZ0.out]; omega) 2 rfl
      have g3 := own_hold O1.out HB1x.out (by rw [HZ0.out]; omega) 3 rfl
      have g4 := own_hold O1.out HB1x.out (by rw [HZ0.out]; omega) 4 rfl
      have g5 := own_hold O1.out HB1x.out (by rw [HZ0.out]; omega) 5 rfl
      go_wp2_with fail
      go_ret
      exact ⟨rfl, (HB0.out.trans (HB1x.out.mono HB0.out.size))⟩
    | true =>
      go_enter Tryd.func115, Tryd.ntmps115
      go_wp2_with fail
      rw [HW.out]
      refine (Q0.out _ (Below.refl _ _)).mono ?_; rintro e w0 ⟨rfl, hb0⟩
      have HB0x := Lib.hid hb0
      clear hb0
      have g0 := own_hold O1.out HB0x.out (by rw [HZ0.out]; omega) 0 rfl
      have g1 := own_hold O1.out HB0x.out (by rw [HZ0.out]; omega) 1 rfl
      have g2 := own_hold O1.out HB0x.out (by rw [HZ0.out]; omega) 2 rfl
      have g3 := own_hold O1.out HB0x.out (by rw [HZ0.out]; omega) 3 rfl
      have g4 := own_hold O1.out HB0x.out (by rw [HZ0.out]; omega) 4 rfl
      have g5 := own_hold O1.out HB0x.out (by rw [HZ0.out]; omega) 5 rfl
      go_wp2_with fail
      refine (Q1.out _ HB0x.out).mono ?_; rintro e w1 ⟨rfl, hb1⟩
      have HB1x := Lib.hid (HB0x.out.trans (hb1.mono HB0x.out.size))
      clear hb1
      clear g0 g1 g2 g3 g4 g5
      have g0 := own_hold O1.out HB1x.out (by rw [HZ0.out]; omega) 0 rfl
      have g1 := own_hold O1.out HB1x.out (by rw [HZ0.out]; omega) 1 rfl
      have g2 := own_hold O1.out HB1x.out (by rw [HZ0.out]; omega) 2 rfl
      have g3 := own_hold O1.out HB1x.out (by rw [HZ0.out]; omega) 3 rfl
      have g4 := own_hold O1.out HB1x.out (by rw [HZ0.out]; omega) 4 rfl
      have g5 := own_hold O1.out HB1x.out (by rw [HZ0.out]; omega) 5 rfl
      go_wp2_with fail
      go_ret
      exact ⟨rfl, (HB0.out.trans (HB1x.out.mono HB0.out.size))⟩
set_option maxRecDepth 100000 in
set_option maxHeartbeats 8000000 in
theorem state_34 (lo hi : Nat) (w : World) (op : Int) (ds nm : Wd) (as_ : List Arg) (fr : List Api.Frame) (ob : List Virt) (B1 B2 B3 : Option Addr) (c1 c2 c3 : Nat) (e31 : (op != 31) = true) (e34 : (op != 34) = false) (kf : Frames lo hi w (.slice B2 fr.length c2) fr) (ko : Virts lo hi w (.slice B3 ob.length c3) ob) (hh : hi ≤ w.heap.size) : Calls Tryd.prog 115 #[.agg #[i64 op, str ds, str nm, .slice B1 as_.length c1, .slice B2 fr.length c2, .slice B3 ob.length c3]] w (Says w (allR 16 frameR fr && allR 99 virtR ob)) := by
  obtain ⟨t0, h0⟩ : ∃ t, allR 16 frameR fr = t := ⟨_, rfl⟩
  obtain ⟨t1, h1⟩ : ∃ t, allR 99 virtR ob = t := ⟨_, rfl⟩
  rw [h0, h1]
  obtain ⟨W, hW⟩ : ∃ W, w.alloc (.cells #[i64 op, str ds, str nm, .slice B1 as_.length c1, .slice B2 fr.length c2, .slice B3 ob.length c3] 72) = W := ⟨_, rfl⟩
  obtain ⟨o1, hb0, hz0⟩ := boxed1 (c := [i64 op, str ds, str nm, .slice B1 as_.length c1, .slice B2 fr.length c2, .slice B3 ob.length c3]) hW
  have O1 := Lib.hid o1
  have HB0 := Lib.hid hb0
  have HZ0 := Lib.hid hz0
  have HW := Lib.hid hW
  have Q0 := Lib.hid fun (w' : World) (hb : Below W.heap.size W w') => (show Calls Tryd.prog 131 #[.slice B2 fr.length c2, .int .i64 16, fv 132] w' (Says w' t0) from by rw [← h0]; exact allFrame_any _ _ w' _ _ 16 _ _ (Frames.move (Still.of_below ((HB0.out.trans (hb.mono HB0.out.size)).mono hh)) kf) (Nat.le_trans hh (Nat.le_trans HB0.out.size hb.size)) (tell_frame _ (Nat.le_trans hh (Nat.le_trans HB0.out.size hb.size))) (by decide))
  have Q1 := Lib.hid fun (w' : World) (hb : Below W.heap.size W w') => (show Calls Tryd.prog 133 #[.slice B3 ob.length c3, .int .i64 99, fv 134] w' (Says w' t1) from by rw [← h1]; exact allVirt_any _ _ w' _ _ 99 _ _ (Virts.move (Still.of_below ((HB0.out.trans (hb.mono HB0.out.size)).mono hh)) ko) (Nat.le_trans hh (Nat.le_trans HB0.out.size hb.size)) (tell_virt _ (Nat.le_trans hh (Nat.le_trans HB0.out.size hb.size))) (by decide))
  clear h0 h1 o1 hb0 hz0 hW kf ko
  cases t0 with
  | false =>
    go_enter Tryd.func115, Tryd.ntmps115
    go_wp2_with fail
    rw [HW.out]
    refine (Q0.out _ (Below.refl _ _)).mono ?_; rintro e w0 ⟨rfl, hb0⟩
    have HB0x := Lib.hid hb0
    clear hb0
    have g0 := own_hold O1.out HB0x.out (by rw [HZ0.out]; omega) 0 rfl
    have g1 := own_hold O1.out HB0x.out (by rw [HZ0.out]; omega) 1 rfl
    have g2 := own_hold O1.out HB0x.out (by rw [HZ0.out]; omega) 2 rfl
    have g3 := own_hold O1.out HB0x.out (by rw [HZ0.out]; omega) 3 rfl
    have g4 := own_hold O1.out HB0x.out (by rw [HZ0.out]; omega) 4 rfl
    have g5 := own_hold O1.out HB0x.out (by rw [HZ0.out]; omega) 5 rfl
    go_wp2_with fail
    go_ret
    exact ⟨rfl, (HB0.out.trans (HB0x.out.mono HB0.out.size))⟩
  | true =>
    cases t1 with
    | false =>
      go_enter Tryd.func115, Tryd.ntmps115
      go_wp2_with fail
      rw [HW.out]
      refine (Q0.out _ (Below.refl _ _)).mono ?_; rintro e w0 ⟨rfl, hb0⟩
      have HB0x := Lib.hid hb0
      clear hb0
      have g0 := own_hold O1.out HB0x.out (by rw [HZ0.out]; omega) 0 rfl
      have g1 := own_hold O1.out HB0x.out (by rw [HZ0.out]; omega) 1 rfl
      have g2 := own_hold O1.out HB0x.out (by rw [HZ0.out]; omega) 2 rfl
      have g3 := own_hold O1.out HB0x.out (by rw [HZ0.out]; omega) 3 rfl
      have g4 := own_hold O1.out HB0x.out (by rw [HZ0.out]; omega) 4 rfl
      have g5 := own_hold O1.out HB0x.out (by rw [HZ0.out]; omega) 5 rfl
      go_wp2_with fail
      refine (Q1.out _ HB0x.out).mono ?_; rintro e w1 ⟨rfl, hb1⟩
      have HB1x := Lib.hid (HB0x.out.trans (hb1.mono HB0x.out.size))
      clear hb1
      clear g0 g1 g2 g3 g4 g5
      have g0 := own_hold O1.out HB1x.out (by rw [HZ0.out]; omega) 0 rfl
      have g1 := own_hold O1.out HB1x.out (by rw [HZ0.out]; omega) 1 rfl
      have g2 := own_hold O1.out HB1x.out (by rw [HZ0.out]; omega) 2 rfl
      have g3 := own_hold O1.out HB1x.out (by rw [HZ0.out]; omega) 3 rfl
      have g4 := own_hold O1.out HB1x.out (by rw [HZ0.out]; omega) 4 rfl
      have g5 := own_hold O1.out HB1x.out (by rw [HZ0.out]; omega) 5 rfl
      go_wp2_with fail
      go_ret
      exact ⟨rfl, (HB0.out.trans (HB1x.out.mono HB0.out.size))⟩
    | true =>
      go_enter Tryd.func115, Tryd.ntmps115
      go_wp2_with fail
      rw [HW.out]
      refine (Q0.out _ (Below.refl _ _)).mono ?_; rintro e w0 ⟨rfl, hb0⟩
      have HB0x := Lib.hid hb0
      clear hb0
      have g0 := own_hold O1.out HB0x.out (by rw [HZ0.out]; omega) 0 rfl
      have g1 := own_hold O1.out HB0x.out (by rw [HZ0.out]; omega) 1 rfl
      have g2 := own_hold O1.out HB0x.out (by rw [HZ0.out]; omega) 2 rfl
      have g3 := own_hold O1.out HB0x.out (by rw [HZ0.out]; omega) 3 rfl
      have g4 := own_hold O1.out HB0x.out (by rw [HZ0.out]; omega) 4 rfl
      have g5 := own_hold O1.out HB0x.out (by rw [HZ0.out]; omega) 5 rfl
      go_wp2_with fail
      refine (Q1.out _ HB0x.out).mono ?_; rintro e w1 ⟨rfl, hb1⟩
      have HB1x := Lib.hid (HB0x.out.trans (hb1.mono HB0x.out.size))
      clear hb1
      clear g0 g1 g2 g3 g4 g5
      have g0 := own_hold O1.out HB1x.out (by rw [HZ0.out]; omega) 0 rfl
      have g1 := own_hold O1.out HB1x.out (by rw [HZ0.out]; omega) 1 rfl
      have g2 := own_hold O1.out HB1x.out (by rw [HZ0.out]; omega) 2 rfl
      have g3 := own_hold O1.out HB1x.out (by rw [HZ0.out]; omega) 3 rfl
      have g4 := own_hold O1.out HB1x.out (by rw [HZ0.out]; omega) 4 rfl
      have g5 := own_hold O1.out HB1x.out (by rw [HZ0.out]; omega) 5 rfl
      go_wp2_with fail
      go_ret
      exact ⟨rfl, (HB0.out.trans (HB1x.out.mono HB0.out.size))⟩
theorem state_any (lo hi : Nat) (w : World) (cs : List Value) (x : Instr) (hx : InstrC lo hi w cs x) (hh : hi ≤ w.heap.size) : Calls Tryd.prog 115 #[.agg cs.toArray] w (Says w (stateR x)) := by
  obtain ⟨u1, u2, u3, rfl, ka, kf, ko⟩ := hx
  obtain ⟨op, ds, nm, as_, fr, ob⟩ := x
  simp only at ka kf ko ⊢
  obtain ⟨B1, c1, rfl⟩ := ka.form
  obtain ⟨B2, c2, rfl⟩ := kf.form
  obtain ⟨B3, c3, rfl⟩ := ko.form
  unfold stateR
  simp only
  by_cases h1 : op = 31
  · rw [if_neg (by omega)]
    exact state_31 lo hi w op ds nm as_ fr ob B1 B2 B3 c1 c2 c3 (by simp [h1]) kf ko hh
  by_cases h2 : op = 34
  · rw [if_neg (by omega)]
    exact state_34 lo hi w op ds nm as_ fr ob B1 B2 B3 c1 c2 c3 (by simp [h1]) (by simp [h2]) kf ko hh
  rw [if_pos ⟨h1, h2⟩]
  exact state_no w op ds nm as_ fr ob B1 B2 B3 c1 c2 c3 (by simp [h1]) (by simp [h2])
set_option maxRecDepth 100000 in
set_option maxHeartbeats 16000000 in
theorem instr_any (lo hi : Nat) (w : World) (cs : List Value) (x : Instr) (hx : InstrC lo hi w cs x) (hh : hi ≤ w.heap.size) (hL : LaidS w) : Calls Tryd.prog 84 #[.agg cs.toArray] w (Says w (instrR x)) := by
  have hx0 := hx
  obtain ⟨u1, u2, u3, rfl, ka, kf, ko⟩ := hx
  obtain ⟨op, ds, nm, as_, fr, ob⟩ := x
  simp only at ka kf ko ⊢
  obtain ⟨B1, c1, rfl⟩ := ka.form
  obtain ⟨B2, c2, rfl⟩ := kf.form
  obtain ⟨B3, c3, rfl⟩ := ko.form
  show Calls Tryd.prog 84 #[.agg #[i64 op, str ds, str nm, .slice B1 as_.length c1, .slice B2 fr.length c2, .slice B3 ob.length c3]] w _
  obtain ⟨⟨⟨fw, d, m, l, k⟩, t0⟩, hf⟩ : ∃ r, formV op = r := ⟨_, rfl⟩
  have hk := form_most (op := op)
  rw [hf] at hk
  simp only at hk
  obtain ⟨km, rfl⟩ : ∃ km : Nat, k = (km : Int) := ⟨k.toNat, by omega⟩
  obtain ⟨z, hz⟩ : ∃ z : ByteArray, z.data.toList = fw := ⟨⟨fw.toArray⟩, rfl⟩
  rw [← hz] at hf
  obtain ⟨t1, h1⟩ : ∃ t, noneR ds d = t := ⟨_, rfl⟩
  obtain ⟨t2, h2⟩ : ∃ t, noneR nm m = t := ⟨_, rfl⟩
  obtain ⟨t3, h3⟩ : ∃ t, decide (l ≤ (as_.length : Int)) = t := ⟨_, rfl⟩
  obtain ⟨t4, h4⟩ : ∃ t, allR km argX as_ = t := ⟨_, rfl⟩
  obtain ⟨t5, h5⟩ : ∃ t, stateR ⟨op, ds, nm, as_, fr, ob⟩ = t := ⟨_, rfl⟩
  have hr : instrR ⟨op, ds, nm, as_, fr, ob⟩ = (t0 && (t1 && (t2 && (t3 && (t4 && t5))))) := by
    unfold instrR
    simp only
    rw [hf]
    simp only
    rw [h1, h2, h3, most_all rfl, h4, h5]
  rw [hr]
  obtain ⟨W, hW⟩ : ∃ W, w.alloc (.cells #[i64 op, str ds, str nm, .slice B1 as_.length c1, .slice B2 fr.length c2, .slice B3 ob.length c3] 72) = W := ⟨_, rfl⟩
  obtain ⟨o1, hb0, hz0⟩ := boxed1 (c := [i64 op, str ds, str nm, .slice B1 as_.length c1, .slice B2 fr.length c2, .slice B3 ob.length c3]) hW
  have O1 := Lib.hid o1
  have HB0 := Lib.hid hb0
  have HZ0 := Lib.hid hz0
  have HW := Lib.hid hW
  have QO := Lib.hid (of_as op z d m l km t0 hf W (hL.below hb0 (Nat.le_refl _)))
  have Q1 := Lib.hid fun (w' : World) => none_says ds d t1 h1 w'
  have Q2 := Lib.hid fun (w' : World) => none_says nm m t2 h2 w'
  have e3 : decide (l ≤ (as_.length : Int)) = t3 := h3
  have Q4 := Lib.hid fun (w' : World) (hb : Below W.heap.size W w') => (show Calls Tryd.prog 113 #[.slice B1 as_.length c1, .int .i64 (km : Int), fv 114] w' (Says w' t4) from by rw [← h4]; exact allArg_any _ _ w' _ _ km _ _ (Args.move (Still.of_below ((HB0.out.trans (hb.mono HB0.out.size)).mono hh)) ka) (Nat.le_trans hh (Nat.le_trans HB0.out.size hb.size)) (tell_argX (lo := 0) _ (Nat.le_trans hh (Nat.le_trans HB0.out.size hb.size))) (by omega))
  have Q5 := Lib.hid fun (w' : World) (hb : Below W.heap.size W w') => (show Calls Tryd.prog 115 #[.agg #[i64 op, str ds, str nm, .slice B1 as_.length c1, .slice B2 fr.length c2, .slice B3 ob.length c3]] w' (Says w' t5) from by rw [← h5]; exact state_any lo hi w' _ ⟨op, ds, nm, as_, fr, ob⟩ (InstrC.move (Still.of_below ((HB0.out.trans (hb.mono HB0.out.size)).mono hh)) hx0) (Nat.le_trans hh (Nat.le_trans HB0.out.size hb.size)))
  clear h1 h2 h3 h4 h5 hr hf hz hk hx0 ka kf ko o1 hb0 hz0 hW hL
  cases t0 with
  | false =>
    go_enter Tryd.func84, Tryd.ntmps84
    go_wp2_with fail
    rw [HW.out]
    refine (QO.out).mono ?_; rintro e w0 ⟨rfl, hb0⟩
    obtain ⟨W2, hW2⟩ : ∃ W2, w0.alloc (.cells #[.string z, .bool d, .bool m, .int .i64 l, .int .i64 (km : Int)] 186) = W2 := ⟨_, rfl⟩
    obtain ⟨o2, hb2, hz2⟩ := boxed1 (c := [.string z, .bool d, .bool m, .int .i64 l, .int .i64 (km : Int)]) hW2
    have HB2 := Lib.hid (hb0.trans (hb2.mono hb0.size))
    have O2 := Lib.hid o2
    have HZ2 := Lib.hid hz2
    have HW2 := Lib.hid hW2
    have l0 : w.heap.size < w0.heap.size := by have := hb0.size; rw [HZ0.out] at this; omega
    have g0 := al_cell (x := .cells #[.string z, .bool d, .bool m, .int .i64 l, .int .i64 (km : Int)] 186) (own_hold O1.out hb0 (by rw [HZ0.out]; omega) 0 rfl)
    have g1 := al_cell (x := .cells #[.string z, .bool d, .bool m, .int .i64 l, .int .i64 (km : Int)] 186) (own_hold O1.out hb0 (by rw [HZ0.out]; omega) 1 rfl)
    have g2 := al_cell (x := .cells #[.string z, .bool d, .bool m, .int .i64 l, .int .i64 (km : Int)] 186) (own_hold O1.out hb0 (by rw [HZ0.out]; omega) 2 rfl)
    have g3 := al_cell (x := .cells #[.string z, .bool d, .bool m, .int .i64 l, .int .i64 (km : Int)] 186) (own_hold O1.out hb0 (by rw [HZ0.out]; omega) 3 rfl)
    have g4 := al_cell (x := .cells #[.string z, .bool d, .bool m, .int .i64 l, .int .i64 (km : Int)] 186) (own_hold O1.out hb0 (by rw [HZ0.out]; omega) 4 rfl)
    have g5 := al_cell (x := .cells #[.string z, .bool d, .bool m, .int .i64 l, .int .i64 (km : Int)] 186) (own_hold O1.out hb0 (by rw [HZ0.out]; omega) 5 rfl)
    clear hb0 hb2 o2 hz2 hW2
    go_wp2_with fail
    rw [HW2.out]
    go_ret
    exact ⟨rfl, HB0.out.trans (HB2.out.mono HB0.out.size)⟩
  | true =>
    cases t1 with
    | false =>
      go_enter Tryd.func84, Tryd.ntmps84
      go_wp2_with fail
      rw [HW.out]
      refine (QO.out).mono ?_; rintro e w0 ⟨rfl, hb0⟩
      obtain ⟨W2, hW2⟩ : ∃ W2, w0.alloc (.cells #[.string z, .bool d, .bool m, .int .i64 l, .int .i64 (km : Int)] 186) = W2 := ⟨_, rfl⟩
      obtain ⟨o2, hb2, hz2⟩ := boxed1 (c := [.string z, .bool d, .bool m, .int .i64 l, .int .i64 (km : Int)]) hW2
      have HB2 := Lib.hid (hb0.trans (hb2.mono hb0.size))
      have O2 := Lib.hid o2
      have HZ2 := Lib.hid hz2
      have HW2 := Lib.hid hW2
      have l0 : w.heap.size < w0.heap.size := by have := hb0.size; rw [HZ0.out] at this; omega
      have g0 := al_cell (x := .cells #[.string z, .bool d, .bool m, .int .i64 l, .int .i64 (km : Int)] 186) (own_hold O1.out hb0 (by rw [HZ0.out]; omega) 0 rfl)
      have g1 := al_cell (x := .cells #[.string z, .bool d, .bool m, .int .i64 l, .int .i64 (km : Int)] 186) (own_hold O1.out hb0 (by rw [HZ0.out]; omega) 1 rfl)
      have g2 := al_cell (x := .cells #[.string z, .bool d, .bool m, .int .i64 l, .int .i64 (km : Int)] 186) (own_hold O1.out hb0 (by rw [HZ0.out]; omega) 2 rfl)
      have g3 := al_cell (x := .cells #[.string z, .bool d, .bool m, .int .i64 l, .int .i64 (km : Int)] 186) (own_hold O1.out hb0 (by rw [HZ0.out]; omega) 3 rfl)
      have g4 := al_cell (x := .cells #[.string z, .bool d, .bool m, .int .i64 l, .int .i64 (km : Int)] 186) (own_hold O1.out hb0 (by rw [HZ0.out]; omega) 4 rfl)
      have g5 := al_cell (x := .cells #[.string z, .bool d, .bool m, .int .i64 l, .int .i64 (km : Int)] 186) (own_hold O1.out hb0 (by rw [HZ0.out]; omega) 5 rfl)
      clear hb0 hb2 o2 hz2 hW2
      go_wp2_with fail
      rw [HW2.out]
      clear g0 g1 g2 g3 g4 g5
      refine (Q1.out _).mono ?_; rintro e w1 ⟨rfl, hb1⟩
      have HC1 := Lib.hid hb1
      have HD1 := Lib.hid (HB2.out.trans (hb1.mono HB2.out.size))
      clear hb1
      have g0 := own_hold O1.out HD1.out (by rw [HZ0.out]; omega) 0 rfl
      have g1 := own_hold O1.out HD1.out (by rw [HZ0.out]; omega) 1 rfl
      have g2 := own_hold O1.out HD1.out (by rw [HZ0.out]; omega) 2 rfl
      have g3 := own_hold O1.out HD1.out (by rw [HZ0.out]; omega) 3 rfl
      have g4 := own_hold O1.out HD1.out (by rw [HZ0.out]; omega) 4 rfl
      have g5 := own_hold O1.out HD1.out (by rw [HZ0.out]; omega) 5 rfl
      have f0 := own_hold O2.out HC1.out (by rw [HZ2.out]; omega) 0 rfl
      have f1 := own_hold O2.out HC1.out (by rw [HZ2.out]; omega) 1 rfl
      have f2 := own_hold O2.out HC1.out (by rw [HZ2.out]; omega) 2 rfl
      have f3 := own_hold O2.out HC1.out (by rw [HZ2.out]; omega) 3 rfl
      have f4 := own_hold O2.out HC1.out (by rw [HZ2.out]; omega) 4 rfl
      go_wp2_with fail
      go_ret
      exact ⟨rfl, HB0.out.trans (HD1.out.mono HB0.out.size)⟩
    | true =>
      cases t2 with
      | false =>
        go_enter Tryd.func84, Tryd.ntmps84
        go_wp2_with fail
        rw [HW.out]
        refine (QO.out).mono ?_; rintro e w0 ⟨rfl, hb0⟩
        obtain ⟨W2, hW2⟩ : ∃ W2, w0.alloc (.cells #[.string z, .bool d, .bool m, .int .i64 l, .int .i64 (km : Int)] 186) = W2 := ⟨_, rfl⟩
        obtain ⟨o2, hb2, hz2⟩ := boxed1 (c := [.string z, .bool d, .bool m, .int .i64 l, .int .i64 (km : Int)]) hW2
        have HB2 := Lib.hid (hb0.trans (hb2.mono hb0.size))
        have O2 := Lib.hid o2
        have HZ2 := Lib.hid hz2
        have HW2 := Lib.hid hW2
        have l0 : w.heap.size < w0.heap.size := by have := hb0.size; rw [HZ0.out] at this; omega
        have g0 := al_cell (x := .cells #[.string z, .bool d, .bool m, .int .i64 l, .int .i64 (km : Int)] 186) (own_hold O1.out hb0 (by rw [HZ0.out]; omega) 0 rfl)
        have g1 := al_cell (x := .cells #[.string z, .bool d, .bool m, .int .i64 l, .int .i64 (km : Int)] 186) (own_hold O1.out hb0 (by rw [HZ0.out]; omega) 1 rfl)
        have g2 := al_cell (x := .cells #[.string z, .bool d, .bool m, .int .i64 l, .int .i64 (km : Int)] 186) (own_hold O1.out hb0 (by rw [HZ0.out]; omega) 2 rfl)
        have g3 := al_cell (x := .cells #[.string z, .bool d, .bool m, .int .i64 l, .int .i64 (km : Int)] 186) (own_hold O1.out hb0 (by rw [HZ0.out]; omega) 3 rfl)
        have g4 := al_cell (x := .cells #[.string z, .bool d, .bool m, .int .i64 l, .int .i64 (km : Int)] 186) (own_hold O1.out hb0 (by rw [HZ0.out]; omega) 4 rfl)
        have g5 := al_cell (x := .cells #[.string z, .bool d, .bool m, .int .i64 l, .int .i64 (km : Int)] 186) (own_hold O1.out hb0 (by rw [HZ0.out]; omega) 5 rfl)
        clear hb0 hb2 o2 hz2 hW2
        go_wp2_with fail
        rw [HW2.out]
        clear g0 g1 g2 g3 g4 g5
        refine (Q1.out _).mono ?_; rintro e w1 ⟨rfl, hb1⟩
        have HC1 := Lib.hid hb1
        have HD1 := Lib.hid (HB2.out.trans (hb1.mono HB2.out.size))
        clear hb1
        have g0 := own_hold O1.out HD1.out (by rw [HZ0.out]; omega) 0 rfl
        have g1 := own_hold O1.out HD1.out (by rw [HZ0.out]; omega) 1 rfl
        have g2 := own_hold O1.out HD1.out (by rw [HZ0.out]; omega) 2 rfl
        have g3 := own_hold O1.out HD1.out (by rw [HZ0.out]; omega) 3 rfl
        have g4 := own_hold O1.out HD1.out (by rw [HZ0.out]; omega) 4 rfl
        have g5 := own_hold O1.out HD1.out (by rw [HZ0.out]; omega) 5 rfl
        have f0 := own_hold O2.out HC1.out (by rw [HZ2.out]; omega) 0 rfl
        have f1 := own_hold O2.out HC1.out (by rw [HZ2.out]; omega) 1 rfl
        have f2 := own_hold O2.out HC1.out (by rw [HZ2.out]; omega) 2 rfl
        have f3 := own_hold O2.out HC1.out (by rw [HZ2.out]; omega) 3 rfl
        have f4 := own_hold O2.out HC1.out (by rw [HZ2.out]; omega) 4 rfl
        go_wp2_with fail
        refine (Q2.out _).mono ?_; rintro e w2 ⟨rfl, hb2⟩
        have HC2 := Lib.hid (HC1.out.trans (hb2.mono HC1.out.size))
        have HD2 := Lib.hid (HD1.out.trans (hb2.mono HD1.out.size))
        clear hb2
        clear g0 g1 g2 g3 g4 g5 f0 f1 f2 f3 f4
        have g0 := own_hold O1.out HD2.out (by rw [HZ0.out]; omega) 0 rfl
        have g1 := own_hold O1.out HD2.out (by rw [HZ0.out]; omega) 1 rfl
        have g2 := own_hold O1.out HD2.out (by rw [HZ0.out]; omega) 2 rfl
        have g3 := own_hold O1.out HD2.out (by rw [HZ0.out]; omega) 3 rfl
        have g4 := own_hold O1.out HD2.out (by rw [HZ0.out]; omega) 4 rfl
        have g5 := own_hold O1.out HD2.out (by rw [HZ0.out]; omega) 5 rfl
        have f0 := own_hold O2.out HC2.out (by rw [HZ2.out]; omega) 0 rfl
        have f1 := own_hold O2.out HC2.out (by rw [HZ2.out]; omega) 1 rfl
        have f2 := own_hold O2.out HC2.out (by rw [HZ2.out]; omega) 2 rfl
        have f3 := own_hold O2.out HC2.out (by rw [HZ2.out]; omega) 3 rfl
        have f4 := own_hold O2.out HC2.out (by rw [HZ2.out]; omega) 4 rfl
        go_wp2_with fail
        go_ret
        exact ⟨rfl, HB0.out.trans (HD2.out.mono HB0.out.size)⟩
      | true =>
        cases t3 with
        | false =>
          go_enter Tryd.func84, Tryd.ntmps84
          go_wp2_with fail
          rw [HW.out]
          refine (QO.out).mono ?_; rintro e w0 ⟨rfl, hb0⟩
          obtain ⟨W2, hW2⟩ : ∃ W2, w0.alloc (.cells #[.string z, .bool d, .bool m, .int .i64 l, .int .i64 (km : Int)] 186) = W2 := ⟨_, rfl⟩
          obtain ⟨o2, hb2, hz2⟩ := boxed1 (c := [.string z, .bool d, .bool m, .int .i64 l, .int .i64 (km : Int)]) hW2
          have HB2 := Lib.hid (hb0.trans (hb2.mono hb0.size))
          have O2 := Lib.hid o2
          have HZ2 := Lib.hid hz2
          have HW2 := Lib.hid hW2
          have l0 : w.heap.size < w0.heap.size := by have := hb0.size; rw [HZ0.out] at this; omega
          have g0 := al_cell (x := .cells #[.string z, .bool d, .bool m, .int .i64 l, .int .i64 (km : Int)] 186) (own_hold O1.out hb0 (by rw [HZ0.out]; omega) 0 rfl)
          have g1 := al_cell (x := .cells #[.string z, .bool d, .bool m, .int .i64 l, .int .i64 (km : Int)] 186) (own_hold O1.out hb0 (by rw [HZ0.out]; omega) 1 rfl)
          have g2 := al_cell (x := .cells #[.string z, .bool d, .bool m, .int .i64 l, .int .i64 (km : Int)] 186) (own_hold O1.out hb0 (by rw [HZ0.out]; omega) 2 rfl)
          have g3 := al_cell (x := .cells #[.string z, .bool d, .bool m, .int .i64 l, .int .i64 (km : Int)] 186) (own_hold O1.out hb0 (by rw [HZ0.out]; omega) 3 rfl)
          have g4 := al_cell (x := .cells #[.string z, .bool d, .bool m, .int .i64 l, .int .i64 (km : Int)] 186) (own_hold O1.out hb0 (by rw [HZ0.out]; omega) 4 rfl)
          have g5 := al_cell (x := .cells #[.string z, .bool d, .bool m, .int .i64 l, .int .i64 (km : Int)] 186) (own_hold O1.out hb0 (by rw [HZ0.out]; omega) 5 rfl)
          clear hb0 hb2 o2 hz2 hW2
          go_wp2_with fail
          rw [HW2.out]
          clear g0 g1 g2 g3 g4 g5
          refine (Q1.out _).mono ?_; rintro e w1 ⟨rfl, hb1⟩
          have HC1 := Lib.hid hb1
          have HD1 := Lib.hid (HB2.out.trans (hb1.mono HB2.out.size))
          clear hb1
          have g0 := own_hold O1.out HD1.out (by rw [HZ0.out]; omega) 0 rfl
          have g1 := own_hold O1.out HD1.out (by rw [HZ0.out]; omega) 1 rfl
          have g2 := own_hold O1.out HD1.out (by rw [HZ0.out]; omega) 2 rfl
          have g3 := own_hold O1.out HD1.out (by rw [HZ0.out]; omega) 3 rfl
          have g4 := own_hold O1.out HD1.out (by rw [HZ0.out]; omega) 4 rfl
          have g5 := own_hold O1.out HD1.out (by rw [HZ0.out]; omega) 5 rfl
          have f0 := own_hold O2.out HC1.out (by rw [HZ2.out]; omega) 0 rfl
          have f1 := own_hold O2.out HC1.out (by rw [HZ2.out]; omega) 1 rfl
          have f2 := own_hold O2.out HC1.out (by rw [HZ2.out]; omega) 2 rfl
          have f3 := own_hold O2.out HC1.out (by rw [HZ2.out]; omega) 3 rfl
          have f4 := own_hold O2.out HC1.out (by rw [HZ2.out]; omega) 4 rfl
          go_wp2_with fail
          refine (Q2.out _).mono ?_; rintro e w2 ⟨rfl, hb2⟩
          have HC2 := Lib.hid (HC1.out.trans (hb2.mono HC1.out.size))
          have HD2 := Lib.hid (HD1.out.trans (hb2.mono HD1.out.size))
          clear hb2
          clear g0 g1 g2 g3 g4 g5 f0 f1 f2 f3 f4
          have g0 := own_hold O1.out HD2.out (by rw [HZ0.out]; omega) 0 rfl
          have g1 := own_hold O1.out HD2.out (by rw [HZ0.out]; omega) 1 rfl
          have g2 := own_hold O1.out HD2.out (by rw [HZ0.out]; omega) 2 rfl
          have g3 := own_hold O1.out HD2.out (by rw [HZ0.out]; omega) 3 rfl
          have g4 := own_hold O1.out HD2.out (by rw [HZ0.out]; omega) 4 rfl
          have g5 := own_hold O1.out HD2.out (by rw [HZ0.out]; omega) 5 rfl
          have f0 := own_hold O2.out HC2.out (by rw [HZ2.out]; omega) 0 rfl
          have f1 := own_hold O2.out HC2.out (by rw [HZ2.out]; omega) 1 rfl
          have f2 := own_hold O2.out HC2.out (by rw [HZ2.out]; omega) 2 rfl
          have f3 := own_hold O2.out HC2.out (by rw [HZ2.out]; omega) 3 rfl
          have f4 := own_hold O2.out HC2.out (by rw [HZ2.out]; omega) 4 rfl
          go_wp2_with fail
          go_ret
          exact ⟨rfl, HB0.out.trans (HD2.out.mono HB0.out.size)⟩
        | true =>
          cases t4 with
          | false =>
            go_enter Tryd.func84, Tryd.ntmps84
            go_wp2_with fail
            rw [HW.out]
            refine (QO.out).mono ?_; rintro e w0 ⟨rfl, hb0⟩
            obtain ⟨W2, hW2⟩ : ∃ W2, w0.alloc (.cells #[.string z, .bool d, .bool m, .int .i64 l, .int .i64 (km : Int)] 186) = W2 := ⟨_, rfl⟩
            obtain ⟨o2, hb2, hz2⟩ := boxed1 (c := [.string z, .bool d, .bool m, .int .i64 l, .int .i64 (km : Int)]) hW2
            have HB2 := Lib.hid (hb0.trans (hb2.mono hb0.size))
            have O2 := Lib.hid o2
            have HZ2 := Lib.hid hz2
            have HW2 := Lib.hid hW2
            have l0 : w.heap.size < w0.heap.size := by have := hb0.size; rw [HZ0.out] at this; omega
            have g0 := al_cell (x := .cells #[.string z, .bool d, .bool m, .int .i64 l, .int .i64 (km : Int)] 186) (own_hold O1.out hb0 (by rw [HZ0.out]; omega) 0 rfl)
            have g1 := al_cell (x := .cells #[.string z, .bool d, .bool m, .int .i64 l, .int .i64 (km : Int)] 186) (own_hold O1.out hb0 (by rw [HZ0.out]; omega) 1 rfl)
            have g2 := al_cell (x := .cells #[.string z, .bool d, .bool m, .int .i64 l, .int .i64 (km : Int)] 186) (own_hold O1.out hb0 (by rw [HZ0.out]; omega) 2 rfl)
            have g3 := al_cell (x := .cells #[.string z, .bool d, .bool m, .int .i64 l, .int .i64 (km : Int)] 186) (own_hold O1.out hb0 (by rw [HZ0.out]; omega) 3 rfl)
            have g4 := al_cell (x := .cells #[.string z, .bool d, .bool m, .int .i64 l, .int .i64 (km : Int)] 186) (own_hold O1.out hb0 (by rw [HZ0.out]; omega) 4 rfl)
            have g5 := al_cell (x := .cells #[.string z, .bool d, .bool m, .int .i64 l, .int .i64 (km : Int)] 186) (own_hold O1.out hb0 (by rw [HZ0.out]; omega) 5 rfl)
            clear hb0 hb2 o2 hz2 hW2
            go_wp2_with fail
            rw [HW2.out]
            clear g0 g1 g2 g3 g4 g5
            refine (Q1.out _).mono ?_; rintro e w1 ⟨rfl, hb1⟩
            have HC1 := Lib.hid hb1
            have HD1 := Lib.hid (HB2.out.trans (hb1.mono HB2.out.size))
            clear hb1
            have g0 := own_hold O1.out HD1.out (by rw [HZ0.out]; omega) 0 rfl
            have g1 := own_hold O1.out HD1.out (by rw [HZ0.out]; omega) 1 rfl
            have g2 := own_hold O1.out HD1.out (by rw [HZ0.out]; omega) 2 rfl
            have g3 := own_hold O1.out HD1.out (by rw [HZ0.out]; omega) 3 rfl
            have g4 := own_hold O1.out HD1.out (by rw [HZ0.out]; omega) 4 rfl
            have g5 := own_hold O1.out HD1.out (by rw [HZ0.out]; omega) 5 rfl
            have f0 := own_hold O2.out HC1.out (by rw [HZ2.out]; omega) 0 rfl
            have f1 := own_hold O2.out HC1.out (by rw [HZ2.out]; omega) 1 rfl
            have f2 := own_hold O2.out HC1.out (by rw [HZ2.out]; omega) 2 rfl
            have f3 := own_hold O2.out HC1.out (by rw [HZ2.out]; omega) 3 rfl
            have f4 := own_hold O2.out HC1.out (by rw [HZ2.out]; omega) 4 rfl
            go_wp2_with fail
            refine (Q2.out _).mono ?_; rintro e w2 ⟨rfl, hb2⟩
            have HC2 := Lib.hid (HC1.out.trans (hb2.mono HC1.out.size))
            have HD2 := Lib.hid (HD1.out.trans (hb2.mono HD1.out.size))
            clear hb2
            clear g0 g1 g2 g3 g4 g5 f0 f1 f2 f3 f4
            have g0 := own_hold O1.out HD2.out (by rw [HZ0.out]; omega) 0 rfl
            have g1 := own_hold O1.out HD2.out (by rw [HZ0.out]; omega) 1 rfl
            have g2 := own_hold O1.out HD2.out (by rw [HZ0.out]; omega) 2 rfl
            have g3 := own_hold O1.out HD2.out (by rw [HZ0.out]; omega) 3 rfl
            have g4 := own_hold O1.out HD2.out (by rw [HZ0.out]; omega) 4 rfl
            have g5 := own_hold O1.out HD2.out (by rw [HZ0.out]; omega) 5 rfl
            have f0 := own_hold O2.out HC2.out (by rw [HZ2.out]; omega) 0 rfl
            have f1 := own_hold O2.out HC2.out (by rw [HZ2.out]; omega) 1 rfl
            have f2 := own_hold O2.out HC2.out (by rw [HZ2.out]; omega) 2 rfl
            have f3 := own_hold O2.out HC2.out (by rw [HZ2.out]; omega) 3 rfl
            have f4 := own_hold O2.out HC2.out (by rw [HZ2.out]; omega) 4 rfl
            go_wp2_with fail
            refine (Q4.out _ HD2.out).mono ?_; rintro e w4 ⟨rfl, hb4⟩
            have HC4 := Lib.hid (HC2.out.trans (hb4.mono HC2.out.size))
            have HD4 := Lib.hid (HD2.out.trans (hb4.mono HD2.out.size))
            clear hb4
            clear g0 g1 g2 g3 g4 g5 f0 f1 f2 f3 f4
            have g0 := own_hold O1.out HD4.out (by rw [HZ0.out]; omega) 0 rfl
            have g1 := own_hold O1.out HD4.out (by rw [HZ0.out]; omega) 1 rfl
            have g2 := own_hold O1.out HD4.out (by rw [HZ0.out]; omega) 2 rfl
            have g3 := own_hold O1.out HD4.out (by rw [HZ0.out]; omega) 3 rfl
            have g4 := own_hold O1.out HD4.out (by rw [HZ0.out]; omega) 4 rfl
            have g5 := own_hold O1.out HD4.out (by rw [HZ0.out]; omega) 5 rfl
            have f0 := own_hold O2.out HC4.out (by rw [HZ2.out]; omega) 0 rfl
            have f1 := own_hold O2.out HC4.out (by rw [HZ2.out]; omega) 1 rfl
            have f2 := own_hold O2.out HC4.out (by rw [HZ2.out]; omega) 2 rfl
            have f3 := own_hold O2.out HC4.out (by rw [HZ2.out]; omega) 3 rfl
            have f4 := own_hold O2.out HC4.out (by rw [HZ2.out]; omega) 4 rfl
            go_wp2_with fail
            go_ret
            exact ⟨rfl, HB0.out.trans (HD4.out.mono HB0.out.size)⟩
          | true =>
            cases t5 with
            | false =>
              go_enter Tryd.func84, Tryd.ntmps84
              go_wp2_with fail
              rw [HW.out]
              refine (QO.out).mono ?_; rintro e w0 ⟨rfl, hb0⟩
              obtain ⟨W2, hW2⟩ : ∃ W2, w0.alloc (.cells #[.string z, .bool d, .bool m, .int .i64 l, .int .i64 (km : Int)] 186) = W2 := ⟨_, rfl⟩
              obtain ⟨o2, hb2, hz2⟩ := boxed1 (c := [.string z, .bool d, .bool m, .int .i64 l, .int .i64 (km : Int)]) hW2
              have HB2 := Lib.hid (hb0.trans (hb2.mono hb0.size))
              have O2 := Lib.hid o2
              have HZ2 := Lib.hid hz2
              have HW2 := Lib.hid hW2
              have l0 : w.heap.size < w0.heap.size := by have := hb0.size; rw [HZ0.out] at this; omega
              have g0 := al_cell (x := .cells #[.string z, .bool d, .bool m, .int .i64 l, .int .i64 (km : Int)] 186) (own_hold O1.out hb0 (by rw [HZ0.out]; omega) 0 rfl)
              have g1 := al_cell (x := .cells #[.string z, .bool d, .bool m, .int .i64 l, .int .i64 (km : Int)] 186) (own_hold O1.out hb0 (by rw [HZ0.out]; omega) 1 rfl)
              have g2 := al_cell (x := .cells #[.string z, .bool d, .bool m, .int .i64 l, .int .i64 (km : Int)] 186) (own_hold O1.out hb0 (by rw [HZ0.out]; omega) 2 rfl)
              have g3 := al_cell (x := .cells #[.string z, .bool d, .bool m, .int .i64 l, .int .i64 (km : Int)] 186) (own_hold O1.out hb0 (by rw [HZ0.out]; omega) 3 rfl)
              have g4 := al_cell (x := .cells #[.string z, .bool d, .bool m, .int .i64 l, .int .i64 (km : Int)] 186) (own_hold O1.out hb0 (by rw [HZ0.out]; omega) 4 rfl)
              have g5 := al_cell (x := .cells #[.string z, .bool d, .bool m, .int .i64 l, .int .i64 (km : Int)] 186) (own_hold O1.out hb0 (by rw [HZ0.out]; omega) 5 rfl)
              clear hb0 hb2 o2 hz2 hW2
              go_wp2_with fail
              rw [HW2.out]
              clear g0 g1 g2 g3 g4 g5
              refine (Q1.out _).mono ?_; rintro e w1 ⟨rfl, hb1⟩
              have HC1 := Lib.hid hb1
              have HD1 := Lib.hid (HB2.out.trans (hb1.mono HB2.out.size))
              clear hb1
              have g0 := own_hold O1.out HD1.out (by rw [HZ0.out]; omega) 0 rfl
              have g1 := own_hold O1.out HD1.out (by rw [HZ0.out]; omega) 1 rfl
              have g2 := own_hold O1.out HD1.out (by rw [HZ0.out]; omega) 2 rfl
              have g3 := own_hold O1.out HD1.out (by rw [HZ0.out]; omega) 3 rfl
              have g4 := own_hold O1.out HD1.out (by rw [HZ0.out]; omega) 4 rfl
              have g5 := own_hold O1.out HD1.out (by rw [HZ0.out]; omega) 5 rfl
              have f0 := own_hold O2.out HC1.out (by rw [HZ2.out]; omega) 0 rfl
              have f1 := own_hold O2.out HC1.out (by rw [HZ2.out]; omega) 1 rfl
              have f2 := own_hold O2.out HC1.out (by rw [HZ2.out]; omega) 2 rfl
              have f3 := own_hold O2.out HC1.out (by rw [HZ2.out]; omega) 3 rfl
              have f4 := own_hold O2.out HC1.out (by rw [HZ2.out]; omega) 4 rfl
              go_wp2_with fail
              refine (Q2.out _).mono ?_; rintro e w2 ⟨rfl, hb2⟩
              have HC2 := Lib.hid (HC1.out.trans (hb2.mono HC1.out.size))
              have HD2 := Lib.hid (HD1.out.trans (hb2.mono HD1.out.size))
              clear hb2
              clear g0 g1 g2 g3 g4 g5 f0 f1 f2 f3 f4
              have g0 := own_hold O1.out HD2.out (by rw [HZ0.out]; omega) 0 rfl
              have g1 := own_hold O1.out HD2.out (by rw [HZ0.out]; omega) 1 rfl
              have g2 := own_hold O1.out HD2.out (by rw [HZ0.out]; omega) 2 rfl
              have g3 := own_hold O1.out HD2.out (by rw [HZ0.out]; omega) 3 rfl
              have g4 := own_hold O1.out HD2.out (by rw [HZ0.out]; omega) 4 rfl
              have g5 := own_hold O1.out HD2.out (by rw [HZ0.out]; omega) 5 rfl
              have f0 := own_hold O2.out HC2.out (by rw [HZ2.out]; omega) 0 rfl
              have f1 := own_hold O2.out HC2.out (by rw [HZ2.out]; omega) 1 rfl
              have f2 := own_hold O2.out HC2.out (by rw [HZ2.out]; omega) 2 rfl
              have f3 := own_hold O2.out HC2.out (by rw [HZ2.out]; omega) 3 rfl
              have f4 := own_hold O2.out HC2.out (by rw [HZ2.out]; omega) 4 rfl
              go_wp2_with fail
              refine (Q4.out _ HD2.out).mono ?_; rintro e w4 ⟨rfl, hb4⟩
              have HC4 := Lib.hid (HC2.out.trans (hb4.mono HC2.out.size))
              have HD4 := Lib.hid (HD2.out.trans (hb4.mono HD2.out.size))
              clear hb4
              clear g0 g1 g2 g3 g4 g5 f0 f1 f2 f3 f4
              have g0 := own_hold O1.out HD4.out (by rw [HZ0.out]; omega) 0 rfl
              have g1 := own_hold O1.out HD4.out (by rw [HZ0.out]; omega) 1 rfl
              have g2 := own_hold O1.out HD4.out (by rw [HZ0.out]; omega) 2 rfl
              have g3 := own_hold O1.out HD4.out (by rw [HZ0.out]; omega) 3 rfl
              have g4 := own_hold O1.out HD4.out (by rw [HZ0.out]; omega) 4 rfl
              have g5 := own_hold O1.out HD4.out (by rw [HZ0.out]; omega) 5 rfl
              have f0 := own_hold O2.out HC4.out (by rw [HZ2.out]; omega) 0 rfl
              have f1 := own_hold O2.out HC4.out (by rw [HZ2.out]; omega) 1 rfl
              have f2 := own_hold O2.out HC4.out (by rw [HZ2.out]; omega) 2 rfl
              have f3 := own_hold O2.out HC4.out (by rw [HZ2.out]; omega) 3 rfl
              have f4 := own_hold O2.out HC4.out (by rw [HZ2.out]; omega) 4 rfl
              go_wp2_with fail
              refine (Q5.out _ HD4.out).mono ?_; rintro e w5 ⟨rfl, hb5⟩
              have HC5 := Lib.hid (HC4.out.trans (hb5.mono HC4.out.size))
              have HD5 := Lib.hid (HD4.out.trans (hb5.mono HD4.out.size))
              clear hb5
              clear g0 g1 g2 g3 g4 g5 f0 f1 f2 f3 f4
              have g0 := own_hold O1.out HD5.out (by rw [HZ0.out]; omega) 0 rfl
              have g1 := own_hold O1.out HD5.out (by rw [HZ0.out]; omega) 1 rfl
              have g2 := own_hold O1.out HD5.out (by rw [HZ0.out]; omega) 2 rfl
              have g3 := own_hold O1.out HD5.out (by rw [HZ0.out]; omega) 3 rfl
              have g4 := own_hold O1.out HD5.out (by rw [HZ0.out]; omega) 4 rfl
              have g5 := own_hold O1.out HD5.out (by rw [HZ0.out]; omega) 5 rfl
              have f0 := own_hold O2.out HC5.out (by rw [HZ2.out]; omega) 0 rfl
              have f1 := own_hold O2.out HC5.out (by rw [HZ2.out]; omega) 1 rfl
              have f2 := own_hold O2.out HC5.out (by rw [HZ2.out]; omega) 2 rfl
              have f3 := own_hold O2.out HC5.out (by rw [HZ2.out]; omega) 3 rfl
              have f4 := own_hold O2.out HC5.out (by rw [HZ2.out]; omega) 4 rfl
              go_wp2_with fail
              go_ret
              exact ⟨rfl, HB0.out.trans (HD5.out.mono HB0.out.size)⟩
            | true =>
              go_enter Tryd.func84, Tryd.ntmps84
              go_wp2_with fail
              rw [HW.out]
              refine (QO.out).mono ?_; rintro e w0 ⟨rfl, hb0⟩
              obtain ⟨W2, hW2⟩ : ∃ W2, w0.alloc (.cells #[.string z, .bool d, .bool m, .int .i64 l, .int .i64 (km : Int)] 186) = W2 := ⟨_, rfl⟩
              obtain ⟨o2, hb2, hz2⟩ := boxed1 (c := [.string z, .bool d, .bool m, .int .i64 l, .int .i64 (km : Int)]) hW2
              have HB2 := Lib.hid (hb0.trans (hb2.mono hb0.size))
              have O2 := Lib.hid o2
              have HZ2 := Lib.hid hz2
              have HW2 := Lib.hid hW2
              have l0 : w.heap.size < w0.heap.size := by have := hb0.size; rw [HZ0.out] at this; omega
              have g0 := al_cell (x := .cells #[.string z, .bool d, .bool m, .int .i64 l, .int .i64 (km : Int)] 186) (own_hold O1.out hb0 (by rw [HZ0.out]; omega) 0 rfl)
              have g1 := al_cell (x := .cells #[.string z, .bool d, .bool m, .int .i64 l, .int .i64 (km : Int)] 186) (own_hold O1.out hb0 (by rw [HZ0.out]; omega) 1 rfl)
              have g2 := al_cell (x := .cells #[.string z, .bool d, .bool m, .int .i64 l, .int .i64 (km : Int)] 186) (own_hold O1.out hb0 (by rw [HZ0.out]; omega) 2 rfl)
              have g3 := al_cell (x := .cells #[.string z, .bool d, .bool m, .int .i64 l, .int .i64 (km : Int)] 186) (own_hold O1.out hb0 (by rw [HZ0.out]; omega) 3 rfl)
              have g4 := al_cell (x := .cells #[.string z, .bool d, .bool m, .int .i64 l, .int .i64 (km : Int)] 186) (own_hold O1.out hb0 (by rw [HZ0.out]; omega) 4 rfl)
              have g5 := al_cell (x := .cells #[.string z, .bool d, .bool m, .int .i64 l, .int .i64 (km : Int)] 186) (own_hold O1.out hb0 (by rw [HZ0.out]; omega) 5 rfl)
              clear hb0 hb2 o2 hz2 hW2
              go_wp2_with fail
              rw [HW2.out]
              clear g0 g1 g2 g3 g4 g5
              refine (Q1.out _).mono ?_; rintro e w1 ⟨rfl, hb1⟩
              have HC1 := Lib.hid hb1
              have HD1 := Lib.hid (HB2.out.trans (hb1.mono HB2.out.size))
              clear hb1
              have g0 := own_hold O1.out HD1.out (by rw [HZ0.out]; omega) 0 rfl
              have g1 := own_hold O1.out HD1.out (by rw [HZ0.out]; omega) 1 rfl
              have g2 := own_hold O1.out HD1.out (by rw [HZ0.out]; omega) 2 rfl
              have g3 := own_hold O1.out HD1.out (by rw [HZ0.out]; omega) 3 rfl
              have g4 := own_hold O1.out HD1.out (by rw [HZ0.out]; omega) 4 rfl
              have g5 := own_hold O1.out HD1.out (by rw [HZ0.out]; omega) 5 rfl
              have f0 := own_hold O2.out HC1.out (by rw [HZ2.out]; omega) 0 rfl
              have f1 := own_hold O2.out HC1.out (by rw [HZ2.out]; omega) 1 rfl
              have f2 := own_hold O2.out HC1.out (by rw [HZ2.out]; omega) 2 rfl
              have f3 := own_hold O2.out HC1.out (by rw [HZ2.out]; omega) 3 rfl
              have f4 := own_hold O2.out HC1.out (by rw [HZ2.out]; omega) 4 rfl
              go_wp2_with fail
              refine (Q2.out _).mono ?_; rintro e w2 ⟨rfl, hb2⟩
              have HC2 := Lib.hid (HC1.out.trans (hb2.mono HC1.out.size))
              have HD2 := Lib.hid (HD1.out.trans (hb2.mono HD1.out.size))
              clear hb2
              clear g0 g1 g2 g3 g4 g5 f0 f1 f2 f3 f4
              have g0 := own_hold O1.out HD2.out (by rw [HZ0.out]; omega) 0 rfl
              have g1 := own_hold O1.out HD2.out (by rw [HZ0.out]; omega) 1 rfl
              have g2 := own_hold O1.out HD2.out (by rw [HZ0.out]; omega) 2 rfl
              have g3 := own_hold O1.out HD2.out (by rw [HZ0.out]; omega) 3 rfl
              have g4 := own_hold O1.out HD2.out (by rw [HZ0.out]; omega) 4 rfl
              have g5 := own_hold O1.out HD2.out (by rw [HZ0.out]; omega) 5 rfl
              have f0 := own_hold O2.out HC2.out (by rw [HZ2.out]; omega) 0 rfl
              have f1 := own_hold O2.out HC2.out (by rw [HZ2.out]; omega) 1 rfl
              have f2 := own_hold O2.out HC2.out (by rw [HZ2.out]; omega) 2 rfl
              have f3 := own_hold O2.out HC2.out (by rw [HZ2.out]; omega) 3 rfl
              have f4 := own_hold O2.out HC2.out (by rw [HZ2.out]; omega) 4 rfl
              go_wp2_with fail
              refine (Q4.out _ HD2.out).mono ?_; rintro e w4 ⟨rfl, hb4⟩
              have HC4 := Lib.hid (HC2.out.trans (hb4.mono HC2.out.size))
              have HD4 := Lib.hid (HD2.out.trans (hb4.mono HD2.out.size))
              clear hb4
              clear g0 g1 g2 g3 g4 g5 f0 f1 f2 f3 f4
              have g0 := own_hold O1.out HD4.out (by rw [HZ0.out]; omega) 0 rfl
              have g1 := own_hold O1.out HD4.out (by rw [HZ0.out]; omega) 1 rfl
              have g2 := own_hold O1.out HD4.out (by rw [HZ0.out]; omega) 2 rfl
              have g3 := own_hold O1.out HD4.out (by rw [HZ0.out]; omega) 3 rfl
              have g4 := own_hold O1.out HD4.out (by rw [HZ0.out]; omega) 4 rfl
              have g5 := own_hold O1.out HD4.out (by rw [HZ0.out]; omega) 5 rfl
              have f0 := own_hold O2.out HC4.out (by rw [HZ2.out]; omega) 0 rfl
              have f1 := own_hold O2.out HC4.out (by rw [HZ2.out]; omega) 1 rfl
              have f2 := own_hold O2.out HC4.out (by rw [HZ2.out]; omega) 2 rfl
              have f3 := own_hold O2.out HC4.out (by rw [HZ2.out]; omega) 3 rfl
              have f4 := own_hold O2.out HC4.out (by rw [HZ2.out]; omega) 4 rfl
              go_wp2_with fail
              refine (Q5.out _ HD4.out).mono ?_; rintro e w5 ⟨rfl, hb5⟩
              have HC5 := Lib.hid (HC4.out.trans (hb5.mono HC4.out.size))
              have HD5 := Lib.hid (HD4.out.trans (hb5.mono HD4.out.size))
              clear hb5
              clear g0 g1 g2 g3 g4 g5 f0 f1 f2 f3 f4
              have g0 := own_hold O1.out HD5.out (by rw [HZ0.out]; omega) 0 rfl
              have g1 := own_hold O1.out HD5.out (by rw [HZ0.out]; omega) 1 rfl
              have g2 := own_hold O1.out HD5.out (by rw [HZ0.out]; omega) 2 rfl
              have g3 := own_hold O1.out HD5.out (by rw [HZ0.out]; omega) 3 rfl
              have g4 := own_hold O1.out HD5.out (by rw [HZ0.out]; omega) 4 rfl
              have g5 := own_hold O1.out HD5.out (by rw [HZ0.out]; omega) 5 rfl
              have f0 := own_hold O2.out HC5.out (by rw [HZ2.out]; omega) 0 rfl
              have f1 := own_hold O2.out HC5.out (by rw [HZ2.out]; omega) 1 rfl
              have f2 := own_hold O2.out HC5.out (by rw [HZ2.out]; omega) 2 rfl
              have f3 := own_hold O2.out HC5.out (by rw [HZ2.out]; omega) 3 rfl
              have f4 := own_hold O2.out HC5.out (by rw [HZ2.out]; omega) 4 rfl
              go_wp2_with fail
              go_ret
              exact ⟨rfl, HB0.out.trans (HD5.out.mono HB0.out.size)⟩
theorem tell_instr {lo hi : Nat} {w0 : World} (l : List Instr) (hh : hi ≤ w0.heap.size) (hL : LaidS w0) : Tells 84 (fun w cs x => InstrC lo hi w cs x) (fun cs => .agg cs.toArray) instrR w0 l :=
  ⟨enters Tryd.func84 (by decide) rfl, fun w cs x hb _ h => instr_any lo hi w cs x h (Nat.le_trans hh hb.size) (hL.below hb (Nat.le_refl _))⟩
end Go.Proofs.YtdgmdpphimenjaaDoor.Sh6

/-
  Package show: blocks, functions, programs, walked.
-/
namespace Go.Proofs.YtdgmdpphimenjaaDoor.Sh6
open Go.RowKit Api Syn WordM Mem Rd5

set_option maxRecDepth 100000 in
set_option maxHeartbeats 8000000 in
theorem block_any (lo hi : Nat) (w : World) (cs : List Value) (x : Api.Block) (hx : BlockC lo hi w cs x) (hh : hi ≤ w.heap.size) (hL : LaidS w) : Calls Tryd.prog 56 #[.agg cs.toArray] w (Says w (blockR x)) := by
  obtain ⟨u1, u2, cs2, rfl, ka, kf, u3, rfl, ko⟩ := hx
  obtain ⟨nm, ph, co, ⟨k, ⟨ak, a, an⟩, dl, n⟩⟩ := x
  simp only at ka kf ko ⊢
  obtain ⟨B1, c1, rfl⟩ := ka.form
  obtain ⟨B2, c2, rfl⟩ := kf.form
  obtain ⟨B3, c3, rfl⟩ := ko.form
  show Calls Tryd.prog 56 #[.agg #[str nm, .slice B1 ph.length c1, .slice B2 co.length c2, i64 k, i64 ak, str a, i64 an, .slice B3 dl.length c3, i64 n]] w _
  obtain ⟨t0, h0⟩ : ∃ t, nameV nm = t := ⟨_, rfl⟩
  obtain ⟨t1, h1⟩ : ∃ t, allR 1024 phiR ph = t := ⟨_, rfl⟩
  obtain ⟨t2, h2⟩ : ∃ t, allR 1024 instrR co = t := ⟨_, rfl⟩
  obtain ⟨t3, h3⟩ : ∃ t, finR ⟨k, ⟨ak, a, an⟩, dl, n⟩ = t := ⟨_, rfl⟩
  have hr : blockR ⟨nm, ph, co, ⟨k, ⟨ak, a, an⟩, dl, n⟩⟩ = (t0 && (t1 && (t2 && t3))) := by
    unfold blockR
    simp only
    rw [h0, h1, h2, h3]
  rw [hr]
  obtain ⟨W, hW⟩ : ∃ W, w.alloc (.cells #[str nm, .slice B1 ph.length c1, .slice B2 co.length c2, i64 k, i64 ak, str a, i64 an, .slice B3 dl.length c3, i64 n] 60) = W := ⟨_, rfl⟩
  obtain ⟨o1, hb0, hz0⟩ := boxed1 (c := [str nm, .slice B1 ph.length c1, .slice B2 co.length c2, i64 k, i64 ak, str a, i64 an, .slice B3 dl.length c3, i64 n]) hW
  have O1 := Lib.hid o1
  have HB0 := Lib.hid hb0
  have HZ0 := Lib.hid hz0
  have HW := Lib.hid hW
  have Q0 := Lib.hid fun (w' : World) (hb : Below W.heap.size W w') => (name_says nm t0 h0 w')
  have Q1 := Lib.hid fun (w' : World) (hb : Below W.heap.size W w') => (show Calls Tryd.prog 81 #[.slice B1 ph.length c1, .int .i64 1024, fv 82] w' (Says w' t1) from by rw [← h1]; exact allPhi_any _ _ w' _ _ 1024 _ _ (Phis.move (Still.of_below ((HB0.out.trans (hb.mono HB0.out.size)).mono hh)) ka) (Nat.le_trans hh (Nat.le_trans HB0.out.size hb.size)) (tell_phi _ (Nat.le_trans hh (Nat.le_trans HB0.out.size hb.size))) (by decide))
  have Q2 := Lib.hid fun (w' : World) (hb : Below W.heap.size W w') => (show Calls Tryd.prog 83 #[.slice B2 co.length c2, .int .i64 1024, fv 84] w' (Says w' t2) from by rw [← h2]; exact allInstr_any _ _ w' _ _ 1024 _ _ (Instrs.move (Still.of_below ((HB0.out.trans (hb.mono HB0.out.size)).mono hh)) kf) (Nat.le_trans hh (Nat.le_trans HB0.out.size hb.size)) (tell_instr _ (Nat.le_trans hh (Nat.le_trans HB0.out.size hb.size)) ((hL.below hb0 (Nat.le_refl _)).below hb (Nat.le_refl _))) (by decide))
  have Q3 := Lib.hid fun (w' : World) (hb : Below W.heap.size W w') => (show Calls Tryd.prog 85 #[.agg #[i64 k, i64 ak, str a, i64 an, .slice B3 dl.length c3, i64 n]] w' (Says w' t3) from by rw [← h3]; exact fin_any lo hi w' _ ⟨k, ⟨ak, a, an⟩, dl, n⟩ ⟨_, rfl, (Texts.move (Still.of_below ((HB0.out.trans (hb.mono HB0.out.size)).mono hh)) ko)⟩ (Nat.le_trans hh (Nat.le_trans HB0.out.size hb.size)))
  clear h0 h1 h2 h3 o1 hb0 hz0 hW hr hL ka kf ko
  cases t0 with
  | false =>
    go_enter Tryd.func56, Tryd.ntmps56
    go_wp2_with fail
    rw [HW.out]
    refine (Q0.out _ (Below.refl _ _)).mono ?_; rintro e w0 ⟨rfl, hb0⟩
    have HB0x := Lib.hid hb0
    clear hb0
    have g0 := own_hold O1.out HB0x.out (by rw [HZ0.out]; omega) 0 rfl
    have g1 := own_hold O1.out HB0x.out (by rw [HZ0.out]; omega) 1 rfl
    have g2 := own_hold O1.out HB0x.out (by rw [HZ0.out]; omega) 2 rfl
    have g3 := own_hold O1.out HB0x.out (by rw [HZ0.out]; omega) 3 rfl
    have g4 := own_hold O1.out HB0x.out (by rw [HZ0.out]; omega) 4 rfl
    have g5 := own_hold O1.out HB0x.out (by rw [HZ0.out]; omega) 5 rfl
    have g6 := own_hold O1.out HB0x.out (by rw [HZ0.out]; omega) 6 rfl
    have g7 := own_hold O1.out HB0x.out (by rw [HZ0.out]; omega) 7 rfl
    have g8 := own_hold O1.out HB0x.out (by rw [HZ0.out]; omega) 8 rfl
    go_wp2_with fail
    go_ret
    exact ⟨rfl, (HB0.out.trans (HB0x.out.mono HB0.out.size))⟩
  | true =>
    cases t1 with
    | false =>
      go_enter Tryd.func56, Tryd.ntmps56
      go_wp2_with fail
      rw [HW.out]
      refine (Q0.out _ (Below.refl _ _)).mono ?_; rintro e w0 ⟨rfl, hb0⟩
      have HB0x := Lib.hid hb0
      clear hb0
      have g0 := own_hold O1.out HB0x.out (by rw [HZ0.out]; omega) 0 rfl
      have g1 := own_hold O1.out HB0x.out (by rw [HZ0.out]; omega) 1 rfl
      have g2 := own_hold O1.out HB0x.out (by rw [HZ0.out]; omega) 2 rfl
      have g3 := own_hold O1.out HB0x.out (by rw [HZ0.out]; omega) 3 rfl
      have g4 := own_hold O1.out HB0x.out (by rw [HZ0.out]; omega) 4 rfl
      have g5 := own_hold O1.out HB0x.out (by rw [HZ0.out]; omega) 5 rfl
      have g6 := own_hold O1.out HB0x.out (by rw [HZ0.out]; omega) 6 rfl
      have g7 := own_hold O1.out HB0x.out (by rw [HZ0.out]; omega) 7 rfl
      have g8 := own_hold O1.out HB0x.out (by rw [HZ0.out]; omega) 8 rfl
      go_wp2_with fail
      refine (Q1.out _ HB0x.out).mono ?_; rintro e w1 ⟨rfl, hb1⟩
      have HB1x := Lib.hid (HB0x.out.trans (hb1.mono HB0x.out.size))
      clear hb1
      clear g0 g1 g2 g3 g4 g5 g6 g7 g8
      have g0 := own_hold O1.out HB1x.out (by rw [HZ0.out]; omega) 0 rfl
      have g1 := own_hold O1.out HB1x.out (by rw [HZ0.out]; omega) 1 rfl
      have g2 := own_hold O1.out HB1x.out (by rw [HZ0.out]; omega) 2 rfl
      have g3 := own_hold O1.out HB1x.out (by rw [HZ0.out]; omega) 3 rfl
      have g4 := own_hold O1.out HB1x.out (by rw [HZ0.out]; omega) 4 rfl
      have g5 := own_hold O1.out HB1x.out (by rw [HZ0.out]; omega) 5 rfl
      have g6 := own_hold O1.out HB1x.out (by rw [HZ0.out]; omega) 6 rfl
      have g7 := own_hold O1.out HB1x.out (by rw [HZ0.out]; omega) 7 rfl
      have g8 := own_hold O1.out HB1x.out (by rw [HZ0.out]; omega) 8 rfl
      go_wp2_with fail
      go_ret
      exact ⟨rfl, (HB0.out.trans (HB1x.out.mono HB0.out.size))⟩
    | true =>
      cases t2 with
      | false =>
        go_enter Tryd.func56, Tryd.ntmps56
        go_wp2_with fail
        rw [HW.out]
        refine (Q0.out _ (Below.refl _ _)).mono ?_; rintro e w0 ⟨rfl, hb0⟩
        have HB0x := Lib.hid hb0
        clear hb0
        have g0 := own_hold O1.out HB0x.out (by rw [HZ0.out]; omega) 0 rfl
        have g1 := own_hold O1.out HB0x.out (by rw [HZ0.out]; omega) 1 rfl
        have g2 := own_hold O1.out HB0x.out (by rw [HZ0.out]; omega) 2 rfl
        have g3 := own_hold O1.out HB0x.out (by rw [HZ0.out]; omega) 3 rfl
        have g4 := own_hold O1.out HB0x.out (by rw [HZ0.out]; omega) 4 rfl
        have g5 := own_hold O1.out HB0x.out (by rw [HZ0.out]; omega) 5 rfl
        have g6 := own_hold O1.out HB0x.out (by rw [HZ0.out]; omega) 6 rfl
        have g7 := own_hold O1.out HB0x.out (by rw [HZ0.out]; omega) 7 rfl
        have g8 := own_hold O1.out HB0x.out (by rw [HZ0.out]; omega) 8 rfl
        go_wp2_with fail
        refine (Q1.out _ HB0x.out).mono ?_; rintro e w1 ⟨rfl, hb1⟩
        have HB1x := Lib.hid (HB0x.out.trans (hb1.mono HB0x.out.size))
        clear hb1
        clear g0 g1 g2 g3 g4 g5 g6 g7 g8
        have g0 := own_hold O1.out HB1x.out (by rw [HZ0.out]; omega) 0 rfl
        have g1 := own_hold O1.out HB1x.out (by rw [HZ0.out]; omega) 1 rfl
        have g2 := own_hold O1.out HB1x.out (by rw [HZ0.out]; omega) 2 rfl
        have g3 := own_hold O1.out HB1x.out (by rw [HZ0.out]; omega) 3 rfl
        have g4 := own_hold O1.out HB1x.out (by rw [HZ0.out]; omega) 4 rfl
        have g5 := own_hold O1.out HB1x.out (by rw [HZ0.out]; omega) 5 rfl
        have g6 := own_hold O1.out HB1x.out (by rw [HZ0.out]; omega) 6 rfl
        have g7 := own_hold O1.out HB1x.out (by rw [HZ0.out]; omega) 7 rfl
        have g8 := own_hold O1.out HB1x.out (by rw [HZ0.out]; omega) 8 rfl
        go_wp2_with fail
        refine (Q2.out _ HB1x.out).mono ?_; rintro e w2 ⟨rfl, hb2⟩
        have HB2x := Lib.hid (HB1x.out.trans (hb2.mono HB1x.out.size))
        clear hb2
        clear g0 g1 g2 g3 g4 g5 g6 g7 g8
        have g0 := own_hold O1.out HB2x.out (by rw [HZ0.out]; omega) 0 rfl
        have g1 := own_hold O1.out HB2x.out (by rw [HZ0.out]; omega) 1 rfl
        have g2 := own_hold O1.out HB2x.out (by rw [HZ0.out]; omega) 2 rfl
        have g3 := own_hold O1.out HB2x.out (by rw [HZ0.out]; omega) 3 rfl
        have g4 := own_hold O1.out HB2x.out (by rw [HZ0.out]; omega) 4 rfl
        have g5 := own_hold O1.out HB2x.out (by rw [HZ0.out]; omega) 5 rfl
        have g6 := own_hold O1.out HB2x.out (by rw [HZ0.out]; omega) 6 rfl
        have g7 := own_hold O1.out HB2x.out (by rw [HZ0.out]; omega) 7 rfl
        have g8 := own_hold O1.out HB2x.out (by rw [HZ0.out]; omega) 8 rfl
        go_wp2_with fail
        go_ret
        exact ⟨rfl, (HB0.out.trans (HB2x.out.mono HB0.out.size))⟩
      | true =>
        cases t3 with
        | false =>
          go_enter Tryd.func56, Tryd.ntmps56
          go_wp2_with fail
          rw [HW.out]
          refine (Q0.out _ (Below.refl _ _)).mono ?_; rintro e w0 ⟨rfl, hb0⟩
          have HB0x := Lib.hid hb0
          clear hb0
          have g0 := own_hold O1.out HB0x.out (by rw [HZ0.out]; omega) 0 rfl
          have g1 := own_hold O1.out HB0x.out (by rw [HZ0.out]; omega) 1 rfl
          have g2 := own_hold O1.out HB0x.out (by rw [HZ0.out]; omega) 2 rfl
          have g3 := own_hold O1.out HB0x.out (by rw [HZ0.out]; omega) 3 rfl
          have g4 := own_hold O1.out HB0x.out (by rw [HZ0.out]; omega) 4 rfl
          have g5 := own_hold O1.out HB0x.out (by rw [HZ0.out]; omega) 5 rfl
          have g6 := own_hold O1.out HB0x.out (by rw [HZ0.out]; omega) 6 rfl
          have g7 := own_hold O1.out HB0x.out (by rw [HZ0.out]; omega) 7 rfl
          have g8 := own_hold O1.out HB0x.out (by rw [HZ0.out]; omega) 8 rfl
          go_wp2_with fail
          refine (Q1.out _ HB0x.out).mono ?_; rintro e w1 ⟨rfl, hb1⟩
          have HB1x := Lib.hid (HB0x.out.trans (hb1.mono HB0x.out.size))
          clear hb1
          clear g0 g1 g2 g3 g4 g5 g6 g7 g8
          have g0 := own_hold O1.out HB1x.out (by rw [HZ0.out]; omega) 0 rfl
          have g1 := own_hold O1.out HB1x.out (by rw [HZ0.out]; omega) 1 rfl
          have g2 := own_hold O1.out HB1x.out (by rw [HZ0.out]; omega) 2 rfl
          have g3 := own_hold O1.out HB1x.out (by rw [HZ0.out]; omega) 3 rfl
          have g4 := own_hold O1.out HB1x.out (by rw [HZ0.out]; omega) 4 rfl
          have g5 := own_hold O1.out HB1x.out (by rw [HZ0.out]; omega) 5 rfl
          have g6 := own_hold O1.out HB1x.out (by rw [HZ0.out]; omega) 6 rfl
          have g7 := own_hold O1.out HB1x.out (by rw [HZ0.out]; omega) 7 rfl
          have g8 := own_hold O1.out HB1x.out (by rw [HZ0.out]; omega) 8 rfl
          go_wp2_with fail
          refine (Q2.out _ HB1x.out).mono ?_; rintro e w2 ⟨rfl, hb2⟩
          have HB2x := Lib.hid (HB1x.out.trans (hb2.mono HB1x.out.size))
          clear hb2
          clear g0 g1 g2 g3 g4 g5 g6 g7 g8
          have g0 := own_hold O1.out HB2x.out (by rw [HZ0.out]; omega) 0 rfl
          have g1 := own_hold O1.out HB2x.out (by rw [HZ0.out]; omega) 1 rfl
          have g2 := own_hold O1.out HB2x.out (by rw [HZ0.out]; omega) 2 rfl
          have g3 := own_hold O1.out HB2x.out (by rw [HZ0.out]; omega) 3 rfl
          have g4 := own_hold O1.out HB2x.out (by rw [HZ0.out]; omega) 4 rfl
          have g5 := own_hold O1.out HB2x.out (by rw [HZ0.out]; omega) 5 rfl
          have g6 := own_hold O1.out HB2x.out (by rw [HZ0.out]; omega) 6 rfl
          have g7 := own_hold O1.out HB2x.out (by rw [HZ0.out]; omega) 7 rfl
          have g8 := own_hold O1.out HB2x.out (by rw [HZ0.out]; omega) 8 rfl
          go_wp2_with fail
          refine (Q3.out _ HB2x.out).mono ?_; rintro e w3 ⟨rfl, hb3⟩
          have HB3x := Lib.hid (HB2x.out.trans (hb3.mono HB2x.out.size))
          clear hb3
          clear g0 g1 g2 g3 g4 g5 g6 g7 g8
          have g0 := own_hold O1.out HB3x.out (by rw [HZ0.out]; omega) 0 rfl
          have g1 := own_hold O1.out HB3x.out (by rw [HZ0.out]; omega) 1 rfl
          have g2 := own_hold O1.out HB3x.out (by rw [HZ0.out]; omega) 2 rfl
          have g3 := own_hold O1.out HB3x.out (by rw [HZ0.out]; omega) 3 rfl
          have g4 := own_hold O1.out HB3x.out (by rw [HZ0.out]; omega) 4 rfl
          have g5 := own_hold O1.out HB3x.out (by rw [HZ0.out]; omega) 5 rfl
          have g6 := own_hold O1.out HB3x.out (by rw [HZ0.out]; omega) 6 rfl
          have g7 := own_hold O1.out HB3x.out (by rw [HZ0.out]; omega) 7 rfl
          have g8 := own_hold O1.out HB3x.out (by rw [HZ0.out]; omega) 8 rfl
          go_wp2_with fail
          go_ret
          exact ⟨rfl, (HB0.out.trans (HB3x.out.mono HB0.out.size))⟩
        | true =>
          go_enter Tryd.func56, Tryd.ntmps56
          go_wp2_with fail
          rw [HW.out]
          refine (Q0.out _ (Below.refl _ _)).mono ?_; rintro e w0 ⟨rfl, hb0⟩
          have HB0x := Lib.hid hb0
          clear hb0
          have g0 := own_hold O1.out HB0x.out (by rw [HZ0.out]; omega) 0 rfl
          have g1 := own_hold O1.out HB0x.out (by rw [HZ0.out]; omega) 1 rfl
          have g2 := own_hold O1.out HB0x.out (by rw [HZ0.out]; omega) 2 rfl
          have g3 := own_hold O1.out HB0x.out (by rw [HZ0.out]; omega) 3 rfl
          have g4 := own_hold O1.out HB0x.out (by rw [HZ0.out]; omega) 4 rfl
          have g5 := own_hold O1.out HB0x.out (by rw [HZ0.out]; omega) 5 rfl
          have g6 := own_hold O1.out HB0x.out (by rw [HZ0.out]; omega) 6 rfl
          have g7 := own_hold O1.out HB0x.out (by rw [HZ0.out]; omega) 7 rfl
          have g8 := own_hold O1.out HB0x.out (by rw [HZ0.out]; omega) 8 rfl
          go_wp2_with fail
          refine (Q1.out _ HB0x.out).mono ?_; rintro e w1 ⟨rfl, hb1⟩
          have HB1x := Lib.hid (HB0x.out.trans (hb1.mono HB0x.out.size))
          clear hb1
          clear g0 g1 g2 g3 g4 g5 g6 g7 g8
          have g0 := own_hold O1.out HB1x.out (by rw [HZ0.out]; omega) 0 rfl
          have g1 := own_hold O1.out HB1x.out (by rw [HZ0.out]; omega) 1 rfl
          have g2 := own_hold O1.out HB1x.out (by rw [HZ0.out]; omega) 2 rfl
          have g3 := own_hold O1.out HB1x.out (by rw [HZ0.out]; omega) 3 rfl
          have g4 := own_hold O1.out HB1x.out (by rw [HZ0.out]; omega) 4 rfl
          have g5 := own_hold O1.out HB1x.out (by rw [HZ0.out]; omega) 5 rfl
          have g6 := own_hold O1.out HB1x.out (by rw [HZ0.out]; omega) 6 rfl
          have g7 := own_hold O1.out HB1x.out (by rw [HZ0.out]; omega) 7 rfl
          have g8 := own_hold O1.out HB1x.out (by rw [HZ0.out]; omega) 8 rfl
          go_wp2_with fail
          refine (Q2.out _ HB1x.out).mono ?_; rintro e w2 ⟨rfl, hb2⟩
          have HB2x := Lib.hid (HB1x.out.trans (hb2.mono HB1x.out.size))
          clear hb2
          clear g0 g1 g2 g3 g4 g5 g6 g7 g8
          have g0 := own_hold O1.out HB2x.out (by rw [HZ0.out]; omega) 0 rfl
          have g1 := own_hold O1.out HB2x.out (by rw [HZ0.out]; omega) 1 rfl
          have g2 := own_hold O1.out HB2x.out (by rw [HZ0.out]; omega) 2 rfl
          have g3 := own_hold O1.out HB2x.out (by rw [HZ0.out]; omega) 3 rfl
          have g4 := own_hold O1.out HB2x.out (by rw [HZ0.out]; omega) 4 rfl
          have g5 := own_hold O1.out HB2x.out (by rw [HZ0.out]; omega) 5 rfl
          have g6 := own_hold O1.out HB2x.out (by rw [HZ0.out]; omega) 6 rfl
          have g7 := own_hold O1.out HB2x.out (by rw [HZ0.out]; omega) 7 rfl
          have g8 := own_hold O1.out HB2x.out (by rw [HZ0.out]; omega) 8 rfl
          go_wp2_with fail
          refine (Q3.out _ HB2x.out).mono ?_; rintro e w3 ⟨rfl, hb3⟩
          have HB3x := Lib.hid (HB2x.out.trans (hb3.mono HB2x.out.size))
          clear hb3
          clear g0 g1 g2 g3 g4 g5 g6 g7 g8
          have g0 := own_hold O1.out HB3x.out (by rw [HZ0.out]; omega) 0 rfl
          have g1 := own_hold O1.out HB3x.out (by rw [HZ0.out]; omega) 1 rfl
          have g2 := own_hold O1.out HB3x.out (by rw [HZ0.out]; omega) 2 rfl
          have g3 := own_hold O1.out HB3x.out (by rw [HZ0.out]; omega) 3 rfl
          have g4 := own_hold O1.out HB3x.out (by rw [HZ0.out]; omega) 4 rfl
          have g5 := own_hold O1.out HB3x.out (by rw [HZ0.out]; omega) 5 rfl
          have g6 := own_hold O1.out HB3x.out (by rw [HZ0.out]; omega) 6 rfl
          have g7 := own_hold O1.out HB3x.out (by rw [HZ0.out]; omega) 7 rfl
          have g8 := own_hold O1.out HB3x.out (by rw [HZ0.out]; omega) 8 rfl
          go_wp2_with fail
          go_ret
          exact ⟨rfl, (HB0.out.trans (HB3x.out.mono HB0.out.size))⟩
theorem tell_block {lo hi : Nat} {w0 : World} (l : List Api.Block) (hh : hi ≤ w0.heap.size) (hL : LaidS w0) : Tells 56 (fun w cs x => BlockC lo hi w cs x) (fun cs => .agg cs.toArray) blockR w0 l :=
  ⟨enters Tryd.func56 (by decide) rfl, fun w cs x hb _ h => block_any lo hi w cs x h (Nat.le_trans hh hb.size) (hL.below hb (Nat.le_refl _))⟩
/-- Few blocks, each with few phis and instructions: their sum does not wrap. -/
def Bd (f : Api.Func) : Prop := f.blocks.length ≤ 65536 ∧ ∀ b ∈ f.blocks, b.phis.length ≤ 65536 ∧ b.code.length ≤ 65536
theorem longF_next {l : List Api.Block} {k : Nat} {x : Api.Block} (h : l[k]? = some x) : longF (l.take (k + 1)) = longF (l.take k) + longB x := by
  rw [LinesM.take_next h]
  simp [longF]
theorem longF_le {l : List Api.Block} (h : ∀ b ∈ l, b.phis.length ≤ 65536 ∧ b.code.length ≤ 65536) : longF l ≤ l.length * 131072 := by
  induction l with
  | nil => simp [longF]
  | cons b l ih =>
    have h1 := h b (by simp)
    have h2 := ih fun x hx => h x (by simp [hx])
    have : longF (b :: l) = longB b + longF l := by simp [longF]
    rw [this]
    unfold longB
    simp only [List.length_cons]
    omega
set_option maxRecDepth 100000 in
set_option maxHeartbeats 8000000 in
theorem short_any (lo hi : Nat) (w : World) (cs : List Value) (x : Api.Func) (hx : FuncC lo hi w cs x) (hh : hi ≤ w.heap.size) (hB : Bd x) : Calls Tryd.prog 54 #[.agg cs.toArray] w (Says w (decide (0 < x.blocks.length) && decide (longF x.blocks ≤ 1024))) := by
  obtain ⟨u1, u2, u3, rfl, ka, kf, ko⟩ := hx
  obtain ⟨nm, rs, ps, vs, bl⟩ := x
  simp only at ka kf ko ⊢
  obtain ⟨B1, c1, rfl⟩ := ka.form
  obtain ⟨B2, c2, rfl⟩ := kf.form
  obtain ⟨B3, c3, rfl⟩ := ko.form
  show Calls Tryd.prog 54 #[.agg #[str nm, str rs, .slice B1 ps.length c1, .slice B2 vs.length c2, .slice B3 bl.length c3]] w _
  obtain ⟨hb1, hb2⟩ := hB
  simp only at hb1 hb2
  obtain ⟨W, hW⟩ : ∃ W, w.alloc (.cells #[str nm, str rs, .slice B1 ps.length c1, .slice B2 vs.length c2, .slice B3 bl.length c3] 37) = W := ⟨_, rfl⟩
  obtain ⟨o1, hb0, hz0⟩ := boxed1 (c := [str nm, str rs, .slice B1 ps.length c1, .slice B2 vs.length c2, .slice B3 bl.length c3]) hW
  have O1 := Lib.hid o1
  have HB0 := Lib.hid hb0
  have HZ0 := Lib.hid hz0
  have HW := Lib.hid hW
  have HK := Lib.hid (Blocks.move (Still.of_below (hb0.mono hh)) ko)
  have HB2 := Lib.hid hb2
  obtain ⟨t0, h0⟩ : ∃ t, decide (0 < bl.length) = t := ⟨_, rfl⟩
  obtain ⟨t1, h1⟩ : ∃ t, decide (longF bl ≤ 1024) = t := ⟨_, rfl⟩
  rw [h0, h1]
  have HT1 := Lib.hid h1
  clear h1 ka kf ko o1 hb0 hz0 hW hb2
  go_enter Tryd.func54, Tryd.ntmps54
  go_wp2_with fail
  rw [HW.out]
  go_loopw [3, 9] (fun v3 i wr => ∃ k : Nat, k ≤ bl.length ∧ i = .int .i64 k ∧ v3 = .int .i64 ((longF (bl.take k) : Nat) : Int) ∧ Hid (Below W.heap.size W wr)) (fun _ i _ => bl.length - (intOf i).toNat)
  case atStart => exact ⟨0, Nat.zero_le _, rfl, rfl, Lib.hid (Below.refl _ _)⟩
  case round =>
  obtain ⟨k, hk, rfl, rfl, HBr⟩ := hrel
  by_cases hlt : k < bl.length
  · obtain ⟨⟨bn, bp, bc, ⟨tk, ⟨ak, as_, an⟩, td, tn⟩⟩, hy⟩ : ∃ x, bl[k]? = some x := ⟨_, List.getElem?_eq_getElem hlt⟩
    obtain ⟨b2, of2, _, hm2, a2, j2⟩ := HK.out.get
    obtain ⟨rfl, _, hb2⟩ := a2 (by omega)
    obtain ⟨cs2, _, q2, y1, y2, cs3, rfl, hy1, hy2, y3, hcs3, hy3⟩ := j2 k _ hy
    subst hcs3
    simp only at hy1 hy2 hy3 q2
    obtain ⟨C1, l1, rfl⟩ := hy1.form
    obtain ⟨C2, l2, rfl⟩ := hy2.form
    obtain ⟨C3, l3, rfl⟩ := hy3.form
    obtain ⟨n0, n1, n2, n3, n4, n5, n6, n7, n8⟩ := at9 (cells_later q2 HBr.out (show b2 < W.heap.size by have := HB0.out.size; omega))
    obtain ⟨p1, p2⟩ := HB2.out _ (List.mem_of_getElem? hy)
    simp only at p1 p2
    have hn := longF_next hy
    have hle := longF_le (l := bl.take k) (fun b hb => HB2.out b (List.mem_of_mem_take hb))
    have hle2 : longF (bl.take k) ≤ 8589934592 := by
      have : (bl.take k).length ≤ 65536 := by rw [List.length_take]; omega
      omega
    have HN : Hid (longF (bl.take (k + 1)) = longF (bl.take k) + (bp.length + bc.length)) := Lib.hid hn
    clear hy1 hy2 hy3 q2 j2 a2 hn hle hy
    go_wp2
    go_roundw
    case rel => exact ⟨k + 1, by omega, by go_num, by rw [HN.out]; go_num, Lib.hid (HBr.out.alloc HBr.out.size _)⟩
    case measure => simp [intOf]; omega
  · obtain rfl : k = bl.length := by omega
    rw [List.take_length]
    have e1 : decide ((longF bl : Int) ≤ 1024) = t1 := by rw [← HT1.out]; exact decide_eq_decide.2 (by omega)
    have g4 := own_hold O1.out HBr.out (by rw [HZ0.out]; omega) 4 rfl
    clear hlt hk
    cases t0 <;> cases t1
    all_goals
      go_wp2
      go_ret
      exact ⟨rfl, HB0.out.trans (HBr.out.mono HB0.out.size)⟩
set_option maxRecDepth 100000 in
set_option maxHeartbeats 8000000 in
theorem func_any (lo hi : Nat) (w : World) (cs : List Value) (x : Api.Func) (hx : FuncC lo hi w cs x) (hh : hi ≤ w.heap.size) (hL : LaidS w) (hB : Bd x) : Calls Tryd.prog 31 #[.agg cs.toArray] w (Says w (funcR x)) := by
  have hx0 := hx
  obtain ⟨u1, u2, u3, rfl, ka, kf, ko⟩ := hx
  obtain ⟨nm, rs, ps, vs, bl⟩ := x
  simp only at ka kf ko ⊢
  obtain ⟨B1, c1, rfl⟩ := ka.form
  obtain ⟨B2, c2, rfl⟩ := kf.form
  obtain ⟨B3, c3, rfl⟩ := ko.form
  show Calls Tryd.prog 31 #[.agg #[str nm, str rs, .slice B1 ps.length c1, .slice B2 vs.length c2, .slice B3 bl.length c3]] w _
  obtain ⟨t0, h0⟩ : ∃ t, nameV nm = t := ⟨_, rfl⟩
  obtain ⟨t1, h1⟩ : ∃ t, kindV rs = t := ⟨_, rfl⟩
  obtain ⟨t2, h2⟩ : ∃ t, allR 6 varR ps = t := ⟨_, rfl⟩
  obtain ⟨t3, h3⟩ : ∃ t, allR 1024 varR vs = t := ⟨_, rfl⟩
  obtain ⟨t4, h4⟩ : ∃ t, (decide (0 < bl.length) && decide (longF bl ≤ 1024)) = t := ⟨_, rfl⟩
  obtain ⟨t5, h5⟩ : ∃ t, allR 256 blockR bl = t := ⟨_, rfl⟩
  have hr : funcR ⟨nm, rs, ps, vs, bl⟩ = (t0 && (t1 && (t2 && (t3 && (t4 && t5))))) := by
    unfold funcR
    simp only
    rw [h0, h1, h2, h3, h4, h5]
  rw [hr]
  obtain ⟨W, hW⟩ : ∃ W, w.alloc (.cells #[str nm, str rs, .slice B1 ps.length c1, .slice B2 vs.length c2, .slice B3 bl.length c3] 37) = W := ⟨_, rfl⟩
  obtain ⟨o1, hb0, hz0⟩ := boxed1 (c := [str nm, str rs, .slice B1 ps.length c1, .slice B2 vs.length c2, .slice B3 bl.length c3]) hW
  have O1 := Lib.hid o1
  have HB0 := Lib.hid hb0
  have HZ0 := Lib.hid hz0
  have HW := Lib.hid hW
  have Q0 := Lib.hid fun (w' : World) (hb : Below W.heap.size W w') => (name_says nm t0 h0 w')
  have Q1 := Lib.hid fun (w' : World) (hb : Below W.heap.size W w') => (kind_says rs t1 h1 w')
  have Q2 := Lib.hid fun (w' : World) (hb : Below W.heap.size W w') => (show Calls Tryd.prog 26 #[.slice B1 ps.length c1, .int .i64 6, fv 27] w' (Says w' t2) from by rw [← h2]; exact allVar_any _ _ w' _ _ 6 _ _ (Vars.move (Still.of_below ((HB0.out.trans (hb.mono HB0.out.size)).mono hh)) ka) (Nat.le_trans hh (Nat.le_trans HB0.out.size hb.size)) (tell_var (lo := 0) _ (Nat.le_trans hh (Nat.le_trans HB0.out.size hb.size))) (by decide))
  have Q3 := Lib.hid fun (w' : World) (hb : Below W.heap.size W w') => (show Calls Tryd.prog 26 #[.slice B2 vs.length c2, .int .i64 1024, fv 27] w' (Says w' t3) from by rw [← h3]; exact allVar_any _ _ w' _ _ 1024 _ _ (Vars.move (Still.of_below ((HB0.out.trans (hb.mono HB0.out.size)).mono hh)) kf) (Nat.le_trans hh (Nat.le_trans HB0.out.size hb.size)) (tell_var (lo := 0) _ (Nat.le_trans hh (Nat.le_trans HB0.out.size hb.size))) (by decide))
  have Q4 := Lib.hid fun (w' : World) (hb : Below W.heap.size W w') => (show Calls Tryd.prog 54 #[.agg #[str nm, str rs, .slice B1 ps.length c1, .slice B2 vs.length c2, .slice B3 bl.length c3]] w' (Says w' t4) from by rw [← h4]; exact short_any lo hi w' _ ⟨nm, rs, ps, vs, bl⟩ (FuncC.move (Still.of_below ((HB0.out.trans (hb.mono HB0.out.size)).mono hh)) hx0) (Nat.le_trans hh (Nat.le_trans HB0.out.size hb.size)) hB)
  have Q5 := Lib.hid fun (w' : World) (hb : Below W.heap.size W w') => (show Calls Tryd.prog 55 #[.slice B3 bl.length c3, .int .i64 256, fv 56] w' (Says w' t5) from by rw [← h5]; exact allBlock_any _ _ w' _ _ 256 _ _ (Blocks.move (Still.of_below ((HB0.out.trans (hb.mono HB0.out.size)).mono hh)) ko) (Nat.le_trans hh (Nat.le_trans HB0.out.size hb.size)) (tell_block _ (Nat.le_trans hh (Nat.le_trans HB0.out.size hb.size)) ((hL.below hb0 (Nat.le_refl _)).below hb (Nat.le_refl _))) (by decide))
  clear h0 h1 h2 h3 h4 h5 o1 hb0 hz0 hW hr hL ka kf ko hx0 hB
  cases t0 with
  | false =>
    go_enter Tryd.func31, Tryd.ntmps31
    go_wp2_with fail
    rw [HW.out]
    refine (Q0.out _ (Below.refl _ _)).mono ?_; rintro e w0 ⟨rfl, hb0⟩
    have HB0x := Lib.hid hb0
    clear hb0
    have g0 := own_hold O1.out HB0x.out (by rw [HZ0.out]; omega) 0 rfl
    have g1 := own_hold O1.out HB0x.out (by rw [HZ0.out]; omega) 1 rfl
    have g2 := own_hold O1.out HB0x.out (by rw [HZ0.out]; omega) 2 rfl
    have g3 := own_hold O1.out HB0x.out (by rw [HZ0.out]; omega) 3 rfl
    have g4 := own_hold O1.out HB0x.out (by rw [HZ0.out]; omega) 4 rfl
    go_wp2_with fail
    go_ret
    exact ⟨rfl, (HB0.out.trans (HB0x.out.mono HB0.out.size))⟩
  | true =>
    cases t1 with
    | false =>
      go_enter Tryd.func31, Tryd.ntmps31
      go_wp2_with fail
      rw [HW.out]
      refine (Q0.out _ (Below.refl _ _)).mono ?_; rintro e w0 ⟨rfl, hb0⟩
      have HB0x := Lib.hid hb0
      clear hb0
      have g0 := own_hold O1.out HB0x.out (by rw [HZ0.out]; omega) 0 rfl
      have g1 := own_hold O1.out HB0x.out (by rw [HZ0.out]; omega) 1 rfl
      have g2 := own_hold O1.out HB0x.out (by rw [HZ0.out]; omega) 2 rfl
      have g3 := own_hold O1.out HB0x.out (by rw [HZ0.out]; omega) 3 rfl
      have g4 := own_hold O1.out HB0x.out (by rw [HZ0.out]; omega) 4 rfl
      go_wp2_with fail
      refine (Q1.out _ HB0x.out).mono ?_; rintro e w1 ⟨rfl, hb1⟩
      have HB1x := Lib.hid (HB0x.out.trans (hb1.mono HB0x.out.size))
      clear hb1
      clear g0 g1 g2 g3 g4
      have g0 := own_hold O1.out HB1x.out (by rw [HZ0.out]; omega) 0 rfl
      have g1 := own_hold O1.out HB1x.out (by rw [HZ0.out]; omega) 1 rfl
      have g2 := own_hold O1.out HB1x.out (by rw [HZ0.out]; omega) 2 rfl
      have g3 := own_hold O1.out HB1x.out (by rw [HZ0.out]; omega) 3 rfl
      have g4 := own_hold O1.out HB1x.out (by rw [HZ0.out]; omega) 4 rfl
      go_wp2_with fail
      go_ret
      exact ⟨rfl, (HB0.out.trans (HB1x.out.mono HB0.out.size))⟩
    | true =>
      cases t2 with
      | false =>
        go_enter Tryd.func31, Tryd.ntmps31
        go_wp2_with fail
        rw [HW.out]
        refine (Q0.out _ (Below.refl _ _)).mono ?_; rintro e w0 ⟨rfl, hb0⟩
        have HB0x := Lib.hid hb0
        clear hb0
        have g0 := own_hold O1.out HB0x.out (by rw [HZ0.out]; omega) 0 rfl
        have g1 := own_hold O1.out HB0x.out (by rw [HZ0.out]; omega) 1 rfl
        have g2 := own_hold O1.out HB0x.out (by rw [HZ0.out]; omega) 2 rfl
        have g3 := own_hold O1.out HB0x.out (by rw [HZ0.out]; omega) 3 rfl
        have g4 := own_hold O1.out HB0x.out (by rw [HZ0.out]; omega) 4 rfl
        go_wp2_with fail
        refine (Q1.out _ HB0x.out).mono ?_; rintro e w1 ⟨rfl, hb1⟩
        have HB1x := Lib.hid (HB0x.out.trans (hb1.mono HB0x.out.size))
        clear hb1
        clear g0 g1 g2 g3 g4
        have g0 := own_hold O1.out HB1x.out (by rw [HZ0.out]; omega) 0 rfl
        have g1 := own_hold O1.out HB1x.out (by rw [HZ0.out]; omega) 1 rfl
        have g2 := own_hold O1.out HB1x.out (by rw [HZ0.out]; omega) 2 rfl
        have g3 := own_hold O1.out HB1x.out (by rw [HZ0.out]; omega) 3 rfl
        have g4 := own_hold O1.out HB1x.out (by rw [HZ0.out]; omega) 4 rfl
        go_wp2_with fail
        refine (Q2.out _ HB1x.out).mono ?_; rintro e w2 ⟨rfl, hb2⟩
        have HB2x := Lib.hid (HB1x.out.trans (hb2.mono HB1x.out.size))
        clear hb2
        clear g0 g1 g2 g3 g4
        have g0 := own_hold O1.out HB2x.out (by rw [HZ0.out]; omega) 0 rfl
        have g1 := own_hold O1.out HB2x.out (by rw [HZ0.out]; omega) 1 rfl
        have g2 := own_hold O1.out HB2x.out (by rw [HZ0.out]; omega) 2 rfl
        have g3 := own_hold O1.out HB2x.out (by rw [HZ0.out]; omega) 3 rfl
        have g4 := own_hold O1.out HB2x.out (by rw [HZ0.out]; omega) 4 rfl
        go_wp2_with fail
        go_ret
        exact ⟨rfl, (HB0.out.trans (HB2x.out.mono HB0.out.size))⟩
      | true =>
        cases t3 with
        | false =>
          go_enter Tryd.func31, Tryd.ntmps31
          go_wp2_with fail
          rw [HW.out]
          refine (Q0.out _ (Below.refl _ _)).mono ?_; rintro e w0 ⟨rfl, hb0⟩
          have HB0x := Lib.hid hb0
          clear hb0
          have g0 := own_hold O1.out HB0x.out (by rw [HZ0.out]; omega) 0 rfl
          have g1 := own_hold O1.out HB0x.out (by rw [HZ0.out]; omega) 1 rfl
          have g2 := own_hold O1.out HB0x.out (by rw [HZ0.out]; omega) 2 rfl
          have g3 := own_hold O1.out HB0x.out (by rw [HZ0.out]; omega) 3 rfl
          have g4 := own_hold O1.out HB0x.out (by rw [HZ0.out]; omega) 4 rfl
          go_wp2_with fail
          refine (Q1.out _ HB0x.out).mono ?_; rintro e w1 ⟨rfl, hb1⟩
          have HB1x := Lib.hid (HB0x.out.trans (hb1.mono HB0x.out.size))
          clear hb1
          clear g0 g1 g2 g3 g4
          have g0 := own_hold O1.out HB1x.out (by rw [HZ0.out]; omega) 0 rfl
          have g1 := own_hold O1.out HB1x.out (by rw [HZ0.out]; omega) 1 rfl
          have g2 := own_hold O1.out HB1x.out (by rw [HZ0.out]; omega) 2 rfl
          have g3 := own_hold O1.out HB1x.out (by rw [HZ0.out]; omega) 3 rfl
          have g4 := own_hold O1.out HB1x.out (by rw [HZ0.out]; omega) 4 rfl
          go_wp2_with fail
          refine (Q2.out _ HB1x.out).mono ?_; rintro e w2 ⟨rfl, hb2⟩
          have HB2x := Lib.hid (HB1x.out.trans (hb2.mono HB1x.out.size))
          clear hb2
          clear g0 g1 g2 g3 g4
          have g0 := own_hold O1.out HB2x.out (by rw [HZ0.out]; omega) 0 rfl
          have g1 := own_hold O1.out HB2x.out (by rw [HZ0.out]; omega) 1 rfl
          have g2 := own_hold O1.out HB2x.out (by rw [HZ0.out]; omega) 2 rfl
          have g3 := own_hold O1.out HB2x.out (by rw [HZ0.out]; omega) 3 rfl
          have g4 := own_hold O1.out HB2x.out (by rw [HZ0.out]; omega) 4 rfl
          go_wp2_with fail
          refine (Q3.out _ HB2x.out).mono ?_; rintro e w3 ⟨rfl, hb3⟩
          have HB3x := Lib.hid (HB2x.out.trans (hb3.mono HB2x.out.size))
          clear hb3
          clear g0 g1 g2 g3 g4
          have g0 := own_hold O1.out HB3x.out (by rw [HZ0.out]; omega) 0 rfl
          have g1 := own_hold O1.out HB3x.out (by rw [HZ0.out]; omega) 1 rfl
          have g2 := own_hold O1.out HB3x.out (by rw [HZ0.out]; omega) 2 rfl
          have g3 := own_hold O1.out HB3x.out (by rw [HZ0.out]; omega) 3 rfl
          have g4 := own_hold O1.out HB3x.out (by rw [HZ0.out]; omega) 4 rfl
          go_wp2_with fail
          go_ret
          exact ⟨rfl, (HB0.out.trans (HB3x.out.mono HB0.out.size))⟩
        | true =>
          cases t4 with
          | false =>
            go_enter Tryd.func31, Tryd.ntmps31
            go_wp2_with fail
            rw [HW.out]
            refine (Q0.out _ (Below.refl _ _)).mono ?_; rintro e w0 ⟨rfl, hb0⟩
            have HB0x := Lib.hid hb0
            clear hb0
            have g0 := own_hold O1.out HB0x.out (by rw [HZ0.out]; omega) 0 rfl
            have g1 := own_hold O1.out HB0x.out (by rw [HZ0.out]; omega) 1 rfl
            have g2 := own_hold O1.out HB0x.out (by rw [HZ0.out]; omega) 2 rfl
            have g3 := own_hold O1.out HB0x.out (by rw [HZ0.out]; omega) 3 rfl
            have g4 := own_hold O1.out HB0x.out (by rw [HZ0.out]; omega) 4 rfl
            go_wp2_with fail
            refine (Q1.out _ HB0x.out).mono ?_; rintro e w1 ⟨rfl, hb1⟩
            have HB1x := Lib.hid (HB0x.out.trans (hb1.mono HB0x.out.size))
            clear hb1
            clear g0 g1 g2 g3 g4
            have g0 := own_hold O1.out HB1x.out (by rw [HZ0.out]; omega) 0 rfl
            have g1 := own_hold O1.out HB1x.out (by rw [HZ0.out]; omega) 1 rfl
            have g2 := own_hold O1.out HB1x.out (by rw [HZ0.out]; omega) 2 rfl
            have g3 := own_hold O1.out HB1x.out (by rw [HZ0.out]; omega) 3 rfl
            have g4 := own_hold O1.out HB1x.out (by rw [HZ0.out]; omega) 4 rfl
            go_wp2_with fail
            refine (Q2.out _ HB1x.out).mono ?_; rintro e w2 ⟨rfl, hb2⟩
            have HB2x := Lib.hid (HB1x.out.trans (hb2.mono HB1x.out.size))
            clear hb2
            clear g0 g1 g2 g3 g4
            have g0 := own_hold O1.out HB2x.out (by rw [HZ0.out]; omega) 0 rfl
            have g1 := own_hold O1.out HB2x.out (by rw [HZ0.out]; omega) 1 rfl
            have g2 := own_hold O1.out HB2x.out (by rw [HZ0.out]; omega) 2 rfl
            have g3 := own_hold O1.out HB2x.out (by rw [HZ0.out]; omega) 3 rfl
            have g4 := own_hold O1.out HB2x.out (by rw [HZ0.out]; omega) 4 rfl
            go_wp2_with fail
            refine (Q3.out _ HB2x.out).mono ?_; rintro e w3 ⟨rfl, hb3⟩
            have HB3x := Lib.hid (HB2x.out.trans (hb3.mono HB2x.out.size))
            clear hb3
            clear g0 g1 g2 g3 g4
            have g0 := own_hold O1.out HB3x.out (by rw [HZ0.out]; omega) 0 rfl
            have g1 := own_hold O1.out HB3x.out (by rw [HZ0.out]; omega) 1 rfl
            have g2 := own_hold O1.out HB3x.out (by rw [HZ0.out]; omega) 2 rfl
            have g3 := own_hold O1.out HB3x.out (by rw [HZ0.out]; omega) 3 rfl
            have g4 := own_hold O1.out HB3x.out (by rw [HZ0.out]; omega) 4 rfl
            go_wp2_with fail
            refine (Q4.out _ HB3x.out).mono ?_; rintro e w4 ⟨rfl, hb4⟩
            have HB4x := Lib.hid (HB3x.out.trans (hb4.mono HB3x.out.size))
            clear hb4
            clear g0 g1 g2 g3 g4
            have g0 := own_hold O1.out HB4x.out (by rw [HZ0.out]; omega) 0 rfl
            have g1 := own_hold O1.out HB4x.out (by rw [HZ0.out]; omega) 1 rfl
            have g2 := own_hold O1.out HB4x.out (by rw [HZ0.out]; omega) 2 rfl
            have g3 := own_hold O1.out HB4x.out (by rw [HZ0.out]; omega) 3 rfl
            have g4 := own_hold O1.out HB4x.out (by rw [HZ0.out]; omega) 4 rfl
            go_wp2_with fail
            go_ret
            exact ⟨rfl, (HB0.out.trans (HB4x.out.mono HB0.out.size))⟩
          | true =>
            cases t5 with
            | false =>
              go_enter Tryd.func31, Tryd.ntmps31
              go_wp2_with fail
              rw [HW.out]
              refine (Q0.out _ (Below.refl _ _)).mono ?_; rintro e w0 ⟨rfl, hb0⟩
              have HB0x := Lib.hid hb0
              clear hb0
              have g0 := own_hold O1.out HB0x.out (by rw [HZ0.out]; omega) 0 rfl
              have g1 := own_hold O1.out HB0x.out (by rw [HZ0.out]; omega) 1 rfl
              have g2 := own_hold O1.out HB0x.out (by rw [HZ0.out]; omega) 2 rfl
              have g3 := own_hold O1.out HB0x.out (by rw [HZ0.out]; omega) 3 rfl
              have g4 := own_hold O1.out HB0x.out (by rw [HZ0.out]; omega) 4 rfl
              go_wp2_with fail
              refine (Q1.out _ HB0x.out).mono ?_; rintro e w1 ⟨rfl, hb1⟩
              have HB1x := Lib.hid (HB0x.out.trans (hb1.mono HB0x.out.size))
              clear hb1
              clear g0 g1 g2 g3 g4
              have g0 := own_hold O1.out HB1x.out (by rw [HZ0.out]; omega) 0 rfl
              have g1 := own_hold O1.out HB1x.out (by rw [HZ0.out]; omega) 1 rfl
              have g2 := own_hold O1.out HB1x.out (by rw [HZ0.out]; omega) 2 rfl
              have g3 := own_hold O1.out HB1x.out (by rw [HZ0.out]; omega) 3 rfl
              have g4 := own_hold O1.out HB1x.out (by rw [HZ0.out]; omega) 4 rfl
              go_wp2_with fail
              refine (Q2.out _ HB1x.out).mono ?_; rintro e w2 ⟨rfl, hb2⟩
              have HB2x := Lib.hid (HB1x.out.trans (hb2.mono HB1x.out.size))
              clear hb2
              clear g0 g1 g2 g3 g4
              have g0 := own_hold O1.out HB2x.out (by rw [HZ0.out]; omega) 0 rfl
              have g1 := own_hold O1.out HB2x.out (by rw [HZ0.out]; omega) 1 rfl
              have g2 := own_hold O1.out HB2x.out (by rw [HZ0.out]; omega) 2 rfl
              have g3 := own_hold O1.out HB2x.out (by rw [HZ0.out]; omega) 3 rfl
              have g4 := own_hold O1.out HB2x.out (by rw [HZ0.out]; omega) 4 rfl
              go_wp2_with fail
              refine (Q3.out _ HB2x.out).mono ?_; rintro e w3 ⟨rfl, hb3⟩
              have HB3x := Lib.hid (HB2x.out.trans (hb3.mono HB2x.out.size))
              clear hb3
              clear g0 g1 g2 g3 g4
              have g0 := own_hold O1.out HB3x.out (by rw [HZ0.out]; omega) 0 rfl
              have g1 := own_hold O1.out HB3x.out (by rw [HZ0.out]; omega) 1 rfl
              have g2 := own_hold O1.out HB3x.out (by rw [HZ0.out]; omega) 2 rfl
              have g3 := own_hold O1.out HB3x.out (by rw [HZ0.out]; omega) 3 rfl
              have g4 := own_hold O1.out HB3x.out (by rw [HZ0.out]; omega) 4 rfl
              go_wp2_with fail
              refine (Q4.out _ HB3x.out).mono ?_; rintro e w4 ⟨rfl, hb4⟩
              have HB4x := Lib.hid (HB3x.out.trans (hb4.mono HB3x.out.size))
              clear hb4
              clear g0 g1 g2 g3 g4
              have g0 := own_hold O1.out HB4x.out (by rw [HZ0.out]; omega) 0 rfl
              have g1 := own_hold O1.out HB4x.out (by rw [HZ0.out]; omega) 1 rfl
              have g2 := own_hold O1.out HB4x.out (by rw [HZ0.out]; omega) 2 rfl
              have g3 := own_hold O1.out HB4x.out (by rw [HZ0.out]; omega) 3 rfl
              have g4 := own_hold O1.out HB4x.out (by rw [HZ0.out]; omega) 4 rfl
              go_wp2_with fail
              refine (Q5.out _ HB4x.out).mono ?_; rintro e w5 ⟨rfl, hb5⟩
              have HB5x := Lib.hid (HB4x.out.trans (hb5.mono HB4x.out.size))
              clear hb5
              clear g0 g1 g2 g3 g4
              have g0 := own_hold O1.out HB5x.out (by rw [HZ0.out]; omega) 0 rfl
              have g1 := own_hold O1.out HB5x.out (by rw [HZ0.out]; omega) 1 rfl
              have g2 := own_hold O1.out HB5x.out (by rw [HZ0.out]; omega) 2 rfl
              have g3 := own_hold O1.out HB5x.out (by rw [HZ0.out]; omega) 3 rfl
              have g4 := own_hold O1.out HB5x.out (by rw [HZ0.out]; omega) 4 rfl
              go_wp2_with fail
              go_ret
              exact ⟨rfl, (HB0.out.trans (HB5x.out.mono HB0.out.size))⟩
            | true =>
              go_enter Tryd.func31, Tryd.ntmps31
              go_wp2_with fail
              rw [HW.out]
              refine (Q0.out _ (Below.refl _ _)).mono ?_; rintro e w0 ⟨rfl, hb0⟩
              have HB0x := Lib.hid hb0
              clear hb0
              have g0 := own_hold O1.out HB0x.out (by rw [HZ0.out]; omega) 0 rfl
              have g1 := own_hold O1.out HB0x.out (by rw [HZ0.out]; omega) 1 rfl
              have g2 := own_hold O1.out HB0x.out (by rw [HZ0.out]; omega) 2 rfl
              have g3 := own_hold O1.out HB0x.out (by rw [HZ0.out]; omega) 3 rfl
              have g4 := own_hold O1.out HB0x.out (by rw [HZ0.out]; omega) 4 rfl
              go_wp2_with fail
              refine (Q1.out _ HB0x.out).mono ?_; rintro e w1 ⟨rfl, hb1⟩
              have HB1x := Lib.hid (HB0x.out.trans (hb1.mono HB0x.out.size))
              clear hb1
              clear g0 g1 g2 g3 g4
              have g0 := own_hold O1.out HB1x.out (by rw [HZ0.out]; omega) 0 rfl
              have g1 := own_hold O1.out HB1x.out (by rw [HZ0.out]; omega) 1 rfl
              have g2 := own_hold O1.out HB1x.out (by rw [HZ0.out]; omega) 2 rfl
              have g3 := own_hold O1.out HB1x.out (by rw [HZ0.out]; omega) 3 rfl
              have g4 := own_hold O1.out HB1x.out (by rw [HZ0.out]; omega) 4 rfl
              go_wp2_with fail
              refine (Q2.out _ HB1x.out).mono ?_; rintro e w2 ⟨rfl, hb2⟩
              have HB2x := Lib.hid (HB1x.out.trans (hb2.mono HB1x.out.size))
              clear hb2
              clear g0 g1 g2 g3 g4
              have g0 := own_hold O1.out HB2x.out (by rw [HZ0.out]; omega) 0 rfl
              have g1 := own_hold O1.out HB2x.out (by rw [HZ0.out]; omega) 1 rfl
              have g2 := own_hold O1.out HB2x.out (by rw [HZ0.out]; omega) 2 rfl
              have g3 := own_hold O1.out HB2x.out (by rw [HZ0.out]; omega) 3 rfl
              have g4 := own_hold O1.out HB2x.out (by rw [HZ0.out]; omega) 4 rfl
              go_wp2_with fail
              refine (Q3.out _ HB2x.out).mono ?_; rintro e w3 ⟨rfl, hb3⟩
              have HB3x := Lib.hid (HB2x.out.trans (hb3.mono HB2x.out.size))
              clear hb3
              clear g0 g1 g2 g3 g4
              have g0 := own_hold O1.out HB3x.out (by rw [HZ0.out]; omega) 0 rfl
              have g1 := own_hold O1.out HB3x.out (by rw [HZ0.out]; omega) 1 rfl
              have g2 := own_hold O1.out HB3x.out (by rw [HZ0.out]; omega) 2 rfl
              have g3 := own_hold O1.out HB3x.out (by rw [HZ0.out]; omega) 3 rfl
              have g4 := own_hold O1.out HB3x.out (by rw [HZ0.out]; omega) 4 rfl
              go_wp2_with fail
              refine (Q4.out _ HB3x.out).mono ?_; rintro e w4 ⟨rfl, hb4⟩
              have HB4x := Lib.hid (HB3x.out.trans (hb4.mono HB3x.out.size))
              clear hb4
              clear g0 g1 g2 g3 g4
              have g0 := own_hold O1.out HB4x.out (by rw [HZ0.out]; omega) 0 rfl
              have g1 := own_hold O1.out HB4x.out (by rw [HZ0.out]; omega) 1 rfl
              have g2 := own_hold O1.out HB4x.out (by rw [HZ0.out]; omega) 2 rfl
              have g3 := own_hold O1.out HB4x.out (by rw [HZ0.out]; omega) 3 rfl
              have g4 := own_hold O1.out HB4x.out (by rw [HZ0.out]; omega) 4 rfl
              go_wp2_with fail
              refine (Q5.out _ HB4x.out).mono ?_; rintro e w5 ⟨rfl, hb5⟩
              have HB5x := Lib.hid (HB4x.out.trans (hb5.mono HB4x.out.size))
              clear hb5
              clear g0 g1 g2 g3 g4
              have g0 := own_hold O1.out HB5x.out (by rw [HZ0.out]; omega) 0 rfl
              have g1 := own_hold O1.out HB5x.out (by rw [HZ0.out]; omega) 1 rfl
              have g2 := own_hold O1.out HB5x.out (by rw [HZ0.out]; omega) 2 rfl
              have g3 := own_hold O1.out HB5x.out (by rw [HZ0.out]; omega) 3 rfl
              have g4 := own_hold O1.out HB5x.out (by rw [HZ0.out]; omega) 4 rfl
              go_wp2_with fail
              go_ret
              exact ⟨rfl, (HB0.out.trans (HB5x.out.mono HB0.out.size))⟩
theorem tell_func {lo hi : Nat} {w0 : World} (l : List Api.Func) (hh : hi ≤ w0.heap.size) (hL : LaidS w0) (hB : ∀ f ∈ l, Bd f) : Tells 31 (fun w cs x => FuncC lo hi w cs x) (fun cs => .agg cs.toArray) funcR w0 l :=
  ⟨enters Tryd.func31 (by decide) rfl, fun w cs x hb hm h => func_any lo hi w cs x h (Nat.le_trans hh hb.size) (hL.below hb (Nat.le_refl _)) (hB x hm)⟩
set_option maxRecDepth 100000 in
set_option maxHeartbeats 8000000 in
theorem prog_any (lo hi : Nat) (w : World) (cs : List Value) (x : Prog) (hx : ProgC lo hi w cs x) (hh : hi ≤ w.heap.size) (hL : LaidS w) (hB : ∀ f ∈ x.funcs, Bd f) : Calls Tryd.prog 9 #[.agg cs.toArray] w (Says w (progR x)) := by
  obtain ⟨u1, u2, u3, u4, rfl, k1, k2, k3, k4⟩ := hx
  obtain ⟨ss, cl, gl, ex, fu⟩ := x
  simp only at k1 k2 k3 k4 hB ⊢
  obtain ⟨B1, c1, rfl⟩ := k1.form
  obtain ⟨B2, c2, rfl⟩ := k2.form
  obtain ⟨B3, c3, rfl⟩ := k3.form
  obtain ⟨B4, c4, rfl⟩ := k4.form
  show Calls Tryd.prog 9 #[.agg #[.bool ss, .slice B1 cl.length c1, .slice B2 gl.length c2, .slice B3 ex.length c3, .slice B4 fu.length c4]] w _
  obtain ⟨t0, h0⟩ : ∃ t, allR 8 classR cl = t := ⟨_, rfl⟩
  obtain ⟨t1, h1⟩ : ∃ t, allR 8 varR gl = t := ⟨_, rfl⟩
  obtain ⟨t2, h2⟩ : ∃ t, allR 8 externR ex = t := ⟨_, rfl⟩
  obtain ⟨t3, h3⟩ : ∃ t, allR 8 funcR fu = t := ⟨_, rfl⟩
  have hr : progR ⟨ss, cl, gl, ex, fu⟩ = (t0 && (t1 && (t2 && t3))) := by
    unfold progR
    simp only
    rw [h0, h1, h2, h3]
  rw [hr]
  obtain ⟨W, hW⟩ : ∃ W, w.alloc (.cells #[.bool ss, .slice B1 cl.length c1, .slice B2 gl.length c2, .slice B3 ex.length c3, .slice B4 fu.length c4] 27) = W := ⟨_, rfl⟩
  obtain ⟨o1, hb0, hz0⟩ := boxed1 (c := [.bool ss, .slice B1 cl.length c1, .slice B2 gl.length c2, .slice B3 ex.length c3, .slice B4 fu.length c4]) hW
  have O1 := Lib.hid o1
  have HB0 := Lib.hid hb0
  have HZ0 := Lib.hid hz0
  have HW := Lib.hid hW
  have Q0 := Lib.hid fun (w' : World) (hb : Below W.heap.size W w') => (show Calls Tryd.prog 24 #[.slice B1 cl.length c1, .int .i64 8, fv 25] w' (Says w' t0) from by rw [← h0]; exact allClass_any _ _ w' _ _ 8 _ _ (Classes.move (Still.of_below ((HB0.out.trans (hb.mono HB0.out.size)).mono hh)) k1) (Nat.le_trans hh (Nat.le_trans HB0.out.size hb.size)) (tell_class _ (Nat.le_trans hh (Nat.le_trans HB0.out.size hb.size))) (by decide))
  have Q1 := Lib.hid fun (w' : World) (hb : Below W.heap.size W w') => (show Calls Tryd.prog 26 #[.slice B2 gl.length c2, .int .i64 8, fv 27] w' (Says w' t1) from by rw [← h1]; exact allVar_any _ _ w' _ _ 8 _ _ (Vars.move (Still.of_below ((HB0.out.trans (hb.mono HB0.out.size)).mono hh)) k2) (Nat.le_trans hh (Nat.le_trans HB0.out.size hb.size)) (tell_var (lo := 0) _ (Nat.le_trans hh (Nat.le_trans HB0.out.size hb.size))) (by decide))
  have Q2 := Lib.hid fun (w' : World) (hb : Below W.heap.size W w') => (show Calls Tryd.prog 28 #[.slice B3 ex.length c3, .int .i64 8, fv 29] w' (Says w' t2) from by rw [← h2]; exact allExtern_any _ _ w' _ _ 8 _ _ (Externs.move (Still.of_below ((HB0.out.trans (hb.mono HB0.out.size)).mono hh)) k3) (Nat.le_trans hh (Nat.le_trans HB0.out.size hb.size)) (tell_extern (lo := 0) _ (Nat.le_trans hh (Nat.le_trans HB0.out.size hb.size))) (by decide))
  have Q3 := Lib.hid fun (w' : World) (hb : Below W.heap.size W w') => (show Calls Tryd.prog 30 #[.slice B4 fu.length c4, .int .i64 8, fv 31] w' (Says w' t3) from by rw [← h3]; exact allFunc_any _ _ w' _ _ 8 _ _ (Funcs.move (Still.of_below ((HB0.out.trans (hb.mono HB0.out.size)).mono hh)) k4) (Nat.le_trans hh (Nat.le_trans HB0.out.size hb.size)) (tell_func _ (Nat.le_trans hh (Nat.le_trans HB0.out.size hb.size)) ((hL.below hb0 (Nat.le_refl _)).below hb (Nat.le_refl _)) hB) (by decide))
  clear h0 h1 h2 h3 o1 hb0 hz0 hW hr hL k1 k2 k3 k4 hB
  cases t0 with
  | false =>
    go_enter Tryd.func9, Tryd.ntmps9
    go_wp2_with fail
    rw [HW.out]
    refine (Q0.out _ (Below.refl _ _)).mono ?_; rintro e w0 ⟨rfl, hb0⟩
    have HB0x := Lib.hid hb0
    clear hb0
    have g0 := own_hold O1.out HB0x.out (by rw [HZ0.out]; omega) 0 rfl
    have g1 := own_hold O1.out HB0x.out (by rw [HZ0.out]; omega) 1 rfl
    have g2 := own_hold O1.out HB0x.out (by rw [HZ0.out]; omega) 2 rfl
    have g3 := own_hold O1.out HB0x.out (by rw [HZ0.out]; omega) 3 rfl
    have g4 := own_hold O1.out HB0x.out (by rw [HZ0.out]; omega) 4 rfl
    go_wp2_with fail
    go_ret
    exact ⟨rfl, (HB0.out.trans (HB0x.out.mono HB0.out.size))⟩
  | true =>
    cases t1 with
    | false =>
      go_enter Tryd.func9, Tryd.ntmps9
      go_wp2_with fail
      rw [HW.out]
      refine (Q0.out _ (Below.refl _ _)).mono ?_; rintro e w0 ⟨rfl, hb0⟩
      have HB0x := Lib.hid hb0
      clear hb0
      have g0 := own_hold O1.out HB0x.out (by rw [HZ0.out]; omega) 0 rfl
      have g1 := own_hold O1.out HB0x.out (by rw [HZ0.out]; omega) 1 rfl
      have g2 := own_hold O1.out HB0x.out (by rw [HZ0.out]; omega) 2 rfl
      have g3 := own_hold O1.out HB0x.out (by rw [HZ0.out]; omega) 3 rfl
      have g4 := own_hold O1.out HB0x.out (by rw [HZ0.out]; omega) 4 rfl
      go_wp2_with fail
      refine (Q1.out _ HB0x.out).mono ?_; rintro e w1 ⟨rfl, hb1⟩
      have HB1x := Lib.hid (HB0x.out.trans (hb1.mono HB0x.out.size))
      clear hb1
      clear g0 g1 g2 g3 g4
      have g0 := own_hold O1.out HB1x.out (by rw [HZ0.out]; omega) 0 rfl
      have g1 := own_hold O1.out HB1x.out (by rw [HZ0.out]; omega) 1 rfl
      have g2 := own_hold O1.out HB1x.out (by rw [HZ0.out]; omega) 2 rfl
      have g3 := own_hold O1.out HB1x.out (by rw [HZ0.out]; omega) 3 rfl
      have g4 := own_hold O1.out HB1x.out (by rw [HZ0.out]; omega) 4 rfl
      go_wp2_with fail
      go_ret
      exact ⟨rfl, (HB0.out.trans (HB1x.out.mono HB0.out.size))⟩
    | true =>
      cases t2 with
      | false =>
        go_enter Tryd.func9, Tryd.ntmps9
        go_wp2_with fail
        rw [HW.out]
        refine (Q0.out _ (Below.refl _ _)).mono ?_; rintro e w0 ⟨rfl, hb0⟩
        have HB0x := Lib.hid hb0
        clear hb0
        have g0 := own_hold O1.out HB0x.out (by rw [HZ0.out]; omega) 0 rfl
        have g1 := own_hold O1.out HB0x.out (by rw [HZ0.out]; omega) 1 rfl
        have g2 := own_hold O1.out HB0x.out (by rw [HZ0.out]; omega) 2 rfl
        have g3 := own_hold O1.out HB0x.out (by rw [HZ0.out]; omega) 3 rfl
        have g4 := own_hold O1.out HB0x.out (by rw [HZ0.out]; omega) 4 rfl
        go_wp2_with fail
        refine (Q1.out _ HB0x.out).mono ?_; rintro e w1 ⟨rfl, hb1⟩
        have HB1x := Lib.hid (HB0x.out.trans (hb1.mono HB0x.out.size))
        clear hb1
        clear g0 g1 g2 g3 g4
        have g0 := own_hold O1.out HB1x.out (by rw [HZ0.out]; omega) 0 rfl
        have g1 := own_hold O1.out HB1x.out (by rw [HZ0.out]; omega) 1 rfl
        have g2 := own_hold O1.out HB1x.out (by rw [HZ0.out]; omega) 2 rfl
        have g3 := own_hold O1.out HB1x.out (by rw [HZ0.out]; omega) 3 rfl
        have g4 := own_hold O1.out HB1x.out (by rw [HZ0.out]; omega) 4 rfl
        go_wp2_with fail
        refine (Q2.out _ HB1x.out).mono ?_; rintro e w2 ⟨rfl, hb2⟩
        have HB2x := Lib.hid (HB1x.out.trans (hb2.mono HB1x.out.size))
        clear hb2
        clear g0 g1 g2 g3 g4
        have g0 := own_hold O1.out HB2x.out (by rw [HZ0.out]; omega) 0 rfl
        have g1 := own_hold O1.out HB2x.out (by rw [HZ0.out]; omega) 1 rfl
        have g2 := own_hold O1.out HB2x.out (by rw [HZ0.out]; omega) 2 rfl
        have g3 := own_hold O1.out HB2x.out (by rw [HZ0.out]; omega) 3 rfl
        have g4 := own_hold O1.out HB2x.out (by rw [HZ0.out]; omega) 4 rfl
        go_wp2_with fail
        go_ret
        exact ⟨rfl, (HB0.out.trans (HB2x.out.mono HB0.out.size))⟩
      | true =>
        cases t3 with
        | false =>
          go_enter Tryd.func9, Tryd.ntmps9
          go_wp2_with fail
          rw [HW.out]
          refine (Q0.out _ (Below.refl _ _)).mono ?_; rintro e w0 ⟨rfl, hb0⟩
          have HB0x := Lib.hid hb0
          clear hb0
          have g0 := own_hold O1.out HB0x.out (by rw [HZ0.out]; omega) 0 rfl
          have g1 := own_hold O1.out HB0x.out (by rw [HZ0.out]; omega) 1 rfl
          have g2 := own_hold O1.out HB0x.out (by rw [HZ0.out]; omega) 2 rfl
          have g3 := own_hold O1.out HB0x.out (by rw [HZ0.out]; omega) 3 rfl
          have g4 := own_hold O1.out HB0x.out (by rw [HZ0.out]; omega) 4 rfl
          go_wp2_with fail
          refine (Q1.out _ HB0x.out).mono ?_; rintro e w1 ⟨rfl, hb1⟩
          have HB1x := Lib.hid (HB0x.out.trans (hb1.mono HB0x.out.size))
          clear hb1
          clear g0 g1 g2 g3 g4
          have g0 := own_hold O1.out HB1x.out (by rw [HZ0.out]; omega) 0 rfl
          have g1 := own_hold O1.out HB1x.out (by rw [HZ0.out]; omega) 1 rfl
          have g2 := own_hold O1.out HB1x.out (by rw [HZ0.out]; omega) 2 rfl
          have g3 := own_hold O1.out HB1x.out (by rw [HZ0.out]; omega) 3 rfl
          have g4 := own_hold O1.out HB1x.out (by rw [HZ0.out]; omega) 4 rfl
          go_wp2_with fail
          refine (Q2.out _ HB1x.out).mono ?_; rintro e w2 ⟨rfl, hb2⟩
          have HB2x := Lib.hid (HB1x.out.trans (hb2.mono HB1x.out.size))
          clear hb2
          clear g0 g1 g2 g3 g4
          have g0 := own_hold O1.out HB2x.out (by rw [HZ0.out]; omega) 0 rfl
          have g1 := own_hold O1.out HB2x.out (by rw [HZ0.out]; omega) 1 rfl
          have g2 := own_hold O1.out HB2x.out (by rw [HZ0.out]; omega) 2 rfl
          have g3 := own_hold O1.out HB2x.out (by rw [HZ0.out]; omega) 3 rfl
          have g4 := own_hold O1.out HB2x.out (by rw [HZ0.out]; omega) 4 rfl
          go_wp2_with fail
          refine (Q3.out _ HB2x.out).mono ?_; rintro e w3 ⟨rfl, hb3⟩
          have HB3x := Lib.hid (HB2x.out.trans (hb3.mono HB2x.out.size))
          clear hb3
          clear g0 g1 g2 g3 g4
          have g0 := own_hold O1.out HB3x.out (by rw [HZ0.out]; omega) 0 rfl
          have g1 := own_hold O1.out HB3x.out (by rw [HZ0.out]; omega) 1 rfl
          have g2 := own_hold O1.out HB3x.out (by rw [HZ0.out]; omega) 2 rfl
          have g3 := own_hold O1.out HB3x.out (by rw [HZ0.out]; omega) 3 rfl
          have g4 := own_hold O1.out HB3x.out (by rw [HZ0.out]; omega) 4 rfl
          go_wp2_with fail
          go_ret
          exact ⟨rfl, (HB0.out.trans (HB3x.out.mono HB0.out.size))⟩
        | true =>
          go_enter Tryd.func9, Tryd.ntmps9
          go_wp2_with fail
          rw [HW.out]
          refine (Q0.out _ (Below.refl _ _)).mono ?_; rintro e w0 ⟨rfl, hb0⟩
          have HB0x := Lib.hid hb0
          clear hb0
          have g0 := own_hold O1.out HB0x.out (by rw [HZ0.out]; omega) 0 rfl
          have g1 := own_hold O1.out HB0x.out (by rw [HZ0.out]; omega) 1 rfl
          have g2 := own_hold O1.out HB0x.out (by rw [HZ0.out]; omega) 2 rfl
          have g3 := own_hold O1.out HB0x.out (by rw [HZ0.out]; omega) 3 rfl
          have g4 := own_hold O1.out HB0x.out (by rw [HZ0.out]; omega) 4 rfl
          go_wp2_with fail
          refine (Q1.out _ HB0x.out).mono ?_; rintro e w1 ⟨rfl, hb1⟩
          have HB1x := Lib.hid (HB0x.out.trans (hb1.mono HB0x.out.size))
          clear hb1
          clear g0 g1 g2 g3 g4
          have g0 := own_hold O1.out HB1x.out (by rw [HZ0.out]; omega) 0 rfl
          have g1 := own_hold O1.out HB1x.out (by rw [HZ0.out]; omega) 1 rfl
          have g2 := own_hold O1.out HB1x.out (by rw [HZ0.out]; omega) 2 rfl
          have g3 := own_hold O1.out HB1x.out (by rw [HZ0.out]; omega) 3 rfl
          have g4 := own_hold O1.out HB1x.out (by rw [HZ0.out]; omega) 4 rfl
          go_wp2_with fail
          refine (Q2.out _ HB1x.out).mono ?_; rintro e w2 ⟨rfl, hb2⟩
          have HB2x := Lib.hid (HB1x.out.trans (hb2.mono HB1x.out.size))
          clear hb2
          clear g0 g1 g2 g3 g4
          have g0 := own_hold O1.out HB2x.out (by rw [HZ0.out]; omega) 0 rfl
          have g1 := own_hold O1.out HB2x.out (by rw [HZ0.out]; omega) 1 rfl
          have g2 := own_hold O1.out HB2x.out (by rw [HZ0.out]; omega) 2 rfl
          have g3 := own_hold O1.out HB2x.out (by rw [HZ0.out]; omega) 3 rfl
          have g4 := own_hold O1.out HB2x.out (by rw [HZ0.out]; omega) 4 rfl
          go_wp2_with fail
          refine (Q3.out _ HB2x.out).mono ?_; rintro e w3 ⟨rfl, hb3⟩
          have HB3x := Lib.hid (HB2x.out.trans (hb3.mono HB2x.out.size))
          clear hb3
          clear g0 g1 g2 g3 g4
          have g0 := own_hold O1.out HB3x.out (by rw [HZ0.out]; omega) 0 rfl
          have g1 := own_hold O1.out HB3x.out (by rw [HZ0.out]; omega) 1 rfl
          have g2 := own_hold O1.out HB3x.out (by rw [HZ0.out]; omega) 2 rfl
          have g3 := own_hold O1.out HB3x.out (by rw [HZ0.out]; omega) 3 rfl
          have g4 := own_hold O1.out HB3x.out (by rw [HZ0.out]; omega) 4 rfl
          go_wp2_with fail
          go_ret
          exact ⟨rfl, (HB0.out.trans (HB3x.out.mono HB0.out.size))⟩
end Go.Proofs.YtdgmdpphimenjaaDoor.Sh6
