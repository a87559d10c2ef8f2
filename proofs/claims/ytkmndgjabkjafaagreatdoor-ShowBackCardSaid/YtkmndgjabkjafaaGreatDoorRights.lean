/-
  Package show: what is right of each part, walked.
-/
import Derived.Test.YtkmndgjabkjafaaGreatDoorAlls
import Derived.Lib.Walk
namespace Go.Proofs.YtkmndgjabkjafaaGreatDoor.Sh6
open Go.RowKit Api Syn WordM Mem Rd5

def Says (w : World) (b : Bool) (e : Ending) (w' : World) : Prop := e = .returned (.bool b) ∧ Below w.heap.size w w'
theorem boxed1 {w W : World} {t : TypeId} {c : List Value} (h : w.alloc (.cells c.toArray t) = W) : Own W w.heap.size t c ∧ Below w.heap.size w W ∧ W.heap.size = w.heap.size + 1 := by
  subst h
  exact ⟨Own.made w t c, (Below.refl _ _).alloc (Nat.le_refl _) _, by simp⟩
theorem own_hold {w w' : World} {g B : Nat} {t : TypeId} {cs : List Value} (o : Own w g t cs) (hb : Below B w w') (hg : g < B) (i : Nat) {u : Value} (h : cs[i]? = some u) : w'.cell? ⟨g, i, none⟩ = some u := ((o.below hb hg).cell i).trans h
theorem name_says (x : Wd) (b : Bool) (h : nameV x = b) (w : World) : Calls Tryz.prog 63 #[str x] w (Says w b) := (wname_at x b h w).mono fun _ _ h => ⟨h.1, h.2 ▸ Below.refl _ _⟩
theorem right_says (a : Arg) (b : Bool) (h : argR a = b) (w : World) : Calls Tryz.prog 167 #[.agg #[i64 a.kind, str a.s, i64 a.n]] w (Says w b) := by
  have := wright_any (ofA a) w
  unfold argR at h
  rw [h] at this
  exact this
theorem tell_name (w0 : World) (l : List Wd) : Tells 63 (fun _ cs x => cs = [str x]) (fun cs => cs.headD undef) nameV w0 l :=
  ⟨enters Tryz.func63 (by decide) rfl, fun w cs x _ _ h => by subst h; exact name_says x _ rfl w⟩
theorem tell_right (w0 : World) (l : List Arg) : Tells 167 (fun _ cs x => cs = argC x) (fun cs => .agg cs.toArray) argR w0 l :=
  ⟨enters Tryz.func167 (by decide) rfl, fun w cs x _ _ h => by subst h; exact right_says x _ rfl w⟩
set_option maxHeartbeats 4000000 in
theorem kind_says (x : Wd) (b : Bool) (h : kindV x = b) (w : World) : Calls Tryz.prog 64 #[str x] w (Says w b) := by
  obtain ⟨s, hs⟩ : ∃ s : ByteArray, s = ⟨x.toArray⟩ := ⟨_, rfl⟩
  have hsd : s.data.toList = x := by rw [hs]
  have e1 := eq_lit5 (c := [105, 110, 116]) hsd
  have e2 := eq_lit5 (c := [102, 108, 111, 97, 116]) hsd
  obtain ⟨t, ht⟩ : ∃ t, nameV x = t := ⟨_, rfl⟩
  have hk : b = ((s.toList == [105, 110, 116]) || (s.toList == [102, 108, 111, 97, 116]) || t) := by rw [e1, e2, ← ht, ← h]; rfl
  have Q := Lib.hid (name_says x t ht)
  rw [show (str x : Value) = .string s by rw [hs]] at Q ⊢
  clear hs hsd e1 e2 ht h
  rcases Bool.eq_false_or_eq_true (s.toList == [105, 110, 116]) with a | a <;> rcases Bool.eq_false_or_eq_true (s.toList == [102, 108, 111, 97, 116]) with c | c
  all_goals
    rw [a, c] at hk
    simp only [Bool.or_true, Bool.true_or, Bool.or_false, Bool.false_or] at hk
    subst hk
    go_enter Tryz.func64, Tryz.ntmps64
    go_wp2_with (go_at_call 63; (with_reducible refine (Q.out _).mono ?_); rintro e w1 ⟨rfl, hb⟩; have HB := Lib.hid hb; clear hb)
    go_ret
    first | exact ⟨rfl, Below.refl _ _⟩ | exact ⟨rfl, HB.out⟩
theorem str_empty {x : Wd} {s : ByteArray} (hs : s.data.toList = x) : s.toList.isEmpty = (x == []) := by
  rw [ByteArray.toList_eq, hs]; cases x <;> rfl
set_option maxHeartbeats 4000000 in
theorem none_says (x : Wd) (m b : Bool) (h : noneR x m = b) (w : World) : Calls Tryz.prog 154 #[str x, .bool m] w (Says w b) := by
  unfold noneR at h
  cases m with
  | true =>
    rw [if_pos rfl] at h
    have Q := Lib.hid (name_says x b h)
    clear h
    go_enter Tryz.func154, Tryz.ntmps154
    go_wp2_with (go_at_call 63; (with_reducible refine (Q.out _).mono ?_); rintro e w1 ⟨rfl, hb⟩; have HB := Lib.hid hb; clear hb)
    go_ret
    exact ⟨rfl, HB.out⟩
  | false =>
    rw [if_neg (by simp)] at h
    obtain ⟨s, hs⟩ : ∃ s : ByteArray, s = ⟨x.toArray⟩ := ⟨_, rfl⟩
    have e0 := str_empty (x := x) (s := s) (by rw [hs])
    rw [h] at e0
    rw [show (str x : Value) = .string s by rw [hs]]
    clear h hs
    cases b
    all_goals
      go_enter Tryz.func154, Tryz.ntmps154
      go_wp2
      go_ret
      exact ⟨rfl, Below.refl _ _⟩
set_option maxRecDepth 100000 in
set_option maxHeartbeats 8000000 in
theorem var_any (_ hi : Nat) (w : World) (cs : List Value) (x : Var) (hx : cs = varC x) (_ : hi ≤ w.heap.size) : Calls Tryz.prog 33 #[.agg cs.toArray] w (Says w (varR x)) := by
  obtain ⟨a, b⟩ := x
  subst hx
  obtain ⟨t0, h0⟩ : ∃ t, nameV a = t := ⟨_, rfl⟩
  obtain ⟨t1, h1⟩ : ∃ t, kindV b = t := ⟨_, rfl⟩
  have hr : varR ⟨a, b⟩ = (t0 && t1) := by
    unfold varR
    simp only
    rw [h0, h1]
  rw [hr]
  clear hr
  show Calls Tryz.prog 33 #[.agg #[str a, str b]] w _
  obtain ⟨W, hW⟩ : ∃ W, w.alloc (.cells #[str a, str b] 93) = W := ⟨_, rfl⟩
  obtain ⟨o1, hb0, hz0⟩ := boxed1 (c := [str a, str b]) hW
  have O1 := Lib.hid o1
  have HB0 := Lib.hid hb0
  have HZ0 := Lib.hid hz0
  have HW := Lib.hid hW
  have Q0 := Lib.hid fun (w' : World) (hb : Below W.heap.size W w') => (name_says a t0 h0 w')
  have Q1 := Lib.hid fun (w' : World) (hb : Below W.heap.size W w') => (kind_says b t1 h1 w')
  clear h0 h1 o1 hb0 hz0 hW
  cases t0 with
  | false =>
    go_enter Tryz.func33, Tryz.ntmps33
    go_wp2_with fail
    rw [HW.out]
    refine (Q0.out _ (Below.refl _ _)).mono ?_; rintro e w0 ⟨rfl, hb0⟩
    have HB0x := Lib.hid hb0
    clear hb0
    have g0 := own_hold O1.out HB0x.out (by rw [HZ0.out]; omega) 0 rfl
    have g1 := own_hold O1.out HB0x.out (by rw [HZ0.out]; omega) 1 rfl
    go_wp2_with fail
    go_ret
    exact ⟨rfl, (HB0.out.trans (HB0x.out.mono HB0.out.size))⟩
  | true =>
    cases t1 with
    | false =>
      go_enter Tryz.func33, Tryz.ntmps33
      go_wp2_with fail
      rw [HW.out]
      refine (Q0.out _ (Below.refl _ _)).mono ?_; rintro e w0 ⟨rfl, hb0⟩
      have HB0x := Lib.hid hb0
      clear hb0
      have g0 := own_hold O1.out HB0x.out (by rw [HZ0.out]; omega) 0 rfl
      have g1 := own_hold O1.out HB0x.out (by rw [HZ0.out]; omega) 1 rfl
      go_wp2_with fail
      refine (Q1.out _ HB0x.out).mono ?_; rintro e w1 ⟨rfl, hb1⟩
      have HB1x := Lib.hid (HB0x.out.trans (hb1.mono HB0x.out.size))
      clear hb1
      clear g0 g1
      have g0 := own_hold O1.out HB1x.out (by rw [HZ0.out]; omega) 0 rfl
      have g1 := own_hold O1.out HB1x.out (by rw [HZ0.out]; omega) 1 rfl
      go_wp2_with fail
      go_ret
      exact ⟨rfl, (HB0.out.trans (HB1x.out.mono HB0.out.size))⟩
    | true =>
      go_enter Tryz.func33, Tryz.ntmps33
      go_wp2_with fail
      rw [HW.out]
      refine (Q0.out _ (Below.refl _ _)).mono ?_; rintro e w0 ⟨rfl, hb0⟩
      have HB0x := Lib.hid hb0
      clear hb0
      have g0 := own_hold O1.out HB0x.out (by rw [HZ0.out]; omega) 0 rfl
      have g1 := own_hold O1.out HB0x.out (by rw [HZ0.out]; omega) 1 rfl
      go_wp2_with fail
      refine (Q1.out _ HB0x.out).mono ?_; rintro e w1 ⟨rfl, hb1⟩
      have HB1x := Lib.hid (HB0x.out.trans (hb1.mono HB0x.out.size))
      clear hb1
      clear g0 g1
      have g0 := own_hold O1.out HB1x.out (by rw [HZ0.out]; omega) 0 rfl
      have g1 := own_hold O1.out HB1x.out (by rw [HZ0.out]; omega) 1 rfl
      go_wp2_with fail
      go_ret
      exact ⟨rfl, (HB0.out.trans (HB1x.out.mono HB0.out.size))⟩
theorem tell_var {lo hi : Nat} {w0 : World} (l : List Var) (hh : hi ≤ w0.heap.size) : Tells 33 (fun _ cs x => cs = varC x) (fun cs => .agg cs.toArray) varR w0 l :=
  ⟨enters Tryz.func33 (by decide) rfl, fun w cs x hb _ h => var_any lo hi w cs x h (Nat.le_trans hh hb.size)⟩
set_option maxRecDepth 100000 in
set_option maxHeartbeats 8000000 in
theorem class_any (lo hi : Nat) (w : World) (cs : List Value) (x : Class) (hx : ClassC lo hi w cs x) (hh : hi ≤ w.heap.size) : Calls Tryz.prog 31 #[.agg cs.toArray] w (Says w (classR x)) := by
  obtain ⟨y1, rfl, k1⟩ := hx
  obtain ⟨a, l⟩ := x
  simp only at k1 ⊢
  obtain ⟨B1, c1, rfl⟩ := k1.form
  obtain ⟨t0, h0⟩ : ∃ t, nameV a = t := ⟨_, rfl⟩
  obtain ⟨t1, h1⟩ : ∃ t, allR 8 varR l = t := ⟨_, rfl⟩
  have hr : classR ⟨a, l⟩ = (t0 && t1) := by
    unfold classR
    simp only
    rw [h0, h1]
  rw [hr]
  clear hr
  show Calls Tryz.prog 31 #[.agg #[str a, .slice B1 l.length c1]] w _
  obtain ⟨W, hW⟩ : ∃ W, w.alloc (.cells #[str a, .slice B1 l.length c1] 78) = W := ⟨_, rfl⟩
  obtain ⟨o1, hb0, hz0⟩ := boxed1 (c := [str a, .slice B1 l.length c1]) hW
  have O1 := Lib.hid o1
  have HB0 := Lib.hid hb0
  have HZ0 := Lib.hid hz0
  have HW := Lib.hid hW
  have Q0 := Lib.hid fun (w' : World) (hb : Below W.heap.size W w') => (name_says a t0 h0 w')
  have Q1 := Lib.hid fun (w' : World) (hb : Below W.heap.size W w') => (show Calls Tryz.prog 32 #[.slice B1 l.length c1, .int .i64 8, fv 33] w' (Says w' t1) from by rw [← h1]; exact (allVar_any _ _ w' _ _ 8 _ _ (Vars.move (Still.of_below ((HB0.out.trans (hb.mono HB0.out.size)).mono hh)) k1) (Nat.le_trans hh (Nat.le_trans HB0.out.size hb.size)) (tell_var (lo := 0) _ (Nat.le_trans hh (Nat.le_trans HB0.out.size hb.size))) (by decide)))
  clear h0 h1 o1 hb0 hz0 hW k1
  cases t0 with
  | false =>
    go_enter Tryz.func31, Tryz.ntmps31
    go_wp2_with fail
    rw [HW.out]
    refine (Q0.out _ (Below.refl _ _)).mono ?_; rintro e w0 ⟨rfl, hb0⟩
    have HB0x := Lib.hid hb0
    clear hb0
    have g0 := own_hold O1.out HB0x.out (by rw [HZ0.out]; omega) 0 rfl
    have g1 := own_hold O1.out HB0x.out (by rw [HZ0.out]; omega) 1 rfl
    go_wp2_with fail
    go_ret
    exact ⟨rfl, (HB0.out.trans (HB0x.out.mono HB0.out.size))⟩
  | true =>
    cases t1 with
    | false =>
      go_enter Tryz.func31, Tryz.ntmps31
      go_wp2_with fail
      rw [HW.out]
      refine (Q0.out _ (Below.refl _ _)).mono ?_; rintro e w0 ⟨rfl, hb0⟩
      have HB0x := Lib.hid hb0
      clear hb0
      have g0 := own_hold O1.out HB0x.out (by rw [HZ0.out]; omega) 0 rfl
      have g1 := own_hold O1.out HB0x.out (by rw [HZ0.out]; omega) 1 rfl
      go_wp2_with fail
      refine (Q1.out _ HB0x.out).mono ?_; rintro e w1 ⟨rfl, hb1⟩
      have HB1x := Lib.hid (HB0x.out.trans (hb1.mono HB0x.out.size))
      clear hb1
      clear g0 g1
      have g0 := own_hold O1.out HB1x.out (by rw [HZ0.out]; omega) 0 rfl
      have g1 := own_hold O1.out HB1x.out (by rw [HZ0.out]; omega) 1 rfl
      go_wp2_with fail
      go_ret
      exact ⟨rfl, (HB0.out.trans (HB1x.out.mono HB0.out.size))⟩
    | true =>
      go_enter Tryz.func31, Tryz.ntmps31
      go_wp2_with fail
      rw [HW.out]
      refine (Q0.out _ (Below.refl _ _)).mono ?_; rintro e w0 ⟨rfl, hb0⟩
      have HB0x := Lib.hid hb0
      clear hb0
      have g0 := own_hold O1.out HB0x.out (by rw [HZ0.out]; omega) 0 rfl
      have g1 := own_hold O1.out HB0x.out (by rw [HZ0.out]; omega) 1 rfl
      go_wp2_with fail
      refine (Q1.out _ HB0x.out).mono ?_; rintro e w1 ⟨rfl, hb1⟩
      have HB1x := Lib.hid (HB0x.out.trans (hb1.mono HB0x.out.size))
      clear hb1
      clear g0 g1
      have g0 := own_hold O1.out HB1x.out (by rw [HZ0.out]; omega) 0 rfl
      have g1 := own_hold O1.out HB1x.out (by rw [HZ0.out]; omega) 1 rfl
      go_wp2_with fail
      go_ret
      exact ⟨rfl, (HB0.out.trans (HB1x.out.mono HB0.out.size))⟩
theorem tell_class {lo hi : Nat} {w0 : World} (l : List Class) (hh : hi ≤ w0.heap.size) : Tells 31 (fun w cs x => ClassC lo hi w cs x) (fun cs => .agg cs.toArray) classR w0 l :=
  ⟨enters Tryz.func31 (by decide) rfl, fun w cs x hb _ h => class_any lo hi w cs x h (Nat.le_trans hh hb.size)⟩
set_option maxRecDepth 100000 in
set_option maxHeartbeats 8000000 in
theorem extern_any (_ hi : Nat) (w : World) (cs : List Value) (x : Extern) (hx : cs = externC x) (_ : hi ≤ w.heap.size) : Calls Tryz.prog 35 #[.agg cs.toArray] w (Says w (externR x)) := by
  obtain ⟨a, n⟩ := x
  subst hx
  obtain ⟨t0, h0⟩ : ∃ t, nameV a = t := ⟨_, rfl⟩
  obtain ⟨t1, h1⟩ : ∃ t, decide (0 ≤ n) = t := ⟨_, rfl⟩
  obtain ⟨t2, h2⟩ : ∃ t, decide (n ≤ 8) = t := ⟨_, rfl⟩
  have hr : externR ⟨a, n⟩ = (t0 && (t1 && t2)) := by
    unfold externR
    simp only
    rw [h0, h1, h2]
  rw [hr]
  clear hr
  show Calls Tryz.prog 35 #[.agg #[str a, i64 n]] w _
  obtain ⟨W, hW⟩ : ∃ W, w.alloc (.cells #[str a, i64 n] 80) = W := ⟨_, rfl⟩
  obtain ⟨o1, hb0, hz0⟩ := boxed1 (c := [str a, i64 n]) hW
  have O1 := Lib.hid o1
  have HB0 := Lib.hid hb0
  have HZ0 := Lib.hid hz0
  have HW := Lib.hid hW
  have Q0 := Lib.hid fun (w' : World) (hb : Below W.heap.size W w') => (name_says a t0 h0 w')
  have e1 : decide (0 ≤ n) = t1 := h1
  have e2 : decide (n ≤ 8) = t2 := h2
  clear h0 h1 h2 o1 hb0 hz0 hW
  cases t0 with
  | false =>
    go_enter Tryz.func35, Tryz.ntmps35
    go_wp2_with fail
    rw [HW.out]
    refine (Q0.out _ (Below.refl _ _)).mono ?_; rintro e w0 ⟨rfl, hb0⟩
    have HB0x := Lib.hid hb0
    clear hb0
    have g0 := own_hold O1.out HB0x.out (by rw [HZ0.out]; omega) 0 rfl
    have g1 := own_hold O1.out HB0x.out (by rw [HZ0.out]; omega) 1 rfl
    go_wp2_with fail
    go_ret
    exact ⟨rfl, (HB0.out.trans (HB0x.out.mono HB0.out.size))⟩
  | true =>
    cases t1 with
    | false =>
      go_enter Tryz.func35, Tryz.ntmps35
      go_wp2_with fail
      rw [HW.out]
      refine (Q0.out _ (Below.refl _ _)).mono ?_; rintro e w0 ⟨rfl, hb0⟩
      have HB0x := Lib.hid hb0
      clear hb0
      have g0 := own_hold O1.out HB0x.out (by rw [HZ0.out]; omega) 0 rfl
      have g1 := own_hold O1.out HB0x.out (by rw [HZ0.out]; omega) 1 rfl
      go_wp2_with fail
      go_ret
      exact ⟨rfl, (HB0.out.trans (HB0x.out.mono HB0.out.size))⟩
    | true =>
      cases t2 with
      | false =>
        go_enter Tryz.func35, Tryz.ntmps35
        go_wp2_with fail
        rw [HW.out]
        refine (Q0.out _ (Below.refl _ _)).mono ?_; rintro e w0 ⟨rfl, hb0⟩
        have HB0x := Lib.hid hb0
        clear hb0
        have g0 := own_hold O1.out HB0x.out (by rw [HZ0.out]; omega) 0 rfl
        have g1 := own_hold O1.out HB0x.out (by rw [HZ0.out]; omega) 1 rfl
        go_wp2_with fail
        go_ret
        exact ⟨rfl, (HB0.out.trans (HB0x.out.mono HB0.out.size))⟩
      | true =>
        go_enter Tryz.func35, Tryz.ntmps35
        go_wp2_with fail
        rw [HW.out]
        refine (Q0.out _ (Below.refl _ _)).mono ?_; rintro e w0 ⟨rfl, hb0⟩
        have HB0x := Lib.hid hb0
        clear hb0
        have g0 := own_hold O1.out HB0x.out (by rw [HZ0.out]; omega) 0 rfl
        have g1 := own_hold O1.out HB0x.out (by rw [HZ0.out]; omega) 1 rfl
        go_wp2_with fail
        go_ret
        exact ⟨rfl, (HB0.out.trans (HB0x.out.mono HB0.out.size))⟩
theorem tell_extern {lo hi : Nat} {w0 : World} (l : List Extern) (hh : hi ≤ w0.heap.size) : Tells 35 (fun _ cs x => cs = externC x) (fun cs => .agg cs.toArray) externR w0 l :=
  ⟨enters Tryz.func35 (by decide) rfl, fun w cs x hb _ h => extern_any lo hi w cs x h (Nat.le_trans hh hb.size)⟩
set_option maxRecDepth 100000 in
set_option maxHeartbeats 8000000 in
theorem argX_any (_ hi : Nat) (w : World) (cs : List Value) (x : Arg) (hx : cs = argC x) (_ : hi ≤ w.heap.size) : Calls Tryz.prog 156 #[.agg cs.toArray] w (Says w (argX x)) := by
  obtain ⟨k, a, n⟩ := x
  subst hx
  obtain ⟨t0, h0⟩ : ∃ t, (k != 5) = t := ⟨_, rfl⟩
  obtain ⟨t1, h1⟩ : ∃ t, argR ⟨k, a, n⟩ = t := ⟨_, rfl⟩
  have hr : argX ⟨k, a, n⟩ = (t0 && t1) := by
    unfold argX
    simp only
    rw [h0]
    unfold argR at h1
    rw [h1]
  rw [hr]
  clear hr
  show Calls Tryz.prog 156 #[.agg #[i64 k, str a, i64 n]] w _
  obtain ⟨W, hW⟩ : ∃ W, w.alloc (.cells #[i64 k, str a, i64 n] 42) = W := ⟨_, rfl⟩
  obtain ⟨o1, hb0, hz0⟩ := boxed1 (c := [i64 k, str a, i64 n]) hW
  have O1 := Lib.hid o1
  have HB0 := Lib.hid hb0
  have HZ0 := Lib.hid hz0
  have HW := Lib.hid hW
  have e0 : (k != 5) = t0 := h0
  have Q1 := Lib.hid fun (w' : World) (hb : Below W.heap.size W w') => (right_says ⟨k, a, n⟩ t1 h1 w')
  clear h0 h1 o1 hb0 hz0 hW
  cases t0 with
  | false =>
    go_enter Tryz.func156, Tryz.ntmps156
    go_wp2_with fail
    rw [HW.out]
    go_ret
    exact ⟨rfl, HB0.out⟩
  | true =>
    cases t1 with
    | false =>
      go_enter Tryz.func156, Tryz.ntmps156
      go_wp2_with fail
      rw [HW.out]
      refine (Q1.out _ (Below.refl _ _)).mono ?_; rintro e w1 ⟨rfl, hb1⟩
      have HB1x := Lib.hid hb1
      clear hb1
      have g0 := own_hold O1.out HB1x.out (by rw [HZ0.out]; omega) 0 rfl
      have g1 := own_hold O1.out HB1x.out (by rw [HZ0.out]; omega) 1 rfl
      have g2 := own_hold O1.out HB1x.out (by rw [HZ0.out]; omega) 2 rfl
      go_wp2_with fail
      go_ret
      exact ⟨rfl, (HB0.out.trans (HB1x.out.mono HB0.out.size))⟩
    | true =>
      go_enter Tryz.func156, Tryz.ntmps156
      go_wp2_with fail
      rw [HW.out]
      refine (Q1.out _ (Below.refl _ _)).mono ?_; rintro e w1 ⟨rfl, hb1⟩
      have HB1x := Lib.hid hb1
      clear hb1
      have g0 := own_hold O1.out HB1x.out (by rw [HZ0.out]; omega) 0 rfl
      have g1 := own_hold O1.out HB1x.out (by rw [HZ0.out]; omega) 1 rfl
      have g2 := own_hold O1.out HB1x.out (by rw [HZ0.out]; omega) 2 rfl
      go_wp2_with fail
      go_ret
      exact ⟨rfl, (HB0.out.trans (HB1x.out.mono HB0.out.size))⟩
theorem tell_argX {lo hi : Nat} {w0 : World} (l : List Arg) (hh : hi ≤ w0.heap.size) : Tells 156 (fun _ cs x => cs = argC x) (fun cs => .agg cs.toArray) argX w0 l :=
  ⟨enters Tryz.func156 (by decide) rfl, fun w cs x hb _ h => argX_any lo hi w cs x h (Nat.le_trans hh hb.size)⟩
set_option maxRecDepth 100000 in
set_option maxHeartbeats 8000000 in
theorem in_any (_ hi : Nat) (w : World) (cs : List Value) (x : Bind) (hx : cs = bindC x) (_ : hi ≤ w.heap.size) : Calls Tryz.prog 152 #[.agg cs.toArray] w (Says w (inR x)) := by
  obtain ⟨b, k, a, n⟩ := x
  subst hx
  obtain ⟨t0, h0⟩ : ∃ t, nameV b = t := ⟨_, rfl⟩
  obtain ⟨t1, h1⟩ : ∃ t, argX ⟨k, a, n⟩ = t := ⟨_, rfl⟩
  have hr : inR ⟨b, k, a, n⟩ = (t0 && t1) := by
    unfold inR
    simp only
    rw [h0, h1]
  rw [hr]
  clear hr
  show Calls Tryz.prog 152 #[.agg #[str b, i64 k, str a, i64 n]] w _
  obtain ⟨W, hW⟩ : ∃ W, w.alloc (.cells #[str b, i64 k, str a, i64 n] 133) = W := ⟨_, rfl⟩
  obtain ⟨o1, hb0, hz0⟩ := boxed1 (c := [str b, i64 k, str a, i64 n]) hW
  have O1 := Lib.hid o1
  have HB0 := Lib.hid hb0
  have HZ0 := Lib.hid hz0
  have HW := Lib.hid hW
  have Q0 := Lib.hid fun (w' : World) (hb : Below W.heap.size W w') => (name_says b t0 h0 w')
  have Q1 := Lib.hid fun (w' : World) (hb : Below W.heap.size W w') => (show Calls Tryz.prog 156 #[.agg #[i64 k, str a, i64 n]] w' (Says w' t1) from by rw [← h1]; exact argX_any 0 0 w' _ ⟨k, a, n⟩ rfl (Nat.zero_le _))
  clear h0 h1 o1 hb0 hz0 hW
  cases t0 with
  | false =>
    go_enter Tryz.func152, Tryz.ntmps152
    go_wp2_with fail
    rw [HW.out]
    refine (Q0.out _ (Below.refl _ _)).mono ?_; rintro e w0 ⟨rfl, hb0⟩
    have HB0x := Lib.hid hb0
    clear hb0
    have g0 := own_hold O1.out HB0x.out (by rw [HZ0.out]; omega) 0 rfl
    have g1 := own_hold O1.out HB0x.out (by rw [HZ0.out]; omega) 1 rfl
    have g2 := own_hold O1.out HB0x.out (by rw [HZ0.out]; omega) 2 rfl
    have g3 := own_hold O1.out HB0x.out (by rw [HZ0.out]; omega) 3 rfl
    go_wp2_with fail
    go_ret
    exact ⟨rfl, (HB0.out.trans (HB0x.out.mono HB0.out.size))⟩
  | true =>
    cases t1 with
    | false =>
      go_enter Tryz.func152, Tryz.ntmps152
      go_wp2_with fail
      rw [HW.out]
      refine (Q0.out _ (Below.refl _ _)).mono ?_; rintro e w0 ⟨rfl, hb0⟩
      have HB0x := Lib.hid hb0
      clear hb0
      have g0 := own_hold O1.out HB0x.out (by rw [HZ0.out]; omega) 0 rfl
      have g1 := own_hold O1.out HB0x.out (by rw [HZ0.out]; omega) 1 rfl
      have g2 := own_hold O1.out HB0x.out (by rw [HZ0.out]; omega) 2 rfl
      have g3 := own_hold O1.out HB0x.out (by rw [HZ0.out]; omega) 3 rfl
      go_wp2_with fail
      refine (Q1.out _ HB0x.out).mono ?_; rintro e w1 ⟨rfl, hb1⟩
      have HB1x := Lib.hid (HB0x.out.trans (hb1.mono HB0x.out.size))
      clear hb1
      clear g0 g1 g2 g3
      have g0 := own_hold O1.out HB1x.out (by rw [HZ0.out]; omega) 0 rfl
      have g1 := own_hold O1.out HB1x.out (by rw [HZ0.out]; omega) 1 rfl
      have g2 := own_hold O1.out HB1x.out (by rw [HZ0.out]; omega) 2 rfl
      have g3 := own_hold O1.out HB1x.out (by rw [HZ0.out]; omega) 3 rfl
      go_wp2_with fail
      go_ret
      exact ⟨rfl, (HB0.out.trans (HB1x.out.mono HB0.out.size))⟩
    | true =>
      go_enter Tryz.func152, Tryz.ntmps152
      go_wp2_with fail
      rw [HW.out]
      refine (Q0.out _ (Below.refl _ _)).mono ?_; rintro e w0 ⟨rfl, hb0⟩
      have HB0x := Lib.hid hb0
      clear hb0
      have g0 := own_hold O1.out HB0x.out (by rw [HZ0.out]; omega) 0 rfl
      have g1 := own_hold O1.out HB0x.out (by rw [HZ0.out]; omega) 1 rfl
      have g2 := own_hold O1.out HB0x.out (by rw [HZ0.out]; omega) 2 rfl
      have g3 := own_hold O1.out HB0x.out (by rw [HZ0.out]; omega) 3 rfl
      go_wp2_with fail
      refine (Q1.out _ HB0x.out).mono ?_; rintro e w1 ⟨rfl, hb1⟩
      have HB1x := Lib.hid (HB0x.out.trans (hb1.mono HB0x.out.size))
      clear hb1
      clear g0 g1 g2 g3
      have g0 := own_hold O1.out HB1x.out (by rw [HZ0.out]; omega) 0 rfl
      have g1 := own_hold O1.out HB1x.out (by rw [HZ0.out]; omega) 1 rfl
      have g2 := own_hold O1.out HB1x.out (by rw [HZ0.out]; omega) 2 rfl
      have g3 := own_hold O1.out HB1x.out (by rw [HZ0.out]; omega) 3 rfl
      go_wp2_with fail
      go_ret
      exact ⟨rfl, (HB0.out.trans (HB1x.out.mono HB0.out.size))⟩
theorem tell_in {lo hi : Nat} {w0 : World} (l : List Bind) (hh : hi ≤ w0.heap.size) : Tells 152 (fun _ cs x => cs = bindC x) (fun cs => .agg cs.toArray) inR w0 l :=
  ⟨enters Tryz.func152 (by decide) rfl, fun w cs x hb _ h => in_any lo hi w cs x h (Nat.le_trans hh hb.size)⟩
set_option maxRecDepth 100000 in
set_option maxHeartbeats 8000000 in
theorem bind_any (_ hi : Nat) (w : World) (cs : List Value) (x : Bind) (hx : cs = bindC x) (_ : hi ≤ w.heap.size) : Calls Tryz.prog 184 #[.agg cs.toArray] w (Says w (bindR x)) := by
  obtain ⟨b, k, a, n⟩ := x
  subst hx
  obtain ⟨t0, h0⟩ : ∃ t, nameV b = t := ⟨_, rfl⟩
  obtain ⟨t1, h1⟩ : ∃ t, argR ⟨k, a, n⟩ = t := ⟨_, rfl⟩
  have hr : bindR ⟨b, k, a, n⟩ = (t0 && t1) := by
    unfold bindR
    simp only
    rw [h0, h1]
  rw [hr]
  clear hr
  show Calls Tryz.prog 184 #[.agg #[str b, i64 k, str a, i64 n]] w _
  obtain ⟨W, hW⟩ : ∃ W, w.alloc (.cells #[str b, i64 k, str a, i64 n] 163) = W := ⟨_, rfl⟩
  obtain ⟨o1, hb0, hz0⟩ := boxed1 (c := [str b, i64 k, str a, i64 n]) hW
  have O1 := Lib.hid o1
  have HB0 := Lib.hid hb0
  have HZ0 := Lib.hid hz0
  have HW := Lib.hid hW
  have Q0 := Lib.hid fun (w' : World) (hb : Below W.heap.size W w') => (name_says b t0 h0 w')
  have Q1 := Lib.hid fun (w' : World) (hb : Below W.heap.size W w') => (right_says ⟨k, a, n⟩ t1 h1 w')
  clear h0 h1 o1 hb0 hz0 hW
  cases t0 with
  | false =>
    go_enter Tryz.func184, Tryz.ntmps184
    go_wp2_with fail
    rw [HW.out]
    refine (Q0.out _ (Below.refl _ _)).mono ?_; rintro e w0 ⟨rfl, hb0⟩
    have HB0x := Lib.hid hb0
    clear hb0
    have g0 := own_hold O1.out HB0x.out (by rw [HZ0.out]; omega) 0 rfl
    have g1 := own_hold O1.out HB0x.out (by rw [HZ0.out]; omega) 1 rfl
    have g2 := own_hold O1.out HB0x.out (by rw [HZ0.out]; omega) 2 rfl
    have g3 := own_hold O1.out HB0x.out (by rw [HZ0.out]; omega) 3 rfl
    go_wp2_with fail
    go_ret
    exact ⟨rfl, (HB0.out.trans (HB0x.out.mono HB0.out.size))⟩
  | true =>
    cases t1 with
    | false =>
      go_enter Tryz.func184, Tryz.ntmps184
      go_wp2_with fail
      rw [HW.out]
      refine (Q0.out _ (Below.refl _ _)).mono ?_; rintro e w0 ⟨rfl, hb0⟩
      have HB0x := Lib.hid hb0
      clear hb0
      have g0 := own_hold O1.out HB0x.out (by rw [HZ0.out]; omega) 0 rfl
      have g1 := own_hold O1.out HB0x.out (by rw [HZ0.out]; omega) 1 rfl
      have g2 := own_hold O1.out HB0x.out (by rw [HZ0.out]; omega) 2 rfl
      have g3 := own_hold O1.out HB0x.out (by rw [HZ0.out]; omega) 3 rfl
      go_wp2_with fail
      refine (Q1.out _ HB0x.out).mono ?_; rintro e w1 ⟨rfl, hb1⟩
      have HB1x := Lib.hid (HB0x.out.trans (hb1.mono HB0x.out.size))
      clear hb1
      clear g0 g1 g2 g3
      have g0 := own_hold O1.out HB1x.out (by rw [HZ0.out]; omega) 0 rfl
      have g1 := own_hold O1.out HB1x.out (by rw [HZ0.out]; omega) 1 rfl
      have g2 := own_hold O1.out HB1x.out (by rw [HZ0.out]; omega) 2 rfl
      have g3 := own_hold O1.out HB1x.out (by rw [HZ0.out]; omega) 3 rfl
      go_wp2_with fail
      go_ret
      exact ⟨rfl, (HB0.out.trans (HB1x.out.mono HB0.out.size))⟩
    | true =>
      go_enter Tryz.func184, Tryz.ntmps184
      go_wp2_with fail
      rw [HW.out]
      refine (Q0.out _ (Below.refl _ _)).mono ?_; rintro e w0 ⟨rfl, hb0⟩
      have HB0x := Lib.hid hb0
      clear hb0
      have g0 := own_hold O1.out HB0x.out (by rw [HZ0.out]; omega) 0 rfl
      have g1 := own_hold O1.out HB0x.out (by rw [HZ0.out]; omega) 1 rfl
      have g2 := own_hold O1.out HB0x.out (by rw [HZ0.out]; omega) 2 rfl
      have g3 := own_hold O1.out HB0x.out (by rw [HZ0.out]; omega) 3 rfl
      go_wp2_with fail
      refine (Q1.out _ HB0x.out).mono ?_; rintro e w1 ⟨rfl, hb1⟩
      have HB1x := Lib.hid (HB0x.out.trans (hb1.mono HB0x.out.size))
      clear hb1
      clear g0 g1 g2 g3
      have g0 := own_hold O1.out HB1x.out (by rw [HZ0.out]; omega) 0 rfl
      have g1 := own_hold O1.out HB1x.out (by rw [HZ0.out]; omega) 1 rfl
      have g2 := own_hold O1.out HB1x.out (by rw [HZ0.out]; omega) 2 rfl
      have g3 := own_hold O1.out HB1x.out (by rw [HZ0.out]; omega) 3 rfl
      go_wp2_with fail
      go_ret
      exact ⟨rfl, (HB0.out.trans (HB1x.out.mono HB0.out.size))⟩
theorem tell_bind {lo hi : Nat} {w0 : World} (l : List Bind) (hh : hi ≤ w0.heap.size) : Tells 184 (fun _ cs x => cs = bindC x) (fun cs => .agg cs.toArray) bindR w0 l :=
  ⟨enters Tryz.func184 (by decide) rfl, fun w cs x hb _ h => bind_any lo hi w cs x h (Nat.le_trans hh hb.size)⟩
set_option maxRecDepth 100000 in
set_option maxHeartbeats 8000000 in
theorem phi_any (lo hi : Nat) (w : World) (cs : List Value) (x : Phi) (hx : PhiC lo hi w cs x) (hh : hi ≤ w.heap.size) : Calls Tryz.prog 116 #[.agg cs.toArray] w (Says w (phiR x)) := by
  obtain ⟨y1, rfl, k1⟩ := hx
  obtain ⟨a, l⟩ := x
  simp only at k1 ⊢
  obtain ⟨B1, c1, rfl⟩ := k1.form
  obtain ⟨t0, h0⟩ : ∃ t, nameV a = t := ⟨_, rfl⟩
  obtain ⟨t1, h1⟩ : ∃ t, decide (0 < l.length) = t := ⟨_, rfl⟩
  obtain ⟨t2, h2⟩ : ∃ t, allR 256 inR l = t := ⟨_, rfl⟩
  have hr : phiR ⟨a, l⟩ = (t0 && (t1 && t2)) := by
    unfold phiR
    simp only
    rw [h0, h1, h2]
  rw [hr]
  clear hr
  show Calls Tryz.prog 116 #[.agg #[str a, .slice B1 l.length c1]] w _
  obtain ⟨W, hW⟩ : ∃ W, w.alloc (.cells #[str a, .slice B1 l.length c1] 131) = W := ⟨_, rfl⟩
  obtain ⟨o1, hb0, hz0⟩ := boxed1 (c := [str a, .slice B1 l.length c1]) hW
  have O1 := Lib.hid o1
  have HB0 := Lib.hid hb0
  have HZ0 := Lib.hid hz0
  have HW := Lib.hid hW
  have Q0 := Lib.hid fun (w' : World) (hb : Below W.heap.size W w') => (name_says a t0 h0 w')
  have e1 : decide (0 < l.length) = t1 := h1
  have Q2 := Lib.hid fun (w' : World) (hb : Below W.heap.size W w') => (show Calls Tryz.prog 151 #[.slice B1 l.length c1, .int .i64 256, fv 152] w' (Says w' t2) from by rw [← h2]; exact (allIn_any _ _ w' _ _ 256 _ _ (Binds.move (Still.of_below ((HB0.out.trans (hb.mono HB0.out.size)).mono hh)) k1) (Nat.le_trans hh (Nat.le_trans HB0.out.size hb.size)) (tell_in (lo := 0) _ (Nat.le_trans hh (Nat.le_trans HB0.out.size hb.size))) (by decide)))
  clear h0 h1 h2 o1 hb0 hz0 hW k1
  cases t0 with
  | false =>
    go_enter Tryz.func116, Tryz.ntmps116
    go_wp2_with fail
    rw [HW.out]
    refine (Q0.out _ (Below.refl _ _)).mono ?_; rintro e w0 ⟨rfl, hb0⟩
    have HB0x := Lib.hid hb0
    clear hb0
    have g0 := own_hold O1.out HB0x.out (by rw [HZ0.out]; omega) 0 rfl
    have g1 := own_hold O1.out HB0x.out (by rw [HZ0.out]; omega) 1 rfl
    go_wp2_with fail
    go_ret
    exact ⟨rfl, (HB0.out.trans (HB0x.out.mono HB0.out.size))⟩
  | true =>
    cases t1 with
    | false =>
      go_enter Tryz.func116, Tryz.ntmps116
      go_wp2_with fail
      rw [HW.out]
      refine (Q0.out _ (Below.refl _ _)).mono ?_; rintro e w0 ⟨rfl, hb0⟩
      have HB0x := Lib.hid hb0
      clear hb0
      have g0 := own_hold O1.out HB0x.out (by rw [HZ0.out]; omega) 0 rfl
      have g1 := own_hold O1.out HB0x.out (by rw [HZ0.out]; omega) 1 rfl
      go_wp2_with fail
      go_ret
      exact ⟨rfl, (HB0.out.trans (HB0x.out.mono HB0.out.size))⟩
    | true =>
      cases t2 with
      | false =>
        go_enter Tryz.func116, Tryz.ntmps116
        go_wp2_with fail
        rw [HW.out]
        refine (Q0.out _ (Below.refl _ _)).mono ?_; rintro e w0 ⟨rfl, hb0⟩
        have HB0x := Lib.hid hb0
        clear hb0
        have g0 := own_hold O1.out HB0x.out (by rw [HZ0.out]; omega) 0 rfl
        have g1 := own_hold O1.out HB0x.out (by rw [HZ0.out]; omega) 1 rfl
        go_wp2_with fail
        refine (Q2.out _ HB0x.out).mono ?_; rintro e w2 ⟨rfl, hb2⟩
        have HB2x := Lib.hid (HB0x.out.trans (hb2.mono HB0x.out.size))
        clear hb2
        clear g0 g1
        have g0 := own_hold O1.out HB2x.out (by rw [HZ0.out]; omega) 0 rfl
        have g1 := own_hold O1.out HB2x.out (by rw [HZ0.out]; omega) 1 rfl
        go_wp2_with fail
        go_ret
        exact ⟨rfl, (HB0.out.trans (HB2x.out.mono HB0.out.size))⟩
      | true =>
        go_enter Tryz.func116, Tryz.ntmps116
        go_wp2_with fail
        rw [HW.out]
        refine (Q0.out _ (Below.refl _ _)).mono ?_; rintro e w0 ⟨rfl, hb0⟩
        have HB0x := Lib.hid hb0
        clear hb0
        have g0 := own_hold O1.out HB0x.out (by rw [HZ0.out]; omega) 0 rfl
        have g1 := own_hold O1.out HB0x.out (by rw [HZ0.out]; omega) 1 rfl
        go_wp2_with fail
        refine (Q2.out _ HB0x.out).mono ?_; rintro e w2 ⟨rfl, hb2⟩
        have HB2x := Lib.hid (HB0x.out.trans (hb2.mono HB0x.out.size))
        clear hb2
        clear g0 g1
        have g0 := own_hold O1.out HB2x.out (by rw [HZ0.out]; omega) 0 rfl
        have g1 := own_hold O1.out HB2x.out (by rw [HZ0.out]; omega) 1 rfl
        go_wp2_with fail
        go_ret
        exact ⟨rfl, (HB0.out.trans (HB2x.out.mono HB0.out.size))⟩
theorem tell_phi {lo hi : Nat} {w0 : World} (l : List Phi) (hh : hi ≤ w0.heap.size) : Tells 116 (fun w cs x => PhiC lo hi w cs x) (fun cs => .agg cs.toArray) phiR w0 l :=
  ⟨enters Tryz.func116 (by decide) rfl, fun w cs x hb _ h => phi_any lo hi w cs x h (Nat.le_trans hh hb.size)⟩
set_option maxRecDepth 100000 in
set_option maxHeartbeats 8000000 in
theorem frame_any (lo hi : Nat) (w : World) (cs : List Value) (x : Api.Frame) (hx : FrameC lo hi w cs x) (hh : hi ≤ w.heap.size) : Calls Tryz.prog 176 #[.agg cs.toArray] w (Says w (frameR x)) := by
  obtain ⟨y1, rfl, k1⟩ := hx
  obtain ⟨a, b, n, l⟩ := x
  simp only at k1 ⊢
  obtain ⟨B1, c1, rfl⟩ := k1.form
  obtain ⟨t0, h0⟩ : ∃ t, nameV a = t := ⟨_, rfl⟩
  obtain ⟨t1, h1⟩ : ∃ t, nameV b = t := ⟨_, rfl⟩
  obtain ⟨t2, h2⟩ : ∃ t, decide (0 ≤ n) = t := ⟨_, rfl⟩
  obtain ⟨t3, h3⟩ : ∃ t, decide (n ≤ 1024) = t := ⟨_, rfl⟩
  obtain ⟨t4, h4⟩ : ∃ t, allR 16 bindR l = t := ⟨_, rfl⟩
  have hr : frameR ⟨a, b, n, l⟩ = (t0 && (t1 && (t2 && (t3 && t4)))) := by
    unfold frameR
    simp only
    rw [h0, h1, h2, h3, h4]; rw [Bool.and_assoc]
  rw [hr]
  clear hr
  show Calls Tryz.prog 176 #[.agg #[str a, str b, i64 n, .slice B1 l.length c1]] w _
  obtain ⟨W, hW⟩ : ∃ W, w.alloc (.cells #[str a, str b, i64 n, .slice B1 l.length c1] 167) = W := ⟨_, rfl⟩
  obtain ⟨o1, hb0, hz0⟩ := boxed1 (c := [str a, str b, i64 n, .slice B1 l.length c1]) hW
  have O1 := Lib.hid o1
  have HB0 := Lib.hid hb0
  have HZ0 := Lib.hid hz0
  have HW := Lib.hid hW
  have Q0 := Lib.hid fun (w' : World) (hb : Below W.heap.size W w') => (name_says a t0 h0 w')
  have Q1 := Lib.hid fun (w' : World) (hb : Below W.heap.size W w') => (name_says b t1 h1 w')
  have e2 : decide (0 ≤ n) = t2 := h2
  have e3 : decide (n ≤ 1024) = t3 := h3
  have Q4 := Lib.hid fun (w' : World) (hb : Below W.heap.size W w') => (show Calls Tryz.prog 183 #[.slice B1 l.length c1, .int .i64 16, fv 184] w' (Says w' t4) from by rw [← h4]; exact (allBind_any _ _ w' _ _ 16 _ _ (Binds.move (Still.of_below ((HB0.out.trans (hb.mono HB0.out.size)).mono hh)) k1) (Nat.le_trans hh (Nat.le_trans HB0.out.size hb.size)) (tell_bind (lo := 0) _ (Nat.le_trans hh (Nat.le_trans HB0.out.size hb.size))) (by decide)))
  clear h0 h1 h2 h3 h4 o1 hb0 hz0 hW k1
  cases t0 with
  | false =>
    go_enter Tryz.func176, Tryz.ntmps176
    go_wp2_with fail
    rw [HW.out]
    refine (Q0.out _ (Below.refl _ _)).mono ?_; rintro e w0 ⟨rfl, hb0⟩
    have HB0x := Lib.hid hb0
    clear hb0
    have g0 := own_hold O1.out HB0x.out (by rw [HZ0.out]; omega) 0 rfl
    have g1 := own_hold O1.out HB0x.out (by rw [HZ0.out]; omega) 1 rfl
    have g2 := own_hold O1.out HB0x.out (by rw [HZ0.out]; omega) 2 rfl
    have g3 := own_hold O1.out HB0x.out (by rw [HZ0.out]; omega) 3 rfl
    go_wp2_with fail
    go_ret
    exact ⟨rfl, (HB0.out.trans (HB0x.out.mono HB0.out.size))⟩
  | true =>
    cases t1 with
    | false =>
      go_enter Tryz.func176, Tryz.ntmps176
      go_wp2_with fail
      rw [HW.out]
      refine (Q0.out _ (Below.refl _ _)).mono ?_; rintro e w0 ⟨rfl, hb0⟩
      have HB0x := Lib.hid hb0
      clear hb0
      have g0 := own_hold O1.out HB0x.out (by rw [HZ0.out]; omega) 0 rfl
      have g1 := own_hold O1.out HB0x.out (by rw [HZ0.out]; omega) 1 rfl
      have g2 := own_hold O1.out HB0x.out (by rw [HZ0.out]; omega) 2 rfl
      have g3 := own_hold O1.out HB0x.out (by rw [HZ0.out]; omega) 3 rfl
      go_wp2_with fail
      refine (Q1.out _ HB0x.out).mono ?_; rintro e w1 ⟨rfl, hb1⟩
      have HB1x := Lib.hid (HB0x.out.trans (hb1.mono HB0x.out.size))
      clear hb1
      clear g0 g1 g2 g3
      have g0 := own_hold O1.out HB1x.out (by rw [HZ0.out]; omega) 0 rfl
      have g1 := own_hold O1.out HB1x.out (by rw [HZ0.out]; omega) 1 rfl
      have g2 := own_hold O1.out HB1x.out (by rw [HZ0.out]; omega) 2 rfl
      have g3 := own_hold O1.out HB1x.out (by rw [HZ0.out]; omega) 3 rfl
      go_wp2_with fail
      go_ret
      exact ⟨rfl, (HB0.out.trans (HB1x.out.mono HB0.out.size))⟩
    | true =>
      cases t2 with
      | false =>
        go_enter Tryz.func176, Tryz.ntmps176
        go_wp2_with fail
        rw [HW.out]
        refine (Q0.out _ (Below.refl _ _)).mono ?_; rintro e w0 ⟨rfl, hb0⟩
        have HB0x := Lib.hid hb0
        clear hb0
        have g0 := own_hold O1.out HB0x.out (by rw [HZ0.out]; omega) 0 rfl
        have g1 := own_hold O1.out HB0x.out (by rw [HZ0.out]; omega) 1 rfl
        have g2 := own_hold O1.out HB0x.out (by rw [HZ0.out]; omega) 2 rfl
        have g3 := own_hold O1.out HB0x.out (by rw [HZ0.out]; omega) 3 rfl
        go_wp2_with fail
        refine (Q1.out _ HB0x.out).mono ?_; rintro e w1 ⟨rfl, hb1⟩
        have HB1x := Lib.hid (HB0x.out.trans (hb1.mono HB0x.out.size))
        clear hb1
        clear g0 g1 g2 g3
        have g0 := own_hold O1.out HB1x.out (by rw [HZ0.out]; omega) 0 rfl
        have g1 := own_hold O1.out HB1x.out (by rw [HZ0.out]; omega) 1 rfl
        have g2 := own_hold O1.out HB1x.out (by rw [HZ0.out]; omega) 2 rfl
        have g3 := own_hold O1.out HB1x.out (by rw [HZ0.out]; omega) 3 rfl
        go_wp2_with fail
        go_ret
        exact ⟨rfl, (HB0.out.trans (HB1x.out.mono HB0.out.size))⟩
      | true =>
        cases t3 with
        | false =>
          go_enter Tryz.func176, Tryz.ntmps176
          go_wp2_with fail
          rw [HW.out]
          refine (Q0.out _ (Below.refl _ _)).mono ?_; rintro e w0 ⟨rfl, hb0⟩
          have HB0x := Lib.hid hb0
          clear hb0
          have g0 := own_hold O1.out HB0x.out (by rw [HZ0.out]; omega) 0 rfl
          have g1 := own_hold O1.out HB0x.out (by rw [HZ0.out]; omega) 1 rfl
          have g2 := own_hold O1.out HB0x.out (by rw [HZ0.out]; omega) 2 rfl
          have g3 := own_hold O1.out HB0x.out (by rw [HZ0.out]; omega) 3 rfl
          go_wp2_with fail
          refine (Q1.out _ HB0x.out).mono ?_; rintro e w1 ⟨rfl, hb1⟩
          have HB1x := Lib.hid (HB0x.out.trans (hb1.mono HB0x.out.size))
          clear hb1
          clear g0 g1 g2 g3
          have g0 := own_hold O1.out HB1x.out (by rw [HZ0.out]; omega) 0 rfl
          have g1 := own_hold O1.out HB1x.out (by rw [HZ0.out]; omega) 1 rfl
          have g2 := own_hold O1.out HB1x.out (by rw [HZ0.out]; omega) 2 rfl
          have g3 := own_hold O1.out HB1x.out (by rw [HZ0.out]; omega) 3 rfl
          go_wp2_with fail
          go_ret
          exact ⟨rfl, (HB0.out.trans (HB1x.out.mono HB0.out.size))⟩
        | true =>
          cases t4 with
          | false =>
            go_enter Tryz.func176, Tryz.ntmps176
            go_wp2_with fail
            rw [HW.out]
            refine (Q0.out _ (Below.refl _ _)).mono ?_; rintro e w0 ⟨rfl, hb0⟩
            have HB0x := Lib.hid hb0
            clear hb0
            have g0 := own_hold O1.out HB0x.out (by rw [HZ0.out]; omega) 0 rfl
            have g1 := own_hold O1.out HB0x.out (by rw [HZ0.out]; omega) 1 rfl
            have g2 := own_hold O1.out HB0x.out (by rw [HZ0.out]; omega) 2 rfl
            have g3 := own_hold O1.out HB0x.out (by rw [HZ0.out]; omega) 3 rfl
            go_wp2_with fail
            refine (Q1.out _ HB0x.out).mono ?_; rintro e w1 ⟨rfl, hb1⟩
            have HB1x := Lib.hid (HB0x.out.trans (hb1.mono HB0x.out.size))
            clear hb1
            clear g0 g1 g2 g3
            have g0 := own_hold O1.out HB1x.out (by rw [HZ0.out]; omega) 0 rfl
            have g1 := own_hold O1.out HB1x.out (by rw [HZ0.out]; omega) 1 rfl
            have g2 := own_hold O1.out HB1x.out (by rw [HZ0.out]; omega) 2 rfl
            have g3 := own_hold O1.out HB1x.out (by rw [HZ0.out]; omega) 3 rfl
            go_wp2_with fail
            refine (Q4.out _ HB1x.out).mono ?_; rintro e w4 ⟨rfl, hb4⟩
            have HB4x := Lib.hid (HB1x.out.trans (hb4.mono HB1x.out.size))
            clear hb4
            clear g0 g1 g2 g3
            have g0 := own_hold O1.out HB4x.out (by rw [HZ0.out]; omega) 0 rfl
            have g1 := own_hold O1.out HB4x.out (by rw [HZ0.out]; omega) 1 rfl
            have g2 := own_hold O1.out HB4x.out (by rw [HZ0.out]; omega) 2 rfl
            have g3 := own_hold O1.out HB4x.out (by rw [HZ0.out]; omega) 3 rfl
            go_wp2_with fail
            go_ret
            exact ⟨rfl, (HB0.out.trans (HB4x.out.mono HB0.out.size))⟩
          | true =>
            go_enter Tryz.func176, Tryz.ntmps176
            go_wp2_with fail
            rw [HW.out]
            refine (Q0.out _ (Below.refl _ _)).mono ?_; rintro e w0 ⟨rfl, hb0⟩
            have HB0x := Lib.hid hb0
            clear hb0
            have g0 := own_hold O1.out HB0x.out (by rw [HZ0.out]; omega) 0 rfl
            have g1 := own_hold O1.out HB0x.out (by rw [HZ0.out]; omega) 1 rfl
            have g2 := own_hold O1.out HB0x.out (by rw [HZ0.out]; omega) 2 rfl
            have g3 := own_hold O1.out HB0x.out (by rw [HZ0.out]; omega) 3 rfl
            go_wp2_with fail
            refine (Q1.out _ HB0x.out).mono ?_; rintro e w1 ⟨rfl, hb1⟩
            have HB1x := Lib.hid (HB0x.out.trans (hb1.mono HB0x.out.size))
            clear hb1
            clear g0 g1 g2 g3
            have g0 := own_hold O1.out HB1x.out (by rw [HZ0.out]; omega) 0 rfl
            have g1 := own_hold O1.out HB1x.out (by rw [HZ0.out]; omega) 1 rfl
            have g2 := own_hold O1.out HB1x.out (by rw [HZ0.out]; omega) 2 rfl
            have g3 := own_hold O1.out HB1x.out (by rw [HZ0.out]; omega) 3 rfl
            go_wp2_with fail
            refine (Q4.out _ HB1x.out).mono ?_; rintro e w4 ⟨rfl, hb4⟩
            have HB4x := Lib.hid (HB1x.out.trans (hb4.mono HB1x.out.size))
            clear hb4
            clear g0 g1 g2 g3
            have g0 := own_hold O1.out HB4x.out (by rw [HZ0.out]; omega) 0 rfl
            have g1 := own_hold O1.out HB4x.out (by rw [HZ0.out]; omega) 1 rfl
            have g2 := own_hold O1.out HB4x.out (by rw [HZ0.out]; omega) 2 rfl
            have g3 := own_hold O1.out HB4x.out (by rw [HZ0.out]; omega) 3 rfl
            go_wp2_with fail
            go_ret
            exact ⟨rfl, (HB0.out.trans (HB4x.out.mono HB0.out.size))⟩
theorem tell_frame {lo hi : Nat} {w0 : World} (l : List Api.Frame) (hh : hi ≤ w0.heap.size) : Tells 176 (fun w cs x => FrameC lo hi w cs x) (fun cs => .agg cs.toArray) frameR w0 l :=
  ⟨enters Tryz.func176 (by decide) rfl, fun w cs x hb _ h => frame_any lo hi w cs x h (Nat.le_trans hh hb.size)⟩
set_option maxRecDepth 100000 in
set_option maxHeartbeats 8000000 in
theorem virt_any (lo hi : Nat) (w : World) (cs : List Value) (x : Virt) (hx : VirtC lo hi w cs x) (hh : hi ≤ w.heap.size) : Calls Tryz.prog 178 #[.agg cs.toArray] w (Says w (virtR x)) := by
  obtain ⟨y1, rfl, k1⟩ := hx
  obtain ⟨a, l⟩ := x
  simp only at k1 ⊢
  obtain ⟨B1, c1, rfl⟩ := k1.form
  obtain ⟨t0, h0⟩ : ∃ t, nameV a = t := ⟨_, rfl⟩
  obtain ⟨t1, h1⟩ : ∃ t, allR 8 argR l = t := ⟨_, rfl⟩
  have hr : virtR ⟨a, l⟩ = (t0 && t1) := by
    unfold virtR
    simp only
    rw [h0, h1]
  rw [hr]
  clear hr
  show Calls Tryz.prog 178 #[.agg #[str a, .slice B1 l.length c1]] w _
  obtain ⟨W, hW⟩ : ∃ W, w.alloc (.cells #[str a, .slice B1 l.length c1] 169) = W := ⟨_, rfl⟩
  obtain ⟨o1, hb0, hz0⟩ := boxed1 (c := [str a, .slice B1 l.length c1]) hW
  have O1 := Lib.hid o1
  have HB0 := Lib.hid hb0
  have HZ0 := Lib.hid hz0
  have HW := Lib.hid hW
  have Q0 := Lib.hid fun (w' : World) (hb : Below W.heap.size W w') => (name_says a t0 h0 w')
  have Q1 := Lib.hid fun (w' : World) (hb : Below W.heap.size W w') => (show Calls Tryz.prog 155 #[.slice B1 l.length c1, .int .i64 8, fv 167] w' (Says w' t1) from by rw [← h1]; exact (allArg_any _ _ w' _ _ 8 _ _ (Args.move (Still.of_below ((HB0.out.trans (hb.mono HB0.out.size)).mono hh)) k1) (Nat.le_trans hh (Nat.le_trans HB0.out.size hb.size)) (tell_right _ _) (by decide)))
  clear h0 h1 o1 hb0 hz0 hW k1
  cases t0 with
  | false =>
    go_enter Tryz.func178, Tryz.ntmps178
    go_wp2_with fail
    rw [HW.out]
    refine (Q0.out _ (Below.refl _ _)).mono ?_; rintro e w0 ⟨rfl, hb0⟩
    have HB0x := Lib.hid hb0
    clear hb0
    have g0 := own_hold O1.out HB0x.out (by rw [HZ0.out]; omega) 0 rfl
    have g1 := own_hold O1.out HB0x.out (by rw [HZ0.out]; omega) 1 rfl
    go_wp2_with fail
    go_ret
    exact ⟨rfl, (HB0.out.trans (HB0x.out.mono HB0.out.size))⟩
  | true =>
    cases t1 with
    | false =>
      go_enter Tryz.func178, Tryz.ntmps178
      go_wp2_with fail
      rw [HW.out]
      refine (Q0.out _ (Below.refl _ _)).mono ?_; rintro e w0 ⟨rfl, hb0⟩
      have HB0x := Lib.hid hb0
      clear hb0
      have g0 := own_hold O1.out HB0x.out (by rw [HZ0.out]; omega) 0 rfl
      have g1 := own_hold O1.out HB0x.out (by rw [HZ0.out]; omega) 1 rfl
      go_wp2_with fail
      refine (Q1.out _ HB0x.out).mono ?_; rintro e w1 ⟨rfl, hb1⟩
      have HB1x := Lib.hid (HB0x.out.trans (hb1.mono HB0x.out.size))
      clear hb1
      clear g0 g1
      have g0 := own_hold O1.out HB1x.out (by rw [HZ0.out]; omega) 0 rfl
      have g1 := own_hold O1.out HB1x.out (by rw [HZ0.out]; omega) 1 rfl
      go_wp2_with fail
      go_ret
      exact ⟨rfl, (HB0.out.trans (HB1x.out.mono HB0.out.size))⟩
    | true =>
      go_enter Tryz.func178, Tryz.ntmps178
      go_wp2_with fail
      rw [HW.out]
      refine (Q0.out _ (Below.refl _ _)).mono ?_; rintro e w0 ⟨rfl, hb0⟩
      have HB0x := Lib.hid hb0
      clear hb0
      have g0 := own_hold O1.out HB0x.out (by rw [HZ0.out]; omega) 0 rfl
      have g1 := own_hold O1.out HB0x.out (by rw [HZ0.out]; omega) 1 rfl
      go_wp2_with fail
      refine (Q1.out _ HB0x.out).mono ?_; rintro e w1 ⟨rfl, hb1⟩
      have HB1x := Lib.hid (HB0x.out.trans (hb1.mono HB0x.out.size))
      clear hb1
      clear g0 g1
      have g0 := own_hold O1.out HB1x.out (by rw [HZ0.out]; omega) 0 rfl
      have g1 := own_hold O1.out HB1x.out (by rw [HZ0.out]; omega) 1 rfl
      go_wp2_with fail
      go_ret
      exact ⟨rfl, (HB0.out.trans (HB1x.out.mono HB0.out.size))⟩
theorem tell_virt {lo hi : Nat} {w0 : World} (l : List Virt) (hh : hi ≤ w0.heap.size) : Tells 178 (fun w cs x => VirtC lo hi w cs x) (fun cs => .agg cs.toArray) virtR w0 l :=
  ⟨enters Tryz.func178 (by decide) rfl, fun w cs x hb _ h => virt_any lo hi w cs x h (Nat.le_trans hh hb.size)⟩
end Go.Proofs.YtkmndgjabkjafaaGreatDoor.Sh6
