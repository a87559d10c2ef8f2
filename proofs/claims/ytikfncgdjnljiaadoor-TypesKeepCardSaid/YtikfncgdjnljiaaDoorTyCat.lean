/-
  Package types: slices.Concat of rows of variables.
-/
import Derived.Test.YtikfncgdjnljiaaDoorTyName
import Derived.Test.YtikfncgdjnljiaaDoorChunk
import Derived.Test.YtikfncgdjnljiaaDoorFlDownW
import Derived.Laws.MakeOwn
namespace Go.Proofs.YtikfncgdjnljiaaDoor.Ty7
open Go.RowKit Api Syn WordM Mem

theorem grown_none {w W : World} {n c : Nat} (hW : (w.alloc (.cells (Builtin.zeroCells #[.string ⟨#[]⟩, .string ⟨#[]⟩] n ++ Builtin.zeroCells #[.string ⟨#[]⟩, .string ⟨#[]⟩] (c - n)) 40)).drew = W) (hn : n ≤ 1099511627776) (hc : c = grownCap w n 0 40) : W.ownsRow w.heap.size 40 2 (.slice (some ⟨w.heap.size, 0, none⟩) 0 c) 0 [] ∧ Below w.heap.size w W := by
  subst hW
  have h1 : n ≤ c := by rw [hc]; exact grownCap_ge w _ 0 _
  have h2 : c ≤ maxLen := by rw [hc]; exact grownCap_le_maxLen w _ 0 _ (by unfold maxLen; omega)
  refine ⟨?_, ((Below.refl _ _).alloc (Nat.le_refl _) _).drew⟩
  have := World.ownsRow_made (base := w.heap.size) (e := 40) (size := 2) w (Builtin.zeroCells #[.string ⟨#[]⟩, .string ⟨#[]⟩] n ++ Builtin.zeroCells #[.string ⟨#[]⟩, .string ⟨#[]⟩] (c - n)) c (Nat.le_refl _) h2 (by simp [size_zeroCells]; omega)
  exact this
theorem run_app_zero7 {P : Program} {w : World} (base : Nat) (t ty e : TypeId) (i : TypeInfo) (size : Nat) (ht : P.underlying t = some (.slice e)) (hi : P.info? e = some i)
    (v : Value) (n : Nat) (xs : List Value) (hown : w.ownsRow base e size v n xs) (A : Option Addr) (c : Nat) :
    (Builtin.append_ #[t, t] ty #[v, .slice A 0 c]).run P w = .ok v w := by
  rcases hown.2 with ⟨rfl, rfl⟩ | ⟨g, cap, cur, rfl, _, _, hnc, _⟩
  · cases A <;> simp [Builtin.append_, run_underlying ht, sizeOf, typeInfo, hi, Builtin.lenOf, Builtin.firstCells, loadCells, loadCellsFrom]
  · cases A <;> simp [Builtin.append_, run_underlying ht, sizeOf, typeInfo, hi, Builtin.lenOf, Builtin.firstCells, hnc, storeCells, loadCells, loadCellsFrom]
/-- 'append(s, x...)' where x has no elements. -/
theorem wpList_app_zero7 {P : Program} {w : World} {ops : Array Oper} {rest : List Oper} {o : Oper} {a : Go.Act} {Q : Exit → Go.Act → World → Prop} (hgd : o.guard = none) (s x : Operand) (t : TypeId)
    (ho : o.op = .call { callee := .builtin .append, args := #[s, x], argTypes := #[t, t] })
    (base : Nat) (e : TypeId) (i : TypeInfo) (size : Nat) (ht : P.underlying t = some (.slice e)) (hi : P.info? e = some i)
    (v : Value) (n : Nat) (xs : List Value) (hs : a.eval s = v) (hown : w.ownsRow base e size v n xs) (A : Option Addr) (c : Nat) (hx : a.eval x = .slice A 0 c)
    (h : wpList P ops Q rest (a.put o.dst v) w) : wpList P ops Q (o :: rest) a w := by
  refine wpList_plain hgd fun K hK => ?_
  have hrun := run_app_zero7 (P := P) (w := w) base t o.type e i size ht hi v n xs hown A c
  unfold Oper.wp
  simp [execOp, ho, resolve, invoke, builtin, hs, hx, hrun, Result.andThen]
  exact hK _ _ h
theorem info_var : (Tryd.prog.info? 40).map (fun i => (i.zero, i.size, i.bytes)) = some (some (.agg #[str [], str []]), 2, 32) := by kernel_rfl
set_option maxRecDepth 100000 in
set_option maxHeartbeats 8000000 in
theorem grow_any (w : World) (n : Nat) (hn : n ≤ 1099511627776) :
    Calls Tryd.prog 88 #[.slice none 0 0, i64 (n : Int)] w fun e w' => ∃ v, e = .returned v ∧ w'.ownsRow w.heap.size 40 2 v 0 [] ∧ Below w.heap.size w w' := by
  obtain ⟨i, hi, hz, hs, hb⟩ := info_parts info_var
  by_cases h0 : n = 0
  · subst h0
    go_enter Tryd.func88, Tryd.ntmps88
    go_wp2_with fail
    go_ret
    exact ⟨_, rfl, World.ownsRow_nil _ _ _ _, Below.refl _ _⟩
  · have e1 : decide ((n : Int) < 0) = false := decide_eq_false (by omega)
    have e2 : decide ((0 : Int) < (n : Int)) = true := decide_eq_true (by omega)
    have e3 : decide (0 < n) = true := decide_eq_true (by omega)
    have x1 : ¬ (281474976710656 : Int) < (n : Int) * ((Tryd.t40.bytes : Nat) : Int) := by rw [show Tryd.t40.bytes = 32 from rfl]; omega
    have x2 : ¬ 281474976710656 < Builtin.nextslicecap n 0 * Tryd.t40.bytes := by
      rw [show Tryd.t40.bytes = 32 from rfl, show Builtin.nextslicecap n 0 = n by unfold Builtin.nextslicecap; simp; omega]
      omega
    clear hi hz hs hb
    go_enter Tryd.func88, Tryd.ntmps88
    go_wp2_with fail
    obtain ⟨W, hW⟩ : ∃ W, (w.alloc (.cells (Builtin.zeroCells #[.string ⟨#[]⟩, .string ⟨#[]⟩] n ++ Builtin.zeroCells #[.string ⟨#[]⟩, .string ⟨#[]⟩] (grownCap w n 0 40 - n)) 40)).drew = W := ⟨_, rfl⟩
    obtain ⟨h1, h2⟩ := grown_none hW hn rfl
    go_ret
    refine ⟨_, rfl, ?_, ?_⟩
    · rw [← hW] at h1; exact h1
    · rw [← hW] at h2; exact h2
/-- What slices.Concat of two rows answers. -/
def CatP (l : List Var) (w : World) (e : Ending) (w' : World) : Prop := ∃ v, e = .returned v ∧ Vars w.heap.size w'.heap.size w' v l ∧ Below w.heap.size w w'
set_option maxRecDepth 100000 in
set_option maxHeartbeats 8000000 in
theorem cat_any (lo hi : Nat) (w : World) (g : Nat) (v1 v2 : Value) (l1 l2 : List Var) (h1 : Vars lo hi w v1 l1) (h2 : Vars lo hi w v2 l2) (hO : Own w g 23 [v1, v2]) (hh : hi ≤ w.heap.size) (n1 : l1.length ≤ 17179869184) (n2 : l2.length ≤ 17179869184) :
    Calls Tryd.prog 68 #[.slice (some ⟨g, 0, none⟩) 2 2] w (CatP (l1 ++ l2) w) := by
  obtain ⟨A1, k1, rfl⟩ := Row.form h1
  obtain ⟨A2, k2, rfl⟩ := Row.form h2
  have c0 := hO.cell 0
  have c1 := hO.cell 1
  simp only [List.getElem?_cons_zero, List.getElem?_cons_succ] at c0 c1
  obtain ⟨cs1, b1, o1, ch1, _, ha1, hr1⟩ := Chk.of_row h1 (by decide)
  obtain ⟨cs2, b2, o2, ch2, _, ha2, hr2⟩ := Chk.of_row h2 (by decide)
  have HC1 := Lib.hid ch1
  have HC2 := Lib.hid ch2
  have HA1 := Lib.hid ha1
  have HA2 := Lib.hid ha2
  have HR1 := Lib.hid hr1
  have HR2 := Lib.hid hr2
  have HI1 := Lib.hid (Chk.ones_of ch1 (by decide) (fun ds x h u hu => by subst h; simp [varC] at hu; rcases hu with rfl | rfl <;> rfl))
  have HI2 := Lib.hid (Chk.ones_of ch2 (by decide) (fun ds x h u hu => by subst h; simp [varC] at hu; rcases hu with rfl | rfl <;> rfl))
  obtain ⟨iv, hi1, hi2, hi3, hi4⟩ := info_parts info_var
  have HIV := Lib.hid hi1
  have H1 := Lib.hid h1
  have H2 := Lib.hid h2
  have HO := Lib.hid hO
  clear h1 h2 hO ch1 ch2 ha1 ha2 hr1 hr2 hi1 hi2 hi3 hi4
  go_enter Tryd.func68, Tryd.ntmps68
  go_wp2_with fail
  go_loopw [3, 11] (fun vs vi wr => ((vi = .int .i64 0 ∧ vs = .int .i64 0) ∨ (vi = .int .i64 1 ∧ vs = .int .i64 (l1.length : Int)) ∨ (vi = .int .i64 2 ∧ vs = .int .i64 ((l1.length + l2.length : Nat) : Int))) ∧ wr = w) (fun _ vi _ => 2 - (intOf vi).toNat)
  case atStart => exact ⟨.inl ⟨rfl, rfl⟩, rfl⟩
  case round =>
  obtain ⟨hc, rfl⟩ := hrel
  rcases hc with ⟨rfl, rfl⟩ | ⟨rfl, rfl⟩ | ⟨rfl, rfl⟩
  · have t1 : decide ((l1.length : Int) < 0) = false := decide_eq_false (by omega)
    go_wp2_with fail
    go_roundw
    case rel => exact ⟨.inr (.inl ⟨rfl, rfl⟩), trivial⟩
    case measure => simp [intOf]
  · have t1 : decide ((l1.length : Int) + (l2.length : Int) < 0) = false := decide_eq_false (by omega)
    go_wp2_with fail
    go_roundw
    case rel => exact ⟨.inr (.inr ⟨rfl, by go_num⟩), trivial⟩
    case measure => simp [intOf]
  · obtain ⟨w0, hw0⟩ : ∃ w0, w0 = wr := ⟨_, rfl⟩
    subst hw0
    have QG := Lib.hid (grow_any w0 (l1.length + l2.length) (by omega))
    go_wp2_with fail
    refine QG.out.mono ?_
    rintro e w5 ⟨vn, rfl, hown, hb⟩
    have HB5 := Lib.hid hb
    have HN5 := Lib.hid hown
    clear hown hb
    go_wp2_with fail
    go_loopw [6, 27] (fun vq vi wr => ∃ vx, vq = vx ∧ ((vi = .int .i64 0 ∧ Hid (wr.ownsRow w0.heap.size 40 2 vx 0 [])) ∨ (vi = .int .i64 1 ∧ Hid (wr.ownsRow w0.heap.size 40 2 vx l1.length cs1)) ∨ (vi = .int .i64 2 ∧ Hid (wr.ownsRow w0.heap.size 40 2 vx (l1.length + l2.length) (cs1 ++ cs2)))) ∧ Hid (Below w0.heap.size w0 wr)) (fun _ vi _ => 2 - (intOf vi).toNat)
    case atStart => exact ⟨vn, rfl, .inl ⟨rfl, HN5⟩, HB5⟩
    case round =>
    obtain ⟨vx, rfl, hc, HB⟩ := hrel
    have hs9 := HB.out.size
    have c0 := own_hold7 HO.out HB.out HO.out.lt 0 rfl
    have c1 := own_hold7 HO.out HB.out HO.out.lt 1 rfl
    obtain ⟨vx, hvx⟩ : ∃ v, v = u6 := ⟨_, rfl⟩
    subst hvx
    rcases hc with ⟨rfl, HW⟩ | ⟨rfl, HW⟩ | ⟨rfl, HW⟩
    · by_cases hz : l1.length = 0
      · have HW1 := Lib.hid (show wr.ownsRow w0.heap.size 40 2 vx l1.length cs1 by
          have h9 := HC1.out.1
          rw [hz] at h9
          obtain rfl : cs1 = [] := List.eq_nil_of_length_eq_zero (by omega)
          rw [hz]; exact HW.out)
        rw [hz] at c0
        clear hz
        go_wp2_with (at_builtin; refine wpList_app_zero7 rfl _ _ 23 rfl w0.heap.size 40 iv 2 Tryd.underlying23 HIV.out vx 0 [] rfl HW.out A1 k1 rfl ?_)
        go_roundw
        case rel => exact ⟨vx, rfl, .inr (.inl ⟨rfl, HW1⟩), HB⟩
        case measure => simp [intOf]
      · obtain ⟨rfl, hb1, hb2⟩ := HA1.out (by omega)
        have HCL := Lib.hid (cells_later HR1.out HB.out (by omega))
        go_wp2_with (at_builtin; refine Fl9.read_own9 rfl _ _ 23 rfl w0.heap.size 40 _ 2 32 Tryd.underlying23 info_var rfl (by decide) vx 0 [] rfl HW.out b1 o1 l1.length k1 cs1 rfl HC1.out.1 HCL.out HI1.out (by unfold maxLen; omega) (by omega) hs9 ?_; intro v7 w7 hown7 hg7; have HB7 := Lib.hid (HB.out.grown hg7 hs9 (fun q hq => (HW.out.lt q hq).1)); have HW7 := Lib.hid (show w7.ownsRow w0.heap.size 40 2 v7 l1.length cs1 by simpa using hown7); clear hown7 hg7)
        go_roundw
        case rel => exact ⟨_, rfl, .inr (.inl ⟨rfl, HW7⟩), HB7⟩
        case measure => simp [intOf]
    · by_cases hz : l2.length = 0
      · have HW1 := Lib.hid (show wr.ownsRow w0.heap.size 40 2 vx (l1.length + l2.length) (cs1 ++ cs2) by
          have h9 := HC2.out.1
          rw [hz] at h9
          obtain rfl : cs2 = [] := List.eq_nil_of_length_eq_zero (by omega)
          rw [hz, List.append_nil]; exact HW.out)
        rw [hz] at c1
        clear hz
        go_wp2_with (at_builtin; refine wpList_app_zero7 rfl _ _ 23 rfl w0.heap.size 40 iv 2 Tryd.underlying23 HIV.out vx l1.length cs1 rfl HW.out A2 k2 rfl ?_)
        go_roundw
        case rel => exact ⟨vx, rfl, .inr (.inr ⟨rfl, HW1⟩), HB⟩
        case measure => simp [intOf]
      · obtain ⟨rfl, hb1, hb2⟩ := HA2.out (by omega)
        have HCL := Lib.hid (cells_later HR2.out HB.out (by omega))
        go_wp2_with (at_builtin; refine Fl9.read_own9 rfl _ _ 23 rfl w0.heap.size 40 _ 2 32 Tryd.underlying23 info_var rfl (by decide) vx l1.length cs1 rfl HW.out b2 o2 l2.length k2 cs2 rfl HC2.out.1 HCL.out HI2.out (by unfold maxLen; omega) (by omega) hs9 ?_; intro v7 w7 hown7 hg7; have HB7 := Lib.hid (HB.out.grown hg7 hs9 (fun q hq => (HW.out.lt q hq).1)); have HW7 := Lib.hid hown7; clear hown7 hg7)
        go_roundw
        case rel => exact ⟨_, rfl, .inr (.inr ⟨rfl, HW7⟩), HB7⟩
        case measure => simp [intOf]
    · go_wp2_with fail
      go_ret
      refine ⟨_, rfl, ?_, HB.out⟩
      have h9 := Chk.to_row (lo := w0.heap.size) (hi := wr.heap.size) (xs := l1 ++ l2) HW.out (HC1.out.app HC2.out) (by decide) (by simp; omega) (Nat.le_refl _) (Nat.le_refl _)
      exact h9
end Go.Proofs.YtikfncgdjnljiaaDoor.Ty7
