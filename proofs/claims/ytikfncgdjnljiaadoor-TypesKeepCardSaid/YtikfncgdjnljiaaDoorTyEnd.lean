/-
  Package types: whether an end has its types.
-/
import Derived.Test.YtikfncgdjnljiaaDoorTySuit
import Derived.Deep.QuietTactic
import Derived.BigQuiet
namespace Go.Proofs.YtikfncgdjnljiaaDoor.Ty7
open Go.RowKit Api Syn WordM Mem

theorem below_drewE {B : Nat} {a w : World} (h : Below B a w) (n : Nat) : Below B a (w.drewN n) := ⟨h.os, h.tape, h.output, h.size, h.block⟩
set_option linter.unusedVariables false
set_option maxRecDepth 100000 in
set_option maxHeartbeats 8000000 in
theorem end_any7 (lo hi lo2 hi2 : Nat) (w : World) (cs ct : List Value) (f : Api.Func) (t : Api.Term) (hf : FuncC lo hi w cs f) (ht : TermC lo2 hi2 w ct t) (hh : hi ≤ w.heap.size) :
    Calls Tryd.prog 28 #[.agg cs.toArray, .agg ct.toArray] w fun e w' => e = .returned (.bool (endT f t)) ∧ Below w.heap.size w w' := by
  have hf0 := hf
  obtain ⟨u1, u2, u3, rfl, ka, kf, ko⟩ := hf
  obtain ⟨B1, c1, rfl⟩ := ka.form
  obtain ⟨B2, c2, rfl⟩ := kf.form
  obtain ⟨B3, c3, rfl⟩ := ko.form
  obtain ⟨u, rfl, kd⟩ := ht
  obtain ⟨C1, d1, rfl⟩ := kd.form
  obtain ⟨k, ⟨ak, as_, an⟩, dl, n⟩ := t
  clear ka kf ko kd
  obtain ⟨W, hW⟩ : ∃ W, (w.alloc (.cells #[str f.name, str f.result, .slice B1 f.params.length c1, .slice B2 f.vars.length c2, .slice B3 f.blocks.length c3] 30)).alloc (.cells #[i64 k, i64 ak, str as_, i64 an, .slice C1 dl.length d1, i64 n] 63) = W := ⟨_, rfl⟩
  have hb : Below w.heap.size w W := by rw [← hW]; exact ((Below.refl _ _).alloc (Nat.le_refl _) _).alloc (by simp) _
  have of0 : Own W w.heap.size 30 [str f.name, str f.result, .slice B1 f.params.length c1, .slice B2 f.vars.length c2, .slice B3 f.blocks.length c3] := by rw [← hW]; exact (Own.made w 30 [str f.name, str f.result, .slice B1 f.params.length c1, .slice B2 f.vars.length c2, .slice B3 f.blocks.length c3]).alloc _
  have HW := Lib.hid hW
  have HB := Lib.hid hb
  have HOF := Lib.hid of0
  have QT := Lib.hid (typeOf_any lo hi W _ f (FuncC.move (Still.of_below (hb.mono hh)) hf0) (Nat.le_trans hh hb.size) ak an as_)
  have hE : endT f ⟨k, ⟨ak, as_, an⟩, dl, n⟩ = if k = 1 then true else if k = 2 then typeA f ⟨ak, as_, an⟩ == some intW else if k = 3 then (match typeA f ⟨ak, as_, an⟩ with | some a => fitsT a f.result | none => false) else if k = 4 then decide (10 ≤ n) else false := rfl
  rw [hE]
  clear hW hb of0 hf0 hE
  by_cases h1 : k = 1
  · subst h1
    rw [if_pos rfl]
    go_enter Tryd.func28, Tryd.ntmps28
    go_wp2_with fail
    rw [HW.out]
    go_ret
    exact ⟨rfl, HB.out⟩
  rw [if_neg h1]
  by_cases h2 : k = 2
  · subst h2
    rw [if_pos rfl]
    obtain ⟨r, hr⟩ : ∃ r, typeA f ⟨ak, as_, an⟩ = r := ⟨_, rfl⟩
    rw [hr] at QT ⊢
    clear hr h1
    cases r with
    | none =>
      go_enter Tryd.func28, Tryd.ntmps28
      go_wp2_with fail
      rw [HW.out]
      refine QT.out.mono ?_
      rintro e w5 ⟨rfl, hb5⟩
      have HB5 := Lib.hid (HB.out.trans (hb5.mono HB.out.size))
      clear hb5 QT
      simp only [Option.getD_none, Option.isSome_none]
      go_wp2_with fail
      go_ret
      exact ⟨rfl, HB5.out⟩
    | some t =>
      have e1 : ((⟨t.toArray⟩ : ByteArray).toList == [105, 110, 116]) = (t == [105, 110, 116]) := by rw [str_list]
      go_enter Tryd.func28, Tryd.ntmps28
      go_wp2_with fail
      rw [HW.out]
      refine QT.out.mono ?_
      rintro e w5 ⟨rfl, hb5⟩
      have HB5 := Lib.hid (HB.out.trans (hb5.mono HB.out.size))
      clear hb5 QT
      simp only [Option.getD_some, Option.isSome_some]
      go_wp2_with fail
      go_ret
      exact ⟨by simp only [Option.some_beq_some]; rfl, HB5.out⟩
  rw [if_neg h2]
  by_cases h3 : k = 3
  · subst h3
    rw [if_pos rfl]
    obtain ⟨r, hr⟩ : ∃ r, typeA f ⟨ak, as_, an⟩ = r := ⟨_, rfl⟩
    rw [hr] at QT ⊢
    clear hr h1 h2
    cases r with
    | none =>
      go_enter Tryd.func28, Tryd.ntmps28
      go_wp2_with fail
      rw [HW.out]
      refine QT.out.mono ?_
      rintro e w5 ⟨rfl, hb5⟩
      have HB5 := Lib.hid (HB.out.trans (hb5.mono HB.out.size))
      have HOF5 := Lib.hid (HOF.out.below hb5 HOF.out.lt)
      have x1 := HOF5.out.cell 1
      simp only [List.getElem?_cons_succ, List.getElem?_cons_zero] at x1
      clear hb5 QT
      simp only [Option.getD_none, Option.isSome_none]
      go_wp2_with fail
      try go_quiet (fail)
      go_wp2_with fail
      go_ret
      first | exact ⟨rfl, HB5.out⟩ | exact ⟨rfl, below_drewE HB5.out _⟩
    | some t =>
      have QF := Lib.hid fun w' => fits_any w' ⟨t.toArray⟩ ⟨f.result.toArray⟩ (fitsT t f.result) (by rw [str_list, str_list])
      go_enter Tryd.func28, Tryd.ntmps28
      go_wp2_with fail
      rw [HW.out]
      refine QT.out.mono ?_
      rintro e w5 ⟨rfl, hb5⟩
      have HB5 := Lib.hid (HB.out.trans (hb5.mono HB.out.size))
      have HOF5 := Lib.hid (HOF.out.below hb5 HOF.out.lt)
      have x1 := HOF5.out.cell 1
      simp only [List.getElem?_cons_succ, List.getElem?_cons_zero] at x1
      clear hb5 QT
      simp only [Option.getD_some, Option.isSome_some]
      go_wp2_with fail
      first
        | (refine (QF.out _).mono ?_; rintro e w6 ⟨rfl, hw6⟩; obtain rfl := hw6)
        | go_quiet ((go_at_call 24; exact Calls.quiet_of_same ((QF.out _).mono fun _ _ h => ⟨h.1, h.2.symm⟩)))
      go_wp2_with fail
      go_ret
      first | exact ⟨rfl, HB5.out⟩ | exact ⟨rfl, below_drewE HB5.out _⟩
  rw [if_neg h3]
  clear QT
  by_cases h4 : k = 4
  · subst h4
    rw [if_pos rfl]
    go_enter Tryd.func28, Tryd.ntmps28
    go_wp2_with fail
    rw [HW.out]
    go_ret
    exact ⟨rfl, HB.out⟩
  rw [if_neg h4]
  have e1 : (k == 1) = false := beq_false_of_ne h1
  have e2 : (k == 2) = false := beq_false_of_ne h2
  have e3 : (k == 3) = false := beq_false_of_ne h3
  have e4 : (k == 4) = false := beq_false_of_ne h4
  clear h1 h2 h3 h4
  go_enter Tryd.func28, Tryd.ntmps28
  go_wp2_with fail
  rw [HW.out]
  go_ret
  exact ⟨rfl, HB.out⟩
end Go.Proofs.YtikfncgdjnljiaaDoor.Ty7
