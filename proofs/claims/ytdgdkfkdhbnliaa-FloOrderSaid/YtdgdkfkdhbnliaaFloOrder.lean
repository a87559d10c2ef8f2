/-
  Of any two floats, none of which is NaN, just one is less, or they are equal; less or equal is one of both; of NaN none is: the statement FloOrder. No condition.
-/
import Derived.Test.YtdgdkfkdhbnliaaLaw02
import Derived.Test.YtdgdkfkdhbnliaaShell
import Derived.ProofKit
import Derived.OpenShut
namespace Go.Proofs.Ytdgdkfkdhbnliaa.floOrder
open Go.ChangeShapes Go.WideShapes Go.ChangeAt Go.RowKit
open NumM FloM Mem

theorem nan_eq {n : Int} (h : nn (ub n)) : (plainV n == 9221120237041090560) = true := by rw [plain_nan h]; rfl
theorem nan_ne {n : Int} (h : ¬ nn (ub n)) : (plainV n == 9221120237041090560) = false := by
  rw [plain_num h, beq_eq_false_iff_ne]
  rintro rfl
  exact h (by decide)

theorem v19 (a b : Int) : fdo 19 a b = tr (Ieee.double.order (fl a) (fl b) == some .eq) := rfl
theorem v20 (a b : Int) : fdo 20 a b = tr (Ieee.double.order (fl a) (fl b) == some .lt) := rfl
theorem v21 (a b : Int) : fdo 21 a b = tr (Ieee.double.order (fl a) (fl b) == some .lt || Ieee.double.order (fl a) (fl b) == some .eq) := rfl

def All (a b lt gt eq le : Int) : Prop := fdo 20 a b = lt ∧ fdo 20 b a = gt ∧ fdo 19 a b = eq ∧ fdo 21 a b = le

theorem all_of (a b : Int) (o : Option Ordering) (h : Ieee.double.order (fl a) (fl b) = o) :
    All a b (tr (o == some .lt)) (tr (o.map Ordering.swap == some .lt)) (tr (o == some .eq)) (tr (o == some .lt || o == some .eq)) := by
  refine ⟨?_, ?_, ?_, ?_⟩
  · rw [v20, h]
  · rw [v20, order_swap, h]
  · rw [v19, h]
  · rw [v21, h]

theorem cases_of (a b : Int) :
    (All a b 0 0 0 0 ∧ ((plainV a == 9221120237041090560) = true ∨ (plainV a == 9221120237041090560) = false ∧ (plainV b == 9221120237041090560) = true)) ∨
    ((plainV a == 9221120237041090560) = false ∧ (plainV b == 9221120237041090560) = false ∧ (All a b 1 0 0 1 ∨ All a b 0 1 0 0 ∨ All a b 0 0 1 1)) := by
  by_cases ha : nn (ub a)
  · left
    refine ⟨all_of a b none (order_nanl (by rw [fl_nan ha]; exact nn_nan)), .inl (nan_eq ha)⟩
  · by_cases hb : nn (ub b)
    · left
      exact ⟨all_of a b none (order_nanr (by rw [fl_nan hb]; exact nn_nan)), .inr ⟨nan_ne ha, nan_eq hb⟩⟩
    · right
      refine ⟨nan_ne ha, nan_ne hb, ?_⟩
      obtain ⟨c, hc⟩ := order_some (x := fl a) (y := fl b) (by rw [fl_num ha]; exact ha) (by rw [fl_num hb]; exact hb)
      cases c
      · exact .inl (all_of a b _ hc)
      · exact .inr (.inr (all_of a b _ hc))
      · exact .inr (.inl (all_of a b _ hc))

set_option maxHeartbeats 1000000 in
theorem walk (a b : Int) (_ : (Lit.int .i64 a).wf = true) (_ : (Lit.int .i64 b).wf = true) (w : World) :
    Calls Try.prog 8 #[.int .i64 a, .int .i64 b] w fun e w' => e = .returned (.bool true) ∧ Below w.heap.size w w' := by
  rcases cases_of a b with ⟨⟨h1, h2, h3, h4⟩, p1 | ⟨p1, p2⟩⟩ | ⟨p1, p2, ⟨h1, h2, h3, h4⟩ | ⟨h1, h2, h3, h4⟩ | ⟨h1, h2, h3, h4⟩⟩
  all_goals
    have H1 := Lib.hid h1
    have H2 := Lib.hid h2
    have H3 := Lib.hid h3
    have H4 := Lib.hid h4
    clear h1 h2 h3 h4
    go_enter Try.func8, Try.ntmps8
    go_wp2_with (first | (go_at_call 24; (with_reducible refine (do1_ord 20 a b _ (by simp) H1.out _).mono ?_); rintro e w' ⟨rfl, rfl⟩) | (go_at_call 24; (with_reducible refine (do1_ord 20 b a _ (by simp) H2.out _).mono ?_); rintro e w' ⟨rfl, rfl⟩) | (go_at_call 24; (with_reducible refine (do1_ord 19 a b _ (by simp) H3.out _).mono ?_); rintro e w' ⟨rfl, rfl⟩) | (go_at_call 24; (with_reducible refine (do1_ord 21 a b _ (by simp) H4.out _).mono ?_); rintro e w' ⟨rfl, rfl⟩) | (go_at_call 14; refine (plain_any _ _).mono ?_; rintro e w' ⟨rfl, rfl⟩) | (go_at_call 12; refine (awake_any _).mono ?_; rintro e w' ⟨rfl, hb⟩))
    go_ret
    exact ⟨rfl, hb⟩

set_option maxRecDepth 100000 in
theorem lifted (os : Os) (started : os.Started) (H : Type) (enc : TypeId × Value → H) :
    ReturnsInHanded {} Try.checked os 8 .any (Rows.floOrderSpec.pre6 enc Try.prog Try.f8 Rows.floOrderRow.domain false) (Rows.floOrderSpec.post enc Try.prog Try.f8 false true false false) := by
  refine returnsInHanded_of_change (C := Try.checked) (by kernel_rfl) started (by kernel_rfl) Try.func8
    (ChangeSpec.witness6 (enc := enc) (C := Try.checked) false ⟨#[], #[.int .i64 0, .int .i64 0], []⟩ 8 (by kernel_rfl) (by kernel_rfl) (by kernel_rfl) (by kernel_rfl)) ?_
  intro W base args ds gs before hval0 hW hcnd _
  have hval : ∀ (j : Nat) t v, Try.f8.params[j]? = some t → args[j]? = some v → Value.okWide Try.prog W .any base t v := hval0
  have hW' := hW
  obtain ⟨p, q, hA0, hV, rfl, hfz, hnd⟩ := hW
  have hA : DataW.TrodAll enc Try.prog W 0 (fun _ => true) true Try.f8.params.toList args.toList ds p := hA0
  rw [Try.params8] at hA hval
  obtain ⟨v0, vs0, d0, ds0, p0, q0, hargs, rfl, rfl, h0, r0⟩ := trodAll_cons hA
  obtain ⟨v1, vs1, d1, ds1, p1, q1, rfl, rfl, rfl, h1, r1⟩ := trodAll_cons r0
  obtain ⟨rfl, rfl, rfl⟩ := trodAll_nil r1
  obtain rfl : args = #[v0, v1] := by cases args; simp_all
  obtain ⟨rfl, rfl⟩ := trodVars_none hV
  obtain ⟨a0, rfl, rfl, rfl, w0⟩ := open_int Try.underlying2 (hval 0 2 v0 rfl rfl) h0
  obtain ⟨a1, rfl, rfl, rfl, w1⟩ := open_int Try.underlying2 (hval 1 2 v1 rfl rfl) h1
  clear hA0 hval0
  simp only [List.append_nil] at hW'
  refine (walk a0 a1 w0 w1 W).mono fun e W' ⟨he, hg⟩ => ?_
  subst he
  exact ⟨_, rfl, Shell.lawPost (by kernel_rfl) rfl (by kernel_rfl) rfl Try.underlying4 hW' rfl hg⟩

/-- The statement. -/
theorem proved : Rows.FloOrderSaid :=
  OpenClaim.holds_of_wide 8 Try.f8 rfl rfl rfl rfl rfl rfl rfl ⟨rfl, rfl, rfl, rfl, rfl⟩ rfl rfl rfl rfl rfl (by kernel_rfl) Try.func8 (by kernel_rfl)
    (of_decide_eq_true (by kernel_rfl)) (by unfold Func.isWrapper; first | (rw [if_pos (by decide +kernel)]; kernel_rfl) | (rw [if_neg (by decide +kernel)]; exact ⟨rfl, rfl⟩))
    (fun os started H enc _ => lifted os started H enc)
end Go.Proofs.Ytdgdkfkdhbnliaa.floOrder
