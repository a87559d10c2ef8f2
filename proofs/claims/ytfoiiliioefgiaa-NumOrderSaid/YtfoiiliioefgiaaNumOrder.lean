/-
  Of any two numbers just one is less, or they are the same; Ne and Le say the same of them: the statement NumOrder, for all pairs of numbers of 64 bits. No condition.
-/
import Derived.Test.YtfoiiliioefgiaaLaw01
import Derived.Test.YtfoiiliioefgiaaShell
import Derived.ProofKit
import Derived.OpenShut
namespace Go.Proofs.Ytfoiiliioefgiaa.numOrder
open Go.ChangeShapes Go.WideShapes Go.ChangeAt Go.RowKit
open NumM Mem

theorem tr_le (b : Bool) : 0 ≤ tr b ∧ tr b ≤ 1 := by cases b <;> decide

set_option maxHeartbeats 400000 in
theorem walk (a b : Int) (_ : (Lit.int .i64 a).wf = true) (_ : (Lit.int .i64 b).wf = true) (w : World) :
    Calls Try.prog 7 #[.int .i64 a, .int .i64 b] w fun e w' => e = .returned (.bool true) ∧ Below w.heap.size w w' := by
  obtain ⟨x, hx, cx⟩ : ∃ x, x = doV 13 a b ∧ ∀ w, Calls Try.prog 13 #[.int .i64 13, .int .i64 a, .int .i64 b] w fun e w' => e = .returned (.int .i64 x) ∧ w = w' := ⟨_, rfl, do1_any 13 a b⟩
  obtain ⟨y, hy, cy⟩ : ∃ x, x = doV 13 b a ∧ ∀ w, Calls Try.prog 13 #[.int .i64 13, .int .i64 b, .int .i64 a] w fun e w' => e = .returned (.int .i64 x) ∧ w = w' := ⟨_, rfl, do1_any 13 b a⟩
  obtain ⟨z, hz, cz⟩ : ∃ x, x = doV 11 a b ∧ ∀ w, Calls Try.prog 13 #[.int .i64 11, .int .i64 a, .int .i64 b] w fun e w' => e = .returned (.int .i64 x) ∧ w = w' := ⟨_, rfl, do1_any 11 a b⟩
  obtain ⟨u, hu, cu⟩ : ∃ x, x = doV 12 a b ∧ ∀ w, Calls Try.prog 13 #[.int .i64 12, .int .i64 a, .int .i64 b] w fun e w' => e = .returned (.int .i64 x) ∧ w = w' := ⟨_, rfl, do1_any 12 a b⟩
  obtain ⟨v, hv, cv⟩ : ∃ x, x = doV 14 a b ∧ ∀ w, Calls Try.prog 13 #[.int .i64 14, .int .i64 a, .int .i64 b] w fun e w' => e = .returned (.int .i64 x) ∧ w = w' := ⟨_, rfl, do1_any 14 a b⟩
  have hx' : x = tr (decide (a < b)) := by rw [hx]; rfl
  have hy' : y = tr (decide (b < a)) := by rw [hy]; rfl
  have hz' : z = tr (a == b) := by rw [hz]; rfl
  have hu' : u = tr (a != b) := by rw [hu]; rfl
  have hv' : v = tr (decide (a ≤ b)) := by rw [hv]; rfl
  have bx := tr_le (decide (a < b)); rw [← hx'] at bx
  have by_ := tr_le (decide (b < a)); rw [← hy'] at by_
  have bz := tr_le (a == b); rw [← hz'] at bz
  have e1 : (x + y + z == 1) = true := by
    rw [hx', hy', hz']; unfold tr; simp only [decide_eq_true_eq, beq_iff_eq]
    repeat' split
    all_goals omega
  have e2 : (u == 1 - z) = true := by
    rw [hu', hz']; unfold tr; simp only [bne_iff_ne, beq_iff_eq, ne_eq]
    repeat' split
    all_goals omega
  have e3 : (v == 1 - y) = true := by
    rw [hv', hy']; unfold tr; simp only [decide_eq_true_eq, beq_iff_eq]
    repeat' split
    all_goals omega
  obtain ⟨bx1, bx2⟩ := bx
  obtain ⟨by1, by2⟩ := by_
  obtain ⟨bz1, bz2⟩ := bz
  have Cx := Lib.hid cx
  have Cy := Lib.hid cy
  have Cz := Lib.hid cz
  have Cu := Lib.hid cu
  have Cv := Lib.hid cv
  clear hx hy hz hu hv hx' hy' hz' hu' hv' cx cy cz cu cv
  go_enter Try.func7, Try.ntmps7
  go_wp2_with fail
  refine (Cx.out _).mono ?_; rintro e w' ⟨rfl, rfl⟩
  go_wp2_with fail
  refine (Cy.out _).mono ?_; rintro e w' ⟨rfl, rfl⟩
  go_wp2_with fail
  refine (Cz.out _).mono ?_; rintro e w' ⟨rfl, rfl⟩
  go_wp2_with fail
  refine (awake_any _).mono ?_; rintro e w1 ⟨rfl, hb⟩
  go_wp2_with fail
  refine (Cu.out _).mono ?_; rintro e w' ⟨rfl, rfl⟩
  go_wp2_with fail
  refine (Cv.out _).mono ?_; rintro e w' ⟨rfl, rfl⟩
  go_wp2_with fail
  go_ret
  exact ⟨rfl, hb⟩

set_option maxRecDepth 100000 in
theorem lifted (os : Os) (started : os.Started) (H : Type) (enc : TypeId × Value → H) :
    ReturnsInHanded {} Try.checked os 7 .any (Rows.numOrderSpec.pre6 enc Try.prog Try.f7 Rows.numOrderRow.domain false) (Rows.numOrderSpec.post enc Try.prog Try.f7 false true false false) := by
  refine returnsInHanded_of_change (C := Try.checked) (by kernel_rfl) started (by kernel_rfl) Try.func7
    (ChangeSpec.witness6 (enc := enc) (C := Try.checked) false ⟨#[], #[.int .i64 0, .int .i64 0], []⟩ 8 (by kernel_rfl) (by kernel_rfl) (by kernel_rfl) (by kernel_rfl)) ?_
  intro W base args ds gs before hval0 hW hcnd _
  have hval : ∀ (j : Nat) t v, Try.f7.params[j]? = some t → args[j]? = some v → Value.okWide Try.prog W .any base t v := hval0
  have hW' := hW
  obtain ⟨p, q, hA0, hV, rfl, hfz, hnd⟩ := hW
  have hA : DataW.TrodAll enc Try.prog W 0 (fun _ => true) true Try.f7.params.toList args.toList ds p := hA0
  rw [Try.params7] at hA hval
  obtain ⟨v0, vs0, d0, ds0, p0, q0, hargs, rfl, rfl, h0, r0⟩ := trodAll_cons hA
  obtain ⟨v1, vs1, d1, ds1, p1, q1, rfl, rfl, rfl, h1, r1⟩ := trodAll_cons r0
  obtain ⟨rfl, rfl, rfl⟩ := trodAll_nil r1
  obtain rfl : args = #[v0, v1] := by cases args; simp_all
  obtain ⟨rfl, rfl⟩ := trodVars_none hV
  obtain ⟨a0, rfl, rfl, rfl, w0⟩ := open_int Try.underlying2 (hval 0 2 v0 rfl rfl) h0
  obtain ⟨a1, rfl, rfl, rfl, w1⟩ := open_int Try.underlying2 (hval 1 2 v1 rfl rfl) h1
  clear hA0 hval0
  simp only [List.append_nil] at hW'
  refine (walk a0 a1 w0 w1 W).mono fun e W' ⟨he, hg⟩ => ?_
  subst he
  exact ⟨_, rfl, Shell.lawPost (by kernel_rfl) rfl (by kernel_rfl) rfl Try.underlying4 hW' rfl hg⟩

/-- The statement. -/
theorem proved : Rows.NumOrderSaid :=
  OpenClaim.holds_of_wide 7 Try.f7 rfl rfl rfl rfl rfl rfl rfl ⟨rfl, rfl, rfl, rfl, rfl⟩ rfl rfl rfl rfl rfl (by kernel_rfl) Try.func7 (by kernel_rfl)
    (of_decide_eq_true (by kernel_rfl)) (by unfold Func.isWrapper; first | (rw [if_pos (by decide +kernel)]; kernel_rfl) | (rw [if_neg (by decide +kernel)]; exact ⟨rfl, rfl⟩))
    (fun os started H enc _ => lifted os started H enc)
end Go.Proofs.Ytfoiiliioefgiaa.numOrder
