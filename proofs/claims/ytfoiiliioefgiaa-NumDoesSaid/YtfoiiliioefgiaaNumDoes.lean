/-
  Whatever is done with whatever two numbers of 64 bits: the answer of num.Do, and of num.Is, is the document's: the statement NumDoes. No condition.
-/
import Derived.Test.YtfoiiliioefgiaaLaw01
import Derived.Test.YtfoiiliioefgiaaRef01
import Derived.Test.YtfoiiliioefgiaaShell
import Derived.ProofKit
import Derived.OpenShut
namespace Go.Proofs.Ytfoiiliioefgiaa.numDoes
open Go.ChangeShapes Go.WideShapes Go.ChangeAt Go.RowKit
open NumM Mem

set_option maxHeartbeats 400000 in
theorem walk (op a b : Int) (_ : (Lit.int .i64 op).wf = true) (ha : (Lit.int .i64 a).wf = true) (hb : (Lit.int .i64 b).wf = true) (w : World) :
    Calls Try.prog 3 #[.int .i64 op, .int .i64 a, .int .i64 b] w fun e w' => e = .returned (.bool true) ∧ Below w.heap.size w w' := by
  have Ha := Lib.hid (in_of_wf ha)
  have Hb := Lib.hid (in_of_wf hb)
  have e1 : (doV op a b == doV op a b) = true := by simp
  have e2 : (doK op b == doK op b) = true := by simp
  clear ha hb
  by_cases h : 1 ≤ op ∧ op ≤ 14
  · have hd : decide (1 ≤ op ∧ op ≤ 14) = true := by simpa using h
    have ci := fun w => is_any op w
    rw [hd] at ci
    obtain ⟨h1, h2⟩ := h
    have Ci := Lib.hid ci
    clear ci hd
    go_enter Try.func3, Try.ntmps3
    go_wp2_with (first | (go_at_call 9; refine (do_any _ _ _ _).mono ?_; rintro e w' ⟨rfl, rfl⟩) | (go_at_call 10; refine (R01.do_any _ _ _ _ Ha.out Hb.out).mono ?_; rintro e w' ⟨rfl, hb1⟩) | (go_at_call 11; refine (awake_any _).mono ?_; rintro e w' ⟨rfl, hb2⟩) | (go_at_call 12; refine (Ci.out _).mono ?_; rintro e w' ⟨rfl, rfl⟩))
    go_ret
    exact ⟨rfl, hb1.trans (hb2.mono hb1.size)⟩
  · have hd : decide (1 ≤ op ∧ op ≤ 14) = false := by simpa using h
    have ci := fun w => is_any op w
    rw [hd] at ci
    have Ci := Lib.hid ci
    clear ci hd
    rcases (show op < 1 ∨ 14 < op from by omega) with h1 | h1
    all_goals
      obtain ⟨x, hx⟩ : ∃ x, decide (op ≤ 14) = x := ⟨_, rfl⟩
      have hx1 : x = decide (op ≤ 14) := hx.symm
      have h14 : op ≤ 14 ∨ 14 < op := by omega
      first
        | rw [show decide (op ≤ 14) = false from decide_eq_false (by omega)] at hx1
        | rw [show decide (op ≤ 14) = true from decide_eq_true (by omega)] at hx1
      subst hx1
      clear h h14
      go_enter Try.func3, Try.ntmps3
      go_wp2_with (first | (go_at_call 9; refine (do_any _ _ _ _).mono ?_; rintro e w' ⟨rfl, rfl⟩) | (go_at_call 10; refine (R01.do_any _ _ _ _ Ha.out Hb.out).mono ?_; rintro e w' ⟨rfl, hb1⟩) | (go_at_call 11; refine (awake_any _).mono ?_; rintro e w' ⟨rfl, hb2⟩) | (go_at_call 12; refine (Ci.out _).mono ?_; rintro e w' ⟨rfl, rfl⟩))
      go_ret
      exact ⟨rfl, hb1.trans (hb2.mono hb1.size)⟩

set_option maxRecDepth 100000 in
theorem lifted (os : Os) (started : os.Started) (H : Type) (enc : TypeId × Value → H) :
    ReturnsInHanded {} Try.checked os 3 .any (Rows.numDoesSpec.pre6 enc Try.prog Try.f3 Rows.numDoesRow.domain false) (Rows.numDoesSpec.post enc Try.prog Try.f3 false true false false) := by
  refine returnsInHanded_of_change (C := Try.checked) (by kernel_rfl) started (by kernel_rfl) Try.func3
    (ChangeSpec.witness6 (enc := enc) (C := Try.checked) false ⟨#[], #[.int .i64 0, .int .i64 0, .int .i64 0], []⟩ 8 (by kernel_rfl) (by kernel_rfl) (by kernel_rfl) (by kernel_rfl)) ?_
  intro W base args ds gs before hval0 hW hcnd _
  have hval : ∀ (j : Nat) t v, Try.f3.params[j]? = some t → args[j]? = some v → Value.okWide Try.prog W .any base t v := hval0
  have hW' := hW
  obtain ⟨p, q, hA0, hV, rfl, hfz, hnd⟩ := hW
  have hA : DataW.TrodAll enc Try.prog W 0 (fun _ => true) true Try.f3.params.toList args.toList ds p := hA0
  rw [Try.params3] at hA hval
  obtain ⟨v0, vs0, d0, ds0, p0, q0, hargs, rfl, rfl, h0, r0⟩ := trodAll_cons hA
  obtain ⟨v1, vs1, d1, ds1, p1, q1, rfl, rfl, rfl, h1, r1⟩ := trodAll_cons r0
  obtain ⟨v2, vs2, d2, ds2, p2, q2, rfl, rfl, rfl, h2, r2⟩ := trodAll_cons r1
  obtain ⟨rfl, rfl, rfl⟩ := trodAll_nil r2
  obtain rfl : args = #[v0, v1, v2] := by cases args; simp_all
  obtain ⟨rfl, rfl⟩ := trodVars_none hV
  obtain ⟨a0, rfl, rfl, rfl, w0⟩ := open_int Try.underlying3 (hval 0 3 v0 rfl rfl) h0
  obtain ⟨a1, rfl, rfl, rfl, w1⟩ := open_int Try.underlying2 (hval 1 2 v1 rfl rfl) h1
  obtain ⟨a2, rfl, rfl, rfl, w2⟩ := open_int Try.underlying2 (hval 2 2 v2 rfl rfl) h2
  clear hA0 hval0
  simp only [List.append_nil] at hW'
  refine (walk a0 a1 a2 w0 w1 w2 W).mono fun e W' ⟨he, hg⟩ => ?_
  subst he
  exact ⟨_, rfl, Shell.lawPost (by kernel_rfl) rfl (by kernel_rfl) rfl Try.underlying4 hW' rfl hg⟩

/-- The statement. -/
theorem proved : Rows.NumDoesSaid :=
  OpenClaim.holds_of_wide 3 Try.f3 rfl rfl rfl rfl rfl rfl rfl ⟨rfl, rfl, rfl, rfl, rfl⟩ rfl rfl rfl rfl rfl (by kernel_rfl) Try.func3 (by kernel_rfl)
    (of_decide_eq_true (by kernel_rfl)) (by unfold Func.isWrapper; first | (rw [if_pos (by decide +kernel)]; kernel_rfl) | (rw [if_neg (by decide +kernel)]; exact ⟨rfl, rfl⟩))
    (fun os started H enc _ => lifted os started H enc)
end Go.Proofs.Ytfoiiliioefgiaa.numDoes
