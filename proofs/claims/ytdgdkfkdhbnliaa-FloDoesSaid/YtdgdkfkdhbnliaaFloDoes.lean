/-
  Whatever is done with whatever two floats is the document's answer: the statement FloDoes. No condition.
-/
import Derived.Test.YtdgdkfkdhbnliaaLaw02
import Derived.Test.YtdgdkfkdhbnliaaRef02
import Derived.Test.YtdgdkfkdhbnliaaShell
import Derived.ProofKit
import Derived.OpenShut
namespace Go.Proofs.Ytdgdkfkdhbnliaa.floDoes
open Go.ChangeShapes Go.WideShapes Go.ChangeAt Go.RowKit
open NumM FloM Mem

theorem grow {w x y : World} (h : Below w.heap.size w x) (k : Below x.heap.size x y) : Below w.heap.size w y := h.trans (k.mono h.size)
theorem is_at (op : Int) (x : Bool) (h : fok op = x) (w : World) : Calls Try.prog 13 #[.int .i64 op] w fun e w' => e = .returned (.bool x) ∧ w = w' := by subst h; exact fis_any op w

set_option maxHeartbeats 2000000 in
theorem walk (op a b : Int) (_ : (Lit.int .i64 op).wf = true) (_ : (Lit.int .i64 a).wf = true) (_ : (Lit.int .i64 b).wf = true) (w : World) :
    Calls Try.prog 3 #[.int .i64 op, .int .i64 a, .int .i64 b] w fun e w' => e = .returned (.bool true) ∧ Below w.heap.size w w' := by
  have hc : (decide (15 ≤ op) = false ∧ fok op = false) ∨ (decide (15 ≤ op) = true ∧ (decide (op ≤ 21) = false ∧ fok op = false ∨ decide (op ≤ 21) = true ∧ fok op = true)) := by
    unfold fok
    simp only [decide_eq_true_eq, decide_eq_false_iff_not]; omega
  have hacc := Below.refl w.heap.size w
  rcases hc with ⟨t1, hk⟩ | ⟨t1, ⟨t2, hk⟩ | ⟨t2, hk⟩⟩
  all_goals
    have Hi := Lib.hid fun w => is_at op _ hk w
    clear hk
    go_enter Try.func3, Try.ntmps3
    go_wp2_with (first | (go_at_call 10; (with_reducible refine (fdo_any op a b _).mono ?_); rintro e w' ⟨rfl, hb⟩; replace hacc := grow hacc hb; clear hb) | (go_at_call 11; (with_reducible refine (R02.do_any op a b _).mono ?_); rintro e w' ⟨rfl, hb⟩; replace hacc := grow hacc hb; clear hb) | (go_at_call 12; (with_reducible refine (awake_any _).mono ?_); rintro e w' ⟨rfl, hb⟩; replace hacc := grow hacc hb; clear hb) | (go_at_call 13; (with_reducible refine (Hi.out _).mono ?_); rintro e w' ⟨rfl, rfl⟩) | (go_at_call 14; (with_reducible refine (plain_any a _).mono ?_); rintro e w' ⟨rfl, rfl⟩) | (go_at_call 15; (with_reducible refine (R02.plain_any a _).mono ?_); rintro e w' ⟨rfl, rfl⟩))
    go_ret
    exact ⟨rfl, hacc⟩

set_option maxRecDepth 100000 in
theorem lifted (os : Os) (started : os.Started) (H : Type) (enc : TypeId × Value → H) :
    ReturnsInHanded {} Try.checked os 3 .any (Rows.floDoesSpec.pre6 enc Try.prog Try.f3 Rows.floDoesRow.domain false) (Rows.floDoesSpec.post enc Try.prog Try.f3 false true false false) := by
  refine returnsInHanded_of_change (C := Try.checked) (by kernel_rfl) started (by kernel_rfl) Try.func3
    (ChangeSpec.witness6 (enc := enc) (C := Try.checked) false ⟨#[], #[.int .i64 0, .int .i64 0, .int .i64 0], []⟩ 8 (by kernel_rfl) (by kernel_rfl) (by kernel_rfl) (by kernel_rfl)) ?_
  intro W base args ds gs before hval0 hW hcnd _
  have hval : ∀ (j : Nat) t v, Try.f3.params[j]? = some t → args[j]? = some v → Value.okWide Try.prog W .any base t v := hval0
  have hW' := hW
  obtain ⟨p, q, hA0, hV, rfl, hfz, hnd⟩ := hW
  have hA : DataW.TrodAll enc Try.prog W 0 (fun _ => true) true Try.f3.params.toList args.toList ds p := hA0
  rw [Try.params3] at hA hval
  obtain ⟨v0, vs0, d0, ds0, p0, q0, hargs, rfl, rfl, h0, r0⟩ := trodAll_cons hA
  obtain ⟨v1, vs1, d1, ds1, p1, q1, rfl, rfl, rfl, h1, r1⟩ := trodAll_cons r0
  obtain ⟨v2, vs2, d2, ds2, p2, q2, rfl, rfl, rfl, h2, r2⟩ := trodAll_cons r1
  obtain ⟨rfl, rfl, rfl⟩ := trodAll_nil r2
  obtain rfl : args = #[v0, v1, v2] := by cases args; simp_all
  obtain ⟨rfl, rfl⟩ := trodVars_none hV
  obtain ⟨a0, rfl, rfl, rfl, w0⟩ := open_int Try.underlying3 (hval 0 3 v0 rfl rfl) h0
  obtain ⟨a1, rfl, rfl, rfl, w1⟩ := open_int Try.underlying2 (hval 1 2 v1 rfl rfl) h1
  obtain ⟨a2, rfl, rfl, rfl, w2⟩ := open_int Try.underlying2 (hval 2 2 v2 rfl rfl) h2
  clear hA0 hval0
  simp only [List.append_nil] at hW'
  refine (walk a0 a1 a2 w0 w1 w2 W).mono fun e W' ⟨he, hg⟩ => ?_
  subst he
  exact ⟨_, rfl, Shell.lawPost (by kernel_rfl) rfl (by kernel_rfl) rfl Try.underlying4 hW' rfl hg⟩

/-- The statement. -/
theorem proved : Rows.FloDoesSaid :=
  OpenClaim.holds_of_wide 3 Try.f3 rfl rfl rfl rfl rfl rfl rfl ⟨rfl, rfl, rfl, rfl, rfl⟩ rfl rfl rfl rfl rfl (by kernel_rfl) Try.func3 (by kernel_rfl)
    (of_decide_eq_true (by kernel_rfl)) (by unfold Func.isWrapper; first | (rw [if_pos (by decide +kernel)]; kernel_rfl) | (rw [if_neg (by decide +kernel)]; exact ⟨rfl, rfl⟩))
    (fun os started H enc _ => lifted os started H enc)
end Go.Proofs.Ytdgdkfkdhbnliaa.floDoes
