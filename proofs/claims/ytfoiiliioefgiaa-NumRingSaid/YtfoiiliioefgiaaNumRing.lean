/-
  Sums and products of any three numbers of 64 bits do not hang on their order, and a difference is a sum turned round: the statement NumRing. No condition.
-/
import Derived.Test.YtfoiiliioefgiaaLaw01
import Derived.Test.YtfoiiliioefgiaaShell
import Derived.ProofKit
import Derived.OpenShut
namespace Go.Proofs.Ytfoiiliioefgiaa.numRing
open Go.ChangeShapes Go.WideShapes Go.ChangeAt Go.RowKit
open NumM Mem

theorem sum (a b c : Int) : doV 1 (doV 1 a b) c = doV 1 a (doV 1 c b) := by
  simp only [v1, wrap_addl, wrap_addr]; congr 1; omega
theorem product (a b c : Int) : doV 3 (doV 3 a b) c = doV 3 a (doV 3 c b) := by
  simp only [v3, wrap_mull, wrap_mulr]; congr 1; rw [Int.mul_assoc, Int.mul_comm b c]
theorem spread (a b c : Int) : doV 3 a (doV 1 b c) = doV 1 (doV 3 a b) (doV 3 a c) := by
  simp only [v1, v3, wrap_mulr, wrap_addl, wrap_addr, Int.mul_add]
theorem back (a b : Int) (h : In a) : doV 1 (doV 2 a b) b = a := by
  simp only [v1, v2, wrap_addl]; rw [show a - b + b = a from by omega, wrap_in h]

set_option maxHeartbeats 400000 in
theorem walk (a b c : Int) (ha : (Lit.int .i64 a).wf = true) (_ : (Lit.int .i64 b).wf = true) (_ : (Lit.int .i64 c).wf = true) (w : World) :
    Calls Try.prog 5 #[.int .i64 a, .int .i64 b, .int .i64 c] w fun e w' => e = .returned (.bool true) ∧ Below w.heap.size w w' := by
  have e1 : (doV 1 (doV 1 a b) c == doV 1 a (doV 1 c b)) = true := by rw [sum]; simp
  have e2 : (doV 3 (doV 3 a b) c == doV 3 a (doV 3 c b)) = true := by rw [product]; simp
  have e3 : (doV 3 a (doV 1 b c) == doV 1 (doV 3 a b) (doV 3 a c)) = true := by rw [spread]; simp
  have e4 : (doV 1 (doV 2 a b) b == a) = true := by rw [back a b (in_of_wf ha)]; simp
  clear ha
  go_enter Try.func5, Try.ntmps5
  go_wp2_with (first | (go_at_call 13; refine (do1_any _ _ _ _).mono ?_; rintro e w' ⟨rfl, rfl⟩) | (go_at_call 11; refine (awake_any _).mono ?_; rintro e w' ⟨rfl, hb⟩))
  go_ret
  exact ⟨rfl, hb⟩

set_option maxRecDepth 100000 in
theorem lifted (os : Os) (started : os.Started) (H : Type) (enc : TypeId × Value → H) :
    ReturnsInHanded {} Try.checked os 5 .any (Rows.numRingSpec.pre6 enc Try.prog Try.f5 Rows.numRingRow.domain false) (Rows.numRingSpec.post enc Try.prog Try.f5 false true false false) := by
  refine returnsInHanded_of_change (C := Try.checked) (by kernel_rfl) started (by kernel_rfl) Try.func5
    (ChangeSpec.witness6 (enc := enc) (C := Try.checked) false ⟨#[], #[.int .i64 0, .int .i64 0, .int .i64 0], []⟩ 8 (by kernel_rfl) (by kernel_rfl) (by kernel_rfl) (by kernel_rfl)) ?_
  intro W base args ds gs before hval0 hW hcnd _
  have hval : ∀ (j : Nat) t v, Try.f5.params[j]? = some t → args[j]? = some v → Value.okWide Try.prog W .any base t v := hval0
  have hW' := hW
  obtain ⟨p, q, hA0, hV, rfl, hfz, hnd⟩ := hW
  have hA : DataW.TrodAll enc Try.prog W 0 (fun _ => true) true Try.f5.params.toList args.toList ds p := hA0
  rw [Try.params5] at hA hval
  obtain ⟨v0, vs0, d0, ds0, p0, q0, hargs, rfl, rfl, h0, r0⟩ := trodAll_cons hA
  obtain ⟨v1, vs1, d1, ds1, p1, q1, rfl, rfl, rfl, h1, r1⟩ := trodAll_cons r0
  obtain ⟨v2, vs2, d2, ds2, p2, q2, rfl, rfl, rfl, h2, r2⟩ := trodAll_cons r1
  obtain ⟨rfl, rfl, rfl⟩ := trodAll_nil r2
  obtain rfl : args = #[v0, v1, v2] := by cases args; simp_all
  obtain ⟨rfl, rfl⟩ := trodVars_none hV
  obtain ⟨a0, rfl, rfl, rfl, w0⟩ := open_int Try.underlying2 (hval 0 2 v0 rfl rfl) h0
  obtain ⟨a1, rfl, rfl, rfl, w1⟩ := open_int Try.underlying2 (hval 1 2 v1 rfl rfl) h1
  obtain ⟨a2, rfl, rfl, rfl, w2⟩ := open_int Try.underlying2 (hval 2 2 v2 rfl rfl) h2
  clear hA0 hval0
  simp only [List.append_nil] at hW'
  refine (walk a0 a1 a2 w0 w1 w2 W).mono fun e W' ⟨he, hg⟩ => ?_
  subst he
  exact ⟨_, rfl, Shell.lawPost (by kernel_rfl) rfl (by kernel_rfl) rfl Try.underlying4 hW' rfl hg⟩

/-- The statement. -/
theorem proved : Rows.NumRingSaid :=
  OpenClaim.holds_of_wide 5 Try.f5 rfl rfl rfl rfl rfl rfl rfl ⟨rfl, rfl, rfl, rfl, rfl⟩ rfl rfl rfl rfl rfl (by kernel_rfl) Try.func5 (by kernel_rfl)
    (of_decide_eq_true (by kernel_rfl)) (by unfold Func.isWrapper; first | (rw [if_pos (by decide +kernel)]; kernel_rfl) | (rw [if_neg (by decide +kernel)]; exact ⟨rfl, rfl⟩))
    (fun os started H enc _ => lifted os started H enc)
end Go.Proofs.Ytfoiiliioefgiaa.numRing
