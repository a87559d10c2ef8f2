/-
  Sums and products of two floats don't hang on their order; what is added to -0, taken away 0 from, multiplied by one or divided by it stays, whatever it is: the statement FloSame. No condition.
-/
import Derived.Test.YtdgdkfkdhbnliaaLaw02
import Derived.Test.YtdgdkfkdhbnliaaFloExact
import Derived.Test.YtdgdkfkdhbnliaaFloHex
import Derived.Test.YtdgdkfkdhbnliaaShell
import Derived.ProofKit
import Derived.OpenShut
namespace Go.Proofs.Ytdgdkfkdhbnliaa.floSame
open Go.ChangeShapes Go.WideShapes Go.ChangeAt Go.RowKit
open NumM FloM Mem

theorem grow {w x y : World} (h : Below w.heap.size w x) (k : Below x.heap.size x y) : Below w.heap.size w y := h.trans (k.mono h.size)

theorem keeps (a : Int) (ha : In a) (o : Option Nat) (h1 : nn (ub a) → o = none) (h2 : ¬ nn (ub a) → o = some (fl a)) : fr o = plainV a := by
  by_cases h : nn (ub a)
  · rw [h1 h, plain_nan h]; rfl
  · rw [h2 h]; exact fl_wrap a ha
theorem nn_fl {a : Int} (h : nn (ub a)) : nn (fl a) := by rw [fl_nan h]; exact nn_nan
theorem num_fl {a : Int} (h : ¬ nn (ub a)) : ¬ nn (fl a) := by rw [fl_num h]; exact h
theorem k15 (a : Int) (ha : In a) : fdo 15 a (-9223372036854775808) = plainV a :=
  keeps a ha (Ieee.double.add (fl a) 9223372036854775808) (fun h => add_nanl (nn_fl h)) (fun h => add_z1 _ (fl_lt a) (num_fl h))
theorem k16 (a : Int) (ha : In a) : fdo 16 a 0 = plainV a :=
  keeps a ha (Ieee.double.sub (fl a) 0) (fun h => sub_nanl (nn_fl h)) (fun h => sub_z0 _ (fl_lt a) (num_fl h))
theorem k17 (a : Int) (ha : In a) : fdo 17 a 4607182418800017408 = plainV a :=
  keeps a ha (Ieee.double.mul (fl a) 4607182418800017408) (fun h => mul_nanl (nn_fl h)) (fun h => mul_one' _ (fl_lt a) (num_fl h))
theorem k18 (a : Int) (ha : In a) : fdo 18 a 4607182418800017408 = plainV a :=
  keeps a ha (Ieee.double.div (fl a) 4607182418800017408) (fun h => div_nanl (nn_fl h)) (fun h => div_one' _ (fl_lt a) (num_fl h))
theorem s15 (a b : Int) : fdo 15 b a = fdo 15 a b := by
  show fr (Ieee.double.add (fl b) (fl a)) = fr (Ieee.double.add (fl a) (fl b))
  rw [add_comm']
theorem s17 (a b : Int) : fdo 17 b a = fdo 17 a b := by
  show fr (Ieee.double.mul (fl b) (fl a)) = fr (Ieee.double.mul (fl a) (fl b))
  rw [mul_comm']

set_option maxHeartbeats 2000000 in
theorem walk (a b : Int) (ha : (Lit.int .i64 a).wf = true) (_ : (Lit.int .i64 b).wf = true) (w : World) :
    Calls Try.prog 7 #[.int .i64 a, .int .i64 b] w fun e w' => e = .returned (.bool true) ∧ Below w.heap.size w w' := by
  have hin := in_of_wf ha
  have H2 := Lib.hid (s15 a b)
  have H4 := Lib.hid (s17 a b)
  have H5 := Lib.hid (k15 a hin)
  have H6 := Lib.hid (k16 a hin)
  have H7 := Lib.hid (k17 a hin)
  have H8 := Lib.hid (k18 a hin)
  clear ha hin
  have hacc := Below.refl w.heap.size w
  go_enter Try.func7, Try.ntmps7
  go_wp2_with (first | (go_at_call 24; (with_reducible refine (do1_any 15 a b _).mono ?_); rintro e w' ⟨rfl, hb⟩; replace hacc := grow hacc hb; clear hb) | (go_at_call 24; (with_reducible refine (do1_at 15 b a _ H2.out _).mono ?_); rintro e w' ⟨rfl, hb⟩; replace hacc := grow hacc hb; clear hb) | (go_at_call 24; (with_reducible refine (do1_any 17 a b _).mono ?_); rintro e w' ⟨rfl, hb⟩; replace hacc := grow hacc hb; clear hb) | (go_at_call 24; (with_reducible refine (do1_at 17 b a _ H4.out _).mono ?_); rintro e w' ⟨rfl, hb⟩; replace hacc := grow hacc hb; clear hb) | (go_at_call 24; (with_reducible refine (do1_at 15 a (-9223372036854775808) _ H5.out _).mono ?_); rintro e w' ⟨rfl, hb⟩; replace hacc := grow hacc hb; clear hb) | (go_at_call 24; (with_reducible refine (do1_at 16 a 0 _ H6.out _).mono ?_); rintro e w' ⟨rfl, hb⟩; replace hacc := grow hacc hb; clear hb) | (go_at_call 24; (with_reducible refine (do1_at 17 a 4607182418800017408 _ H7.out _).mono ?_); rintro e w' ⟨rfl, hb⟩; replace hacc := grow hacc hb; clear hb) | (go_at_call 24; (with_reducible refine (do1_at 18 a 4607182418800017408 _ H8.out _).mono ?_); rintro e w' ⟨rfl, hb⟩; replace hacc := grow hacc hb; clear hb) | (go_at_call 14; (with_reducible refine (plain_any a _).mono ?_); rintro e w' ⟨rfl, rfl⟩) | (go_at_call 12; (with_reducible refine (awake_any _).mono ?_); rintro e w' ⟨rfl, hb⟩; replace hacc := grow hacc hb; clear hb))
  go_ret
  exact ⟨rfl, hacc⟩

set_option maxRecDepth 100000 in
theorem lifted (os : Os) (started : os.Started) (H : Type) (enc : TypeId × Value → H) :
    ReturnsInHanded {} Try.checked os 7 .any (Rows.floSameSpec.pre6 enc Try.prog Try.f7 Rows.floSameRow.domain false) (Rows.floSameSpec.post enc Try.prog Try.f7 false true false false) := by
  refine returnsInHanded_of_change (C := Try.checked) (by kernel_rfl) started (by kernel_rfl) Try.func7
    (ChangeSpec.witness6 (enc := enc) (C := Try.checked) false ⟨#[], #[.int .i64 0, .int .i64 0], []⟩ 8 (by kernel_rfl) (by kernel_rfl) (by kernel_rfl) (by kernel_rfl)) ?_
  intro W base args ds gs before hval0 hW hcnd _
  have hval : ∀ (j : Nat) t v, Try.f7.params[j]? = some t → args[j]? = some v → Value.okWide Try.prog W .any base t v := hval0
  have hW' := hW
  obtain ⟨p, q, hA0, hV, rfl, hfz, hnd⟩ := hW
  have hA : DataW.TrodAll enc Try.prog W 0 (fun _ => true) true Try.f7.params.toList args.toList ds p := hA0
  rw [Try.params7] at hA hval
  obtain ⟨v0, vs0, d0, ds0, p0, q0, hargs, rfl, rfl, h0, r0⟩ := trodAll_cons hA
  obtain ⟨v1, vs1, d1, ds1, p1, q1, rfl, rfl, rfl, h1, r1⟩ := trodAll_cons r0
  obtain ⟨rfl, rfl, rfl⟩ := trodAll_nil r1
  obtain rfl : args = #[v0, v1] := by cases args; simp_all
  obtain ⟨rfl, rfl⟩ := trodVars_none hV
  obtain ⟨a0, rfl, rfl, rfl, w0⟩ := open_int Try.underlying2 (hval 0 2 v0 rfl rfl) h0
  obtain ⟨a1, rfl, rfl, rfl, w1⟩ := open_int Try.underlying2 (hval 1 2 v1 rfl rfl) h1
  clear hA0 hval0
  simp only [List.append_nil] at hW'
  refine (walk a0 a1 w0 w1 W).mono fun e W' ⟨he, hg⟩ => ?_
  subst he
  exact ⟨_, rfl, Shell.lawPost (by kernel_rfl) rfl (by kernel_rfl) rfl Try.underlying4 hW' rfl hg⟩

/-- The statement. -/
theorem proved : Rows.FloSameSaid :=
  OpenClaim.holds_of_wide 7 Try.f7 rfl rfl rfl rfl rfl rfl rfl ⟨rfl, rfl, rfl, rfl, rfl⟩ rfl rfl rfl rfl rfl (by kernel_rfl) Try.func7 (by kernel_rfl)
    (of_decide_eq_true (by kernel_rfl)) (by unfold Func.isWrapper; first | (rw [if_pos (by decide +kernel)]; kernel_rfl) | (rw [if_neg (by decide +kernel)]; exact ⟨rfl, rfl⟩))
    (fun os started H enc _ => lifted os started H enc)
end Go.Proofs.Ytdgdkfkdhbnliaa.floSame
