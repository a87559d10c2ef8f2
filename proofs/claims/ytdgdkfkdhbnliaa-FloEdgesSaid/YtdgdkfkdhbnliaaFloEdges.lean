/-
  What isn't a number makes nothing but what isn't a number, is equal to nothing, and is told by one row of bits alone, whatever its own bits are: the statement FloEdges. No condition.
-/
import Derived.Test.YtdgdkfkdhbnliaaLaw02
import Derived.Test.YtdgdkfkdhbnliaaShell
import Derived.ProofKit
import Derived.OpenShut
namespace Go.Proofs.Ytdgdkfkdhbnliaa.floEdges
open Go.ChangeShapes Go.WideShapes Go.ChangeAt Go.RowKit
open NumM FloM Mem

theorem nan_eq {n : Int} (h : nn (ub n)) : plainV n = 9221120237041090560 := plain_nan h
theorem nan_ne {n : Int} (h : ¬ nn (ub n)) : ¬ plainV n = 9221120237041090560 := by
  rw [plain_num h]
  rintro rfl
  exact h (by decide)

theorem tr_plain (x : Bool) : plainV (tr x) = tr x := by cases x <;> rfl
/-- what is answered is told as itself. -/
theorem do_plain (op a b : Int) : plainV (fdo op a b) = fdo op a b := by
  unfold fdo
  split
  · exact plain_fr _ fun _ h => add_num h
  split
  · exact plain_fr _ fun _ h => sub_num h
  split
  · exact plain_fr _ fun _ h => mul_num h
  split
  · exact plain_fr _ fun _ h => div_num h
  split
  · exact tr_plain _
  split
  · exact tr_plain _
  split
  · exact tr_plain _
  · rfl
theorem do_told (op a b : Int) : fdo op (plainV a) (plainV b) = fdo op a b := by
  unfold fdo; rw [fl_plain, fl_plain]

/-- what NaN makes. -/
theorem do_nan (op a b : Int) (h : nn (ub a) ∨ nn (ub b)) (hop : 15 ≤ op ∧ op ≤ 21) : fdo op a b = if op ≤ 18 then 9221120237041090560 else 0 := by
  have hx : nn (fl a) ∨ nn (fl b) := by
    rcases h with h | h
    · left; rw [fl_nan h]; exact nn_nan
    · right; rw [fl_nan h]; exact nn_nan
  have e1 : Ieee.double.add (fl a) (fl b) = none := hx.elim add_nanl add_nanr
  have e2 : Ieee.double.sub (fl a) (fl b) = none := hx.elim sub_nanl sub_nanr
  have e3 : Ieee.double.mul (fl a) (fl b) = none := hx.elim mul_nanl mul_nanr
  have e4 : Ieee.double.div (fl a) (fl b) = none := hx.elim div_nanl div_nanr
  have e5 : Ieee.double.order (fl a) (fl b) = none := hx.elim order_nanl order_nanr
  have hc : op = 15 ∨ op = 16 ∨ op = 17 ∨ op = 18 ∨ op = 19 ∨ op = 20 ∨ op = 21 := by omega
  unfold fdo
  rw [e1, e2, e3, e4, e5]
  rcases hc with rfl | rfl | rfl | rfl | rfl | rfl | rfl <;> rfl

set_option maxHeartbeats 2000000 in
theorem walk (op a b : Int) (_ : (Lit.int .i64 op).wf = true) (_ : (Lit.int .i64 a).wf = true) (_ : (Lit.int .i64 b).wf = true) (w : World) :
    Calls Try.prog 6 #[.int .i64 op, .int .i64 a, .int .i64 b] w fun e w' => e = .returned (.bool true) ∧ Below w.heap.size w w' := by
  have hv : ∃ n k, fdo op a b = n ∧ fok op = k ∧ (plainV n != n) = false ∧ (k = false ∨ (k = true ∧ (plainV a != 9221120237041090560) = true ∧ (plainV b != 9221120237041090560) = true) ∨
      (k = true ∧ ((plainV a != 9221120237041090560) = false ∨ ((plainV a != 9221120237041090560) = true ∧ (plainV b != 9221120237041090560) = false)) ∧ (decide (op ≤ 18) = true ∧ (n == 9221120237041090560) = true ∨ decide (op ≤ 18) = false ∧ (n == 0) = true))) := by
    refine ⟨_, _, rfl, rfl, by rw [do_plain]; simp, ?_⟩
    by_cases hk : 15 ≤ op ∧ op ≤ 21
    · right
      have hk1 : fok op = true := by unfold fok; simp [hk]
      by_cases hn : nn (ub a) ∨ nn (ub b)
      · right
        refine ⟨hk1, ?_, ?_⟩
        · by_cases ha : nn (ub a)
          · left; rw [nan_eq ha]; rfl
          · right; exact ⟨by simpa using nan_ne ha, by rw [nan_eq (hn.resolve_left ha)]; rfl⟩
        · rw [do_nan op a b hn hk]
          by_cases h18 : op ≤ 18
          · left; simp [h18]
          · right; simp [h18]
      · left
        exact ⟨hk1, by simpa using nan_ne fun h => hn (.inl h), by simpa using nan_ne fun h => hn (.inr h)⟩
    · left; unfold fok; simp; omega
  obtain ⟨n, k, hn, hk, h1, hcase⟩ := hv
  have h2 : (plainV (plainV a) != plainV a) = false := by rw [plain_plain]; simp
  have Hdo : Hid (∀ w, Calls Try.prog 10 #[.int .i64 op, .int .i64 a, .int .i64 b] w fun e w' => e = .returned (.tuple #[.int .i64 n, .bool k]) ∧ Below w.heap.size w w') := by
    rw [← hn, ← hk]; exact Lib.hid fun w => fdo_any op a b w
  have Hdp : Hid (∀ w, Calls Try.prog 24 #[.int .i64 op, .int .i64 (plainV a), .int .i64 (plainV b)] w fun e w' => e = .returned (.int .i64 n) ∧ Below w.heap.size w w') :=
    Lib.hid fun w => do1_at op (plainV a) (plainV b) n (by rw [do_told, hn]) w
  clear hn hk
  rcases hcase with rfl | ⟨rfl, p1, p2⟩ | ⟨rfl, p1 | ⟨p1, p2⟩, ⟨q1, q2⟩ | ⟨q1, q2⟩⟩
  all_goals
    go_enter Try.func6, Try.ntmps6
    go_wp2_with (first | (go_at_call 10; (with_reducible refine (Hdo.out _).mono ?_); rintro e w' ⟨rfl, hb1⟩) | (go_at_call 24; (with_reducible refine (Hdp.out _).mono ?_); rintro e w' ⟨rfl, hb3⟩) | (go_at_call 14; (with_reducible refine (plain_any n _).mono ?_); rintro e w' ⟨rfl, rfl⟩) | (go_at_call 14; (with_reducible refine (plain_any a _).mono ?_); rintro e w' ⟨rfl, rfl⟩) | (go_at_call 14; (with_reducible refine (plain_any b _).mono ?_); rintro e w' ⟨rfl, rfl⟩) | (go_at_call 14; (with_reducible refine (plain_any (plainV a) _).mono ?_); rintro e w' ⟨rfl, rfl⟩) | (go_at_call 12; (with_reducible refine (awake_any _).mono ?_); rintro e w' ⟨rfl, hb2⟩))
    go_ret
    exact ⟨rfl, (hb1.trans (hb2.mono hb1.size)).trans (hb3.mono (Nat.le_trans hb1.size hb2.size))⟩

set_option maxRecDepth 100000 in
theorem lifted (os : Os) (started : os.Started) (H : Type) (enc : TypeId × Value → H) :
    ReturnsInHanded {} Try.checked os 6 .any (Rows.floEdgesSpec.pre6 enc Try.prog Try.f6 Rows.floEdgesRow.domain false) (Rows.floEdgesSpec.post enc Try.prog Try.f6 false true false false) := by
  refine returnsInHanded_of_change (C := Try.checked) (by kernel_rfl) started (by kernel_rfl) Try.func6
    (ChangeSpec.witness6 (enc := enc) (C := Try.checked) false ⟨#[], #[.int .i64 0, .int .i64 0, .int .i64 0], []⟩ 8 (by kernel_rfl) (by kernel_rfl) (by kernel_rfl) (by kernel_rfl)) ?_
  intro W base args ds gs before hval0 hW hcnd _
  have hval : ∀ (j : Nat) t v, Try.f6.params[j]? = some t → args[j]? = some v → Value.okWide Try.prog W .any base t v := hval0
  have hW' := hW
  obtain ⟨p, q, hA0, hV, rfl, hfz, hnd⟩ := hW
  have hA : DataW.TrodAll enc Try.prog W 0 (fun _ => true) true Try.f6.params.toList args.toList ds p := hA0
  rw [Try.params6] at hA hval
  obtain ⟨v0, vs0, d0, ds0, p0, q0, hargs, rfl, rfl, h0, r0⟩ := trodAll_cons hA
  obtain ⟨v1, vs1, d1, ds1, p1, q1, rfl, rfl, rfl, h1, r1⟩ := trodAll_cons r0
  obtain ⟨v2, vs2, d2, ds2, p2, q2, rfl, rfl, rfl, h2, r2⟩ := trodAll_cons r1
  obtain ⟨rfl, rfl, rfl⟩ := trodAll_nil r2
  obtain rfl : args = #[v0, v1, v2] := by cases args; simp_all
  obtain ⟨rfl, rfl⟩ := trodVars_none hV
  obtain ⟨a0, rfl, rfl, rfl, w0⟩ := open_int Try.underlying3 (hval 0 3 v0 rfl rfl) h0
  obtain ⟨a1, rfl, rfl, rfl, w1⟩ := open_int Try.underlying2 (hval 1 2 v1 rfl rfl) h1
  obtain ⟨a2, rfl, rfl, rfl, w2⟩ := open_int Try.underlying2 (hval 2 2 v2 rfl rfl) h2
  clear hA0 hval0
  simp only [List.append_nil] at hW'
  refine (walk a0 a1 a2 w0 w1 w2 W).mono fun e W' ⟨he, hg⟩ => ?_
  subst he
  exact ⟨_, rfl, Shell.lawPost (by kernel_rfl) rfl (by kernel_rfl) rfl Try.underlying4 hW' rfl hg⟩

/-- The statement. -/
theorem proved : Rows.FloEdgesSaid :=
  OpenClaim.holds_of_wide 6 Try.f6 rfl rfl rfl rfl rfl rfl rfl ⟨rfl, rfl, rfl, rfl, rfl⟩ rfl rfl rfl rfl rfl (by kernel_rfl) Try.func6 (by kernel_rfl)
    (of_decide_eq_true (by kernel_rfl)) (by unfold Func.isWrapper; first | (rw [if_pos (by decide +kernel)]; kernel_rfl) | (rw [if_neg (by decide +kernel)]; exact ⟨rfl, rfl⟩))
    (fun os started H enc _ => lifted os started H enc)
end Go.Proofs.Ytdgdkfkdhbnliaa.floEdges
