/-
  Of any two numbers of 64 bits: what both have and what just one has makes what some has; shifting is by six bits, doubles, and halves towards below: the statement NumBits. No condition.
-/
import Derived.Test.YtfoiiliioefgiaaLaw01
import Derived.Test.YtfoiiliioefgiaaShell
import Derived.ProofKit
import Derived.OpenShut
namespace Go.Proofs.Ytfoiiliioefgiaa.numBits
open Go.ChangeShapes Go.WideShapes Go.ChangeAt Go.RowKit
open NumM Mem

theorem ofInt_wrap (n : Int) : BitVec.ofInt 64 (wrap64 n) = BitVec.ofInt 64 n := by
  apply BitVec.eq_of_toNat_eq
  rw [BitVec.toNat_ofInt, BitVec.toNat_ofInt, w64]
  omega
theorem ofInt_nat (A : BitVec 64) : BitVec.ofInt 64 (A.toNat : Int) = A := by
  apply BitVec.eq_of_toNat_eq
  rw [BitVec.toNat_ofInt]
  have := A.isLt
  omega
theorem andxor (x y : BitVec 64) : (x &&& y) &&& (x ^^^ y) = 0#64 := by
  ext i hi
  simp only [BitVec.getElem_and, BitVec.getElem_xor, BitVec.getElem_zero]
  cases x[i] <;> cases y[i] <;> rfl
theorem orof (x y : BitVec 64) : (x &&& y) ||| (x ^^^ y) = x ||| y := by
  ext i hi
  simp only [BitVec.getElem_and, BitVec.getElem_xor, BitVec.getElem_or]
  cases x[i] <;> cases y[i] <;> rfl
theorem sumor (x y : BitVec 64) : (x &&& y) + (x ^^^ y) = x ||| y := by
  rw [BitVec.add_eq_or_of_and_eq_zero _ _ (andxor x y), orof]

theorem b1 (a b : Int) : doV 1 (doV 6 a b) (doV 8 a b) = doV 7 a b := by
  rw [v1, v6, v7, v8, bits_and_i64, bits_or_i64, bits_xor_i64, wi64, wi64, wi64, wrap_addl, wrap_addr, ← sumor, BitVec.toNat_add]
  rw [w64, w64]
  omega
theorem b2 (a b : Int) : doV 6 (doV 6 a b) (doV 8 a b) = 0 := by
  rw [v6, v6, v8, bits_and_i64, bits_and_i64, bits_xor_i64, wi64, wi64, wi64, ofInt_wrap, ofInt_wrap, ofInt_nat, ofInt_nat, andxor]
  rw [show ((0#64).toNat : Int) = 0 from rfl, w64]; omega
theorem b3 (a : Int) : doV 9 a 1 = doV 1 a a := by
  rw [v9, v1]; congr 1; rw [show ((1 : Int) % 64).toNat = 1 from rfl]; omega
theorem low (b : Int) : doV 6 b 63 = b % 64 := by
  rw [v6, bits_and_i64, wi64, BitVec.toNat_and, BitVec.toNat_ofInt, BitVec.toNat_ofInt]
  rw [show (63 % ((2 ^ 64 : Nat) : Int)).toNat = 2 ^ 6 - 1 from by decide, Nat.and_two_pow_sub_one_eq_mod, w64]
  omega
theorem b4 (a b : Int) : doV 10 a b = doV 10 a (doV 6 b 63) := by
  rw [low, v10, v10]; congr 2; omega
theorem b5 (a : Int) (h : In a) : doV 2 a (doV 1 (doV 10 a 1) (doV 10 a 1)) = 0 ∨ doV 2 a (doV 1 (doV 10 a 1) (doV 10 a 1)) = 1 := by
  rw [v1, v2, v10, wrap_subr, show ((1 : Int) % 64).toNat = 1 from rfl, w64]
  obtain ⟨h1, h2⟩ := h
  omega

set_option maxHeartbeats 1000000 in
theorem walk (a b : Int) (ha : (Lit.int .i64 a).wf = true) (_ : (Lit.int .i64 b).wf = true) (w : World) :
    Calls Try.prog 6 #[.int .i64 a, .int .i64 b] w fun e w' => e = .returned (.bool true) ∧ Below w.heap.size w w' := by
  have e1 : (doV 1 (doV 6 a b) (doV 8 a b) != doV 7 a b) = false := by rw [b1]; simp
  have e2 : (doV 6 (doV 6 a b) (doV 8 a b) != 0) = false := by rw [b2]; rfl
  have e3 : (doV 9 a 1 != doV 1 a a) = false := by rw [b3]; simp
  have e4 : (doV 10 a b == doV 10 a (doV 6 b 63)) = true := by rw [← b4]; simp
  have h5 := b5 a (in_of_wf ha)
  clear ha
  rcases h5 with h5 | h5
  · have e5 : (doV 2 a (doV 1 (doV 10 a 1) (doV 10 a 1)) == 0) = true := by rw [h5]; rfl
    clear h5
    go_enter Try.func6, Try.ntmps6
    go_wp2_with (first | (go_at_call 13; refine (do1_any _ _ _ _).mono ?_; rintro e w' ⟨rfl, rfl⟩) | (go_at_call 11; refine (awake_any _).mono ?_; rintro e w' ⟨rfl, hb⟩))
    go_ret
    exact ⟨rfl, hb⟩
  · have e5 : (doV 2 a (doV 1 (doV 10 a 1) (doV 10 a 1)) == 0) = false := by rw [h5]; rfl
    have e6 : (doV 2 a (doV 1 (doV 10 a 1) (doV 10 a 1)) == 1) = true := by rw [h5]; rfl
    clear h5
    go_enter Try.func6, Try.ntmps6
    go_wp2_with (first | (go_at_call 13; refine (do1_any _ _ _ _).mono ?_; rintro e w' ⟨rfl, rfl⟩) | (go_at_call 11; refine (awake_any _).mono ?_; rintro e w' ⟨rfl, hb⟩))
    go_ret
    exact ⟨rfl, hb⟩

set_option maxRecDepth 100000 in
theorem lifted (os : Os) (started : os.Started) (H : Type) (enc : TypeId × Value → H) :
    ReturnsInHanded {} Try.checked os 6 .any (Rows.numBitsSpec.pre6 enc Try.prog Try.f6 Rows.numBitsRow.domain false) (Rows.numBitsSpec.post enc Try.prog Try.f6 false true false false) := by
  refine returnsInHanded_of_change (C := Try.checked) (by kernel_rfl) started (by kernel_rfl) Try.func6
    (ChangeSpec.witness6 (enc := enc) (C := Try.checked) false ⟨#[], #[.int .i64 0, .int .i64 0], []⟩ 8 (by kernel_rfl) (by kernel_rfl) (by kernel_rfl) (by kernel_rfl)) ?_
  intro W base args ds gs before hval0 hW hcnd _
  have hval : ∀ (j : Nat) t v, Try.f6.params[j]? = some t → args[j]? = some v → Value.okWide Try.prog W .any base t v := hval0
  have hW' := hW
  obtain ⟨p, q, hA0, hV, rfl, hfz, hnd⟩ := hW
  have hA : DataW.TrodAll enc Try.prog W 0 (fun _ => true) true Try.f6.params.toList args.toList ds p := hA0
  rw [Try.params6] at hA hval
  obtain ⟨v0, vs0, d0, ds0, p0, q0, hargs, rfl, rfl, h0, r0⟩ := trodAll_cons hA
  obtain ⟨v1, vs1, d1, ds1, p1, q1, rfl, rfl, rfl, h1, r1⟩ := trodAll_cons r0
  obtain ⟨rfl, rfl, rfl⟩ := trodAll_nil r1
  obtain rfl : args = #[v0, v1] := by cases args; simp_all
  obtain ⟨rfl, rfl⟩ := trodVars_none hV
  obtain ⟨a0, rfl, rfl, rfl, w0⟩ := open_int Try.underlying2 (hval 0 2 v0 rfl rfl) h0
  obtain ⟨a1, rfl, rfl, rfl, w1⟩ := open_int Try.underlying2 (hval 1 2 v1 rfl rfl) h1
  clear hA0 hval0
  simp only [List.append_nil] at hW'
  refine (walk a0 a1 w0 w1 W).mono fun e W' ⟨he, hg⟩ => ?_
  subst he
  exact ⟨_, rfl, Shell.lawPost (by kernel_rfl) rfl (by kernel_rfl) rfl Try.underlying4 hW' rfl hg⟩

/-- The statement. -/
theorem proved : Rows.NumBitsSaid :=
  OpenClaim.holds_of_wide 6 Try.f6 rfl rfl rfl rfl rfl rfl rfl ⟨rfl, rfl, rfl, rfl, rfl⟩ rfl rfl rfl rfl rfl (by kernel_rfl) Try.func6 (by kernel_rfl)
    (of_decide_eq_true (by kernel_rfl)) (by unfold Func.isWrapper; first | (rw [if_pos (by decide +kernel)]; kernel_rfl) | (rw [if_neg (by decide +kernel)]; exact ⟨rfl, rfl⟩))
    (fun os started H enc _ => lifted os started H enc)
end Go.Proofs.Ytfoiiliioefgiaa.numBits
