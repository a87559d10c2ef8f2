/-
  Whatever number of 64 bits, and whatever text there is: its digits, and the number that it is, are the document's; there and back: the statement NumTexts. No condition.
-/
import Derived.Test.YtfoiiliioefgiaaLaw01
import Derived.Test.YtfoiiliioefgiaaRef01T
import Derived.Test.YtfoiiliioefgiaaShell
import Derived.ProofKit
import Derived.OpenShut
namespace Go.Proofs.Ytfoiiliioefgiaa.numTexts
open Go.ChangeShapes Go.WideShapes Go.ChangeAt Go.RowKit
open NumM Mem

theorem chain {a b c : World} (h : Below a.heap.size a b) (h' : Below b.heap.size b c) : Below a.heap.size a c := h.trans (h'.mono h.size)

set_option maxHeartbeats 1000000 in
theorem walk_no (n : Int) (s : ByteArray) (hn : In n) (hs : s.size ≤ maxLen) (hk : getV s.data.toList = (0, false)) (w : World) :
    Calls Try.prog 8 #[.int .i64 n, .string s] w fun e w' => e = .returned (.bool true) ∧ Below w.heap.size w w' := by
  have gd := fun w => get_any ⟨(dec n).toArray⟩ w (by have := (read_dec n hn).2.2; unfold maxLen; show (dec n).toArray.size ≤ _; simp; omega)
  rw [show (⟨(dec n).toArray⟩ : ByteArray).data.toList = dec n from rfl, get_dec n hn] at gd
  have gs := fun w => get_any s w hs
  have rs := fun w => R01.get_any s w hs
  rw [← get_same, hk] at rs
  rw [hk] at gs
  have e1 : (dec n == dec n) = true := by simp
  have e2 : (n == n) = true := by simp
  have Gd := Lib.hid gd
  have Gs := Lib.hid gs
  have Rs := Lib.hid rs
  have Hn := Lib.hid hn
  clear gd gs rs hn hk hs
  go_enter Try.func8, Try.ntmps8
  go_wp2_with fail
  refine (put_any n _ Hn.out).mono ?_; rintro e w1 ⟨rfl, hb1⟩
  go_wp2_with fail
  refine (Gd.out _).mono ?_; rintro e w2 ⟨rfl, hb2⟩
  go_wp2_with fail
  refine (Gs.out _).mono ?_; rintro e w3 ⟨rfl, hb3⟩
  go_wp2_with fail
  refine (Rs.out _).mono ?_; rintro e w4 ⟨rfl, hb4⟩
  go_wp2_with fail
  refine (awake_any _).mono ?_; rintro e w5 ⟨rfl, hb5⟩
  go_wp2_with fail
  refine (R01.put_any n _ Hn.out).mono ?_; rintro e w6 ⟨rfl, hb6⟩
  go_wp2_with fail
  go_ret
  exact ⟨rfl, chain hb1 (chain hb2 (chain hb3 (chain hb4 (chain hb5 hb6))))⟩

set_option maxHeartbeats 1000000 in
theorem walk_yes (n k : Int) (s : ByteArray) (hn : In n) (hs : s.size ≤ maxLen) (hk : getV s.data.toList = (k, true)) (w : World) :
    Calls Try.prog 8 #[.int .i64 n, .string s] w fun e w' => e = .returned (.bool true) ∧ Below w.heap.size w w' := by
  have gd := fun w => get_any ⟨(dec n).toArray⟩ w (by have := (read_dec n hn).2.2; unfold maxLen; show (dec n).toArray.size ≤ _; simp; omega)
  rw [show (⟨(dec n).toArray⟩ : ByteArray).data.toList = dec n from rfl, get_dec n hn] at gd
  have gs := fun w => get_any s w hs
  have rs := fun w => R01.get_any s w hs
  have hback := get_back s.data.toList (by rw [hk])
  rw [hk] at hback
  rw [← get_same, hk] at rs
  rw [hk] at gs
  have e1 : (dec n == dec n) = true := by simp
  have e2 : (n == n) = true := by simp
  have e3 : (k == k) = true := by simp
  have e4 : (dec k == s.toList) = true := by rw [ByteArray.toList_eq]; simpa using hback.2
  have Gd := Lib.hid gd
  have Gs := Lib.hid gs
  have Rs := Lib.hid rs
  have Hn := Lib.hid hn
  have Hk := Lib.hid hback.1
  clear gd gs rs hn hk hs hback
  go_enter Try.func8, Try.ntmps8
  go_wp2_with fail
  refine (put_any n _ Hn.out).mono ?_; rintro e w1 ⟨rfl, hb1⟩
  go_wp2_with fail
  refine (Gd.out _).mono ?_; rintro e w2 ⟨rfl, hb2⟩
  go_wp2_with fail
  refine (Gs.out _).mono ?_; rintro e w3 ⟨rfl, hb3⟩
  go_wp2_with fail
  refine (Rs.out _).mono ?_; rintro e w4 ⟨rfl, hb4⟩
  go_wp2_with fail
  refine (awake_any _).mono ?_; rintro e w5 ⟨rfl, hb5⟩
  go_wp2_with fail
  refine (R01.put_any n _ Hn.out).mono ?_; rintro e w6 ⟨rfl, hb6⟩
  go_wp2_with fail
  refine (put_any _ _ Hk.out).mono ?_; rintro e w7 ⟨rfl, hb7⟩
  go_wp2_with fail
  go_ret
  exact ⟨rfl, chain hb1 (chain hb2 (chain hb3 (chain hb4 (chain hb5 (chain hb6 hb7)))))⟩

theorem walk (n : Int) (s : ByteArray) (hn : (Lit.int .i64 n).wf = true) (hs : s.size ≤ maxLen) (w : World) :
    Calls Try.prog 8 #[.int .i64 n, .string s] w fun e w' => e = .returned (.bool true) ∧ Below w.heap.size w w' := by
  by_cases h : (getV s.data.toList).2 = true
  · exact walk_yes n (getV s.data.toList).1 s (in_of_wf hn) hs (by rw [← h]) w
  · refine walk_no n s (in_of_wf hn) hs ?_ w
    unfold getV at h ⊢
    split
    · rfl
    · rename_i h1
      rw [if_neg h1] at h
      split
      · rename_i h2
        rw [if_pos h2] at h
        exact absurd rfl h
      · rfl

set_option maxRecDepth 100000 in
theorem lifted (os : Os) (started : os.Started) (H : Type) (enc : TypeId × Value → H) :
    ReturnsInHanded {} Try.checked os 8 .any (Rows.numTextsSpec.pre6 enc Try.prog Try.f8 Rows.numTextsRow.domain false) (Rows.numTextsSpec.post enc Try.prog Try.f8 false true false false) := by
  refine returnsInHanded_of_change (C := Try.checked) (by kernel_rfl) started (by kernel_rfl) Try.func8
    (ChangeSpec.witness6 (enc := enc) (C := Try.checked) false ⟨#[], #[.int .i64 0, .string ⟨#[]⟩], []⟩ 8 (by kernel_rfl) (by kernel_rfl) (by kernel_rfl) (by kernel_rfl)) ?_
  intro W base args ds gs before hval0 hW hcnd _
  have hval : ∀ (j : Nat) t v, Try.f8.params[j]? = some t → args[j]? = some v → Value.okWide Try.prog W .any base t v := hval0
  have hW' := hW
  obtain ⟨p, q, hA0, hV, rfl, hfz, hnd⟩ := hW
  have hA : DataW.TrodAll enc Try.prog W 0 (fun _ => true) true Try.f8.params.toList args.toList ds p := hA0
  rw [Try.params8] at hA hval
  obtain ⟨v0, vs0, d0, ds0, p0, q0, hargs, rfl, rfl, h0, r0⟩ := trodAll_cons hA
  obtain ⟨v1, vs1, d1, ds1, p1, q1, rfl, rfl, rfl, h1, r1⟩ := trodAll_cons r0
  obtain ⟨rfl, rfl, rfl⟩ := trodAll_nil r1
  obtain rfl : args = #[v0, v1] := by cases args; simp_all
  obtain ⟨rfl, rfl⟩ := trodVars_none hV
  obtain ⟨a0, rfl, rfl, rfl, w0⟩ := open_int Try.underlying2 (hval 0 2 v0 rfl rfl) h0
  obtain ⟨a1, rfl, rfl, rfl, w1⟩ := Go.ChangeMaps.open_string Try.underlying9 (hval 1 9 v1 rfl rfl) h1
  clear hA0 hval0
  simp only [List.append_nil] at hW'
  refine (walk a0 a1 w0 w1 W).mono fun e W' ⟨he, hg⟩ => ?_
  subst he
  exact ⟨_, rfl, Shell.lawPost (by kernel_rfl) rfl (by kernel_rfl) rfl Try.underlying4 hW' rfl hg⟩

/-- The statement. -/
theorem proved : Rows.NumTextsSaid :=
  OpenClaim.holds_of_wide 8 Try.f8 rfl rfl rfl rfl rfl rfl rfl ⟨rfl, rfl, rfl, rfl, rfl⟩ rfl rfl rfl rfl rfl (by kernel_rfl) Try.func8 (by kernel_rfl)
    (of_decide_eq_true (by kernel_rfl)) (by unfold Func.isWrapper; first | (rw [if_pos (by decide +kernel)]; kernel_rfl) | (rw [if_neg (by decide +kernel)]; exact ⟨rfl, rfl⟩))
    (fun os started H enc _ => lifted os started H enc)
end Go.Proofs.Ytfoiiliioefgiaa.numTexts
