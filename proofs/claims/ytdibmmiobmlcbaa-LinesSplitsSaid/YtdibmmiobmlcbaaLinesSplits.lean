/-
  Whatever text there is: its lines, or the first one that cannot be, are told as the document tells them: the statement LinesSplits. No condition.
-/
import Derived.Test.YtdibmmiobmlcbaaLaw04
import Derived.Test.YtdibmmiobmlcbaaRef04
import Derived.Test.YtdibmmiobmlcbaaShell
import Derived.ProofKit
import Derived.OpenShut
namespace Go.Proofs.Ytdibmmiobmlcbaa.linesSplits
open Go.ChangeShapes Go.WideShapes Go.ChangeAt Go.RowKit
open LinesM Mem
theorem rsplit_at (s : ByteArray) (out : List Ln) (n y : Nat) (h : splitV s.data.toList = (out, n, y)) (hs : s.size ≤ maxLen) (w : World) :
    Calls Try.prog 10 #[.string s] w fun e w' => ∃ v xs, e = .returned (.tuple #[v, .int .i64 (n : Int), .int .i64 (y : Int)]) ∧ xs.map line = lns out ∧ xs.length ≤ 4194306 ∧ OwnLins 41 9 w.heap.size w'.heap.size w' v xs ∧ Below w.heap.size w w' := by
  have := R04.split_any s w hs
  rw [h] at this
  exact this

set_option maxHeartbeats 4000000 in
theorem walk (s : ByteArray) (hs : s.size ≤ maxLen) (w : World) :
    Calls Try.prog 3 #[.string s] w fun e w' => e = .returned (.bool true) ∧ Below w.heap.size w w' := by
  obtain ⟨⟨out, n, y⟩, hr⟩ : ∃ r, splitV s.data.toList = r := ⟨_, rfl⟩
  have Q1 := Lib.hid fun w => split_at s out n y n y rfl rfl hr hs w
  have Q2 := Lib.hid fun w => rsplit_at s out n y hr hs w
  have e1 : ((n : Int) == (n : Int)) = true := by simp
  have e2 : ((y : Int) == (y : Int)) = true := by simp
  clear hr
  go_enter Try.func3, Try.ntmps3
  go_wp2_with fail
  refine (Q1.out _).mono ?_; rintro e w1 ⟨v1, xs, rfl, hx, hn, ho1, hb1⟩
  have HX := Lib.hid hx
  have HO1 := Lib.hid ho1
  have HB1 := Lib.hid hb1
  clear hx ho1 hb1
  go_wp2_with fail
  refine (Q2.out _).mono ?_; rintro e w2 ⟨v2, ys, rfl, hy, hm, ho2, hb2⟩
  have HY := Lib.hid hy
  have HL1 := Lib.hid ((HO1.out.below hb2).lins (by omega))
  have HL2 := Lib.hid (ho2.lins (by omega))
  have HB2 := Lib.hid (HB1.out.trans (hb2.mono HB1.out.size))
  clear hy ho2 hb2 HO1
  go_wp2_with fail
  refine (awake_any _).mono ?_; rintro e w3 ⟨rfl, hb3⟩
  have HS3 := Lib.hid hb3.size
  have HM1 := Lib.hid (HL1.out.below hb3)
  have HM2 := Lib.hid (HL2.out.below hb3)
  have HB3 := Lib.hid (HB2.out.trans (hb3.mono HB2.out.size))
  clear hb3 HL1 HL2
  go_wp2_with fail
  refine (back_any _ _ _ _ xs HM1.out HS3.out (by omega)).mono ?_; rintro e w4 ⟨v4, rfl, hr4, hb4⟩
  have HK1 := Lib.hid (lins_over HM1.out (hb4.mono HS3.out) (Nat.le_trans HS3.out hb4.size) hr4 (HB3.out.size))
  have HK2 := Lib.hid (HM2.out.below (hb4.mono HS3.out))
  have HS4 := Lib.hid (Nat.le_trans HS3.out hb4.size)
  have HB4 := Lib.hid (HB3.out.trans (hb4.mono HB3.out.size))
  clear hr4 hb4
  go_wp2_with fail
  refine (same_any true _ _ _ _ _ _ _ xs ys HK1.out HK2.out (Nat.le_refl _) HS4.out (alike_of (by rw [HX.out, HY.out]))).mono ?_; rintro e w5 ⟨rfl, hb5⟩
  have HB5 := Lib.hid (HB4.out.trans (hb5.mono HB4.out.size))
  clear hb5
  go_wp2_with fail
  go_ret
  exact ⟨rfl, HB5.out⟩

set_option maxRecDepth 100000 in
theorem lifted (os : Os) (started : os.Started) (H : Type) (enc : TypeId × Value → H) :
    ReturnsInHanded {} Try.checked os 3 .any (Rows.linesSplitsSpec.pre6 enc Try.prog Try.f3 Rows.linesSplitsRow.domain false) (Rows.linesSplitsSpec.post enc Try.prog Try.f3 false true false false) := by
  refine returnsInHanded_of_change (C := Try.checked) (by kernel_rfl) started (by kernel_rfl) Try.func3
    (ChangeSpec.witness6 (enc := enc) (C := Try.checked) false ⟨#[], #[.string ⟨#[]⟩], []⟩ 8 (by kernel_rfl) (by kernel_rfl) (by kernel_rfl) (by kernel_rfl)) ?_
  intro W base args ds gs before hval0 hW hcnd _
  have hval : ∀ (j : Nat) t v, Try.f3.params[j]? = some t → args[j]? = some v → Value.okWide Try.prog W .any base t v := hval0
  have hW' := hW
  obtain ⟨p, q, hA0, hV, rfl, hfz, hnd⟩ := hW
  have hA : DataW.TrodAll enc Try.prog W 0 (fun _ => true) true Try.f3.params.toList args.toList ds p := hA0
  rw [Try.params3] at hA hval
  obtain ⟨v0, vs0, d0, ds0, p0, q0, hargs, rfl, rfl, h0, r0⟩ := trodAll_cons hA
  obtain ⟨rfl, rfl, rfl⟩ := trodAll_nil r0
  obtain rfl : args = #[v0] := by cases args; simp_all
  obtain ⟨rfl, rfl⟩ := trodVars_none hV
  obtain ⟨a0, rfl, rfl, rfl, w0⟩ := Go.ChangeMaps.open_string Try.underlying9 (hval 0 9 v0 rfl rfl) h0
  clear hA0 hval0
  simp only [List.append_nil] at hW'
  refine (walk a0 w0 W).mono fun e W' ⟨he, hg⟩ => ?_
  subst he
  exact ⟨_, rfl, Shell.lawPost (by kernel_rfl) rfl (by kernel_rfl) rfl Try.underlying4 hW' rfl hg⟩

/-- The statement. -/
theorem proved : Rows.LinesSplitsSaid :=
  OpenClaim.holds_of_wide 3 Try.f3 rfl rfl rfl rfl rfl rfl rfl ⟨rfl, rfl, rfl, rfl, rfl⟩ rfl rfl rfl rfl rfl (by kernel_rfl) Try.func3 (by kernel_rfl)
    (of_decide_eq_true (by kernel_rfl)) (by unfold Func.isWrapper; first | (rw [if_pos (by decide +kernel)]; kernel_rfl) | (rw [if_neg (by decide +kernel)]; exact ⟨rfl, rfl⟩))
    (fun os started H enc _ => lifted os started H enc)
end Go.Proofs.Ytdibmmiobmlcbaa.linesSplits
