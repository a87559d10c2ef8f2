/-
  Whatever lines there are: their text is as the document tells it, or they are many or long: the statement LinesJoins. No condition.
-/
import Derived.Test.YtdibmmiobmlcbaaLaw04
import Derived.Test.YtdibmmiobmlcbaaLinesFew
import Derived.Test.YtdibmmiobmlcbaaLinesOpen
import Derived.Test.YtdibmmiobmlcbaaRef04J
import Derived.Test.YtdibmmiobmlcbaaShell
import Derived.ProofKit
import Derived.OpenShut
import Derived.SizedLaws
namespace Go.Proofs.Ytdibmmiobmlcbaa.linesJoins
open Go.ChangeShapes Go.WideShapes Go.ChangeAt Go.RowKit
open LinesM Mem

theorem rjoin_at (lo hi : Nat) (v : Value) (xs : List ML) (T : List UInt8) (s : ByteArray) (hs : s = ⟨T.toArray⟩) (w : World) (h : Lins lo hi w v xs) (hh : hi ≤ w.heap.size) (hj : joinV (xs.map fun x => x.2.2) = T) (hT : T.length ≤ 1099511627776) :
    Calls Try.prog 17 #[v] w fun e w' => e = .returned (.string s) ∧ Below w.heap.size w w' := by
  have h2 : joinV (R04.wordsOf xs) = T := hj
  have := R04.join_any lo hi w v xs h hh (by rw [h2]; exact hT)
  rw [h2, ← hs] at this
  exact this

set_option maxRecDepth 100000 in
set_option maxHeartbeats 8000000 in
theorem walk (v : Value) (xs : List ML) {w : World} (h : Lins 0 w.heap.size w v xs) :
    Calls Try.prog 4 #[v] w fun e w' => e = .returned (.bool true) ∧ Below w.heap.size w w' := by
  have HL := Lib.hid h
  clear h
  go_enter Try.func4, Try.ntmps4
  go_wp2_with fail
  refine (few_any _ _ _ _ xs HL.out).mono ?_; rintro e w1 ⟨r, rfl, hf, rfl⟩
  have HF := Lib.hid hf
  clear hf
  cases r with
  | false =>
    go_wp2_with fail
    refine (awake_any _).mono ?_; rintro e w2 ⟨rfl, hb2⟩
    have HB2 := Lib.hid hb2
    clear hb2
    go_wp2_with fail
    go_ret
    exact ⟨rfl, HB2.out⟩
  | true =>
    have hT := few_small (HF.out rfl)
    obtain ⟨T, hTT⟩ : ∃ T, joinV (xs.map fun x => x.2.2) = T := ⟨_, rfl⟩
    rw [hTT] at hT
    have HT := Lib.hid hT
    have HTT := Lib.hid hTT
    have hn : xs.length ≤ 300 := (HF.out rfl).1
    clear hT hTT
    go_wp2_with fail
    refine (awake_any _).mono ?_; rintro e w2 ⟨rfl, hb2⟩
    have HL2 := Lib.hid (HL.out.below hb2)
    have HS2 := Lib.hid hb2.size
    have HB2 := Lib.hid hb2
    clear hb2
    go_wp2_with fail
    refine (there_any _ _ _ _ xs HL2.out HS2.out (by omega)).mono ?_; rintro e w3 ⟨v3, rfl, hr3, hb3⟩
    have HK3 := Lib.hid (lins_over HL2.out (hb3.mono HS2.out) (Nat.le_trans HS2.out hb3.size) hr3 (Nat.zero_le _))
    have HL3 := Lib.hid (HL2.out.below (hb3.mono HS2.out))
    have HS3 := Lib.hid (Nat.le_trans HS2.out hb3.size)
    have HB3 := Lib.hid (HB2.out.trans (hb3.mono HB2.out.size))
    clear hr3 hb3
    go_wp2_with fail
    refine (join_at _ _ _ xs T ⟨T.toArray⟩ rfl _ HK3.out (Nat.le_refl _) HTT.out HT.out).mono ?_; rintro e w4 ⟨rfl, hb4⟩
    have HL4 := Lib.hid (HL3.out.below (hb4.mono HS3.out))
    have HS4 := Lib.hid (Nat.le_trans HS3.out hb4.size)
    have HB4 := Lib.hid (HB3.out.trans (hb4.mono HB3.out.size))
    clear hb4
    obtain ⟨s, hs⟩ : ∃ s : ByteArray, s = ⟨T.toArray⟩ := ⟨_, rfl⟩
    rw [← hs]
    have QJ := Lib.hid (rjoin_at _ _ _ xs T s hs w4 HL4.out HS4.out HTT.out HT.out)
    have e1 : (s.toList == s.toList) = true := by simp
    clear hs
    go_wp2_with fail
    refine (QJ.out).mono ?_; rintro e w5 ⟨rfl, hb5⟩
    have HB5 := Lib.hid (HB4.out.trans (hb5.mono HB4.out.size))
    clear hb5
    go_wp2_with fail
    go_ret
    exact ⟨rfl, HB5.out⟩

set_option maxRecDepth 100000 in
theorem lifted (os : Os) (started : os.Started) (H : Type) (enc : TypeId × Value → H) :
    ReturnsInHanded {} Try.checked os 4 .any (Rows.linesJoinsSpec.pre6 enc Try.prog Try.f4 Rows.linesJoinsRow.domain false) (Rows.linesJoinsSpec.post enc Try.prog Try.f4 false true false false) := by
  refine returnsInHanded_of_change_sized (C := Try.checked) (by kernel_rfl) started (by kernel_rfl) Try.func4
    (ChangeSpec.witness6 (enc := enc) (C := Try.checked) false ⟨#[], #[.slice none 0 0], []⟩ 8 (by kernel_rfl) (by kernel_rfl) (by kernel_rfl) (by kernel_rfl)) ?_
  intro W base args ds gs before hval0 hW hcnd hsz0 _
  have hval : ∀ (j : Nat) t v, Try.f4.params[j]? = some t → args[j]? = some v → Value.okWide Try.prog W .any base t v := hval0
  have hW' := hW
  obtain ⟨p, q, hA0, hV, rfl, hfz, hnd⟩ := hW
  have hsz : (DataW.weightsEach Try.prog (Try.f4.params.toList ++ Rows.linesJoinsSpec.plain.varTypes Try.prog) (ds ++ gs)).all (· ≤ reachBytes) = true := hsz0
  have hA : DataW.TrodAll enc Try.prog W 0 (fun _ => true) true Try.f4.params.toList args.toList ds p := hA0
  rw [Try.params4] at hA hval hsz
  obtain ⟨v0, vs0, d0, ds0, p0, q0, hargs, rfl, rfl, h0, r0⟩ := trodAll_cons hA
  obtain ⟨rfl, rfl, rfl⟩ := trodAll_nil r0
  obtain rfl : args = #[v0] := by cases args; simp_all
  obtain ⟨rfl, rfl⟩ := trodVars_none hV
  obtain ⟨xs0, hL0⟩ := open_lins hsz (j := 0) rfl rfl (hval 0 26 v0 rfl rfl) h0
  clear hA0 hval0
  simp only [List.append_nil] at hW'
  refine (walk v0 xs0 hL0).mono fun e W' ⟨he, hg⟩ => ?_
  subst he
  exact ⟨_, rfl, Shell.lawPost (by kernel_rfl) rfl (by kernel_rfl) rfl Try.underlying4 hW' rfl hg⟩

/-- The statement. -/
theorem proved : Rows.LinesJoinsSaid :=
  OpenClaim.holds_of_wide 4 Try.f4 rfl rfl rfl rfl rfl rfl rfl ⟨rfl, rfl, rfl, rfl, rfl⟩ rfl rfl rfl rfl rfl (by kernel_rfl) Try.func4 (by kernel_rfl)
    (of_decide_eq_true (by kernel_rfl)) (by unfold Func.isWrapper; first | (rw [if_pos (by decide +kernel)]; kernel_rfl) | (rw [if_neg (by decide +kernel)]; exact ⟨rfl, rfl⟩))
    (fun os started H enc _ => lifted os started H enc)
end Go.Proofs.Ytdibmmiobmlcbaa.linesJoins
