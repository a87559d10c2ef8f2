/-
  Whatever graph there is: the order, what can be come to, and what leads to what, are as the document says.
-/
import Derived.Test.YtnonbkaanplcjaaRows
import Derived.Test.YtnonbkaanplcjaaLaw09
import Derived.Test.YtnonbkaanplcjaaOpenG
import Derived.Test.YtnonbkaanplcjaaShell
import Derived.ProofKit
import Derived.OpenShut
import Derived.SizedLaws
namespace Go.Proofs.Ytnonbkaanplcjaa.flowOrders
open Go.ChangeShapes Go.WideShapes Go.ChangeAt Go.RowKit
open Api Mem Fl9 L09
set_option maxRecDepth 100000 in
set_option maxHeartbeats 16000000 in
theorem walk (v : Value) (g : List (List Int)) {w : World} (hq : Graph 0 w.heap.size w v g ∧ ∀ l ∈ g, ∀ x ∈ l, NumM.In x) :
    Calls Try.prog 4 #[v] w fun e w' => e = .returned (.bool true) ∧ Below w.heap.size w w' := by
  obtain ⟨hg, hin⟩ := hq
  obtain ⟨A1, k1, rfl⟩ := Row.form hg
  have hgl : g.length ≤ 4611686018427387903 := by obtain ⟨_, _, _, h, _⟩ := Row.get hg; exact h
  have HG := Lib.hid hg
  have HIN := Lib.hid hin
  clear hg hin
  go_enter Try.func4, Try.ntmps4
  go_wp2_with fail
  refine (L09.awake_any w).mono ?_
  rintro e w1 ⟨rfl, hb1⟩
  have HX1 := Lib.hid hb1
  clear hb1
  go_wp2_with fail
  refine (fewG_any 0 w.heap.size w1 _ g (Graph.move (Still.of_below HX1.out) HG.out) HX1.out.size 60).mono ?_
  rintro e w2 ⟨b2, rfl, hfew, hb2⟩
  have HX2 := Lib.hid (HX1.out.trans (hb2.mono HX1.out.size))
  clear hb2
  cases b2 with
  | false =>
    clear hfew
    go_wp2_with fail
    refine (L09.awake_any w2).mono ?_
    rintro e w3 ⟨rfl, hb3⟩
    have HX3 := Lib.hid (HX2.out.trans (hb3.mono HX2.out.size))
    clear hb3
    go_wp2_with fail
    go_ret
    exact ⟨rfl, HX3.out⟩
  | true =>
    have hfw := hfew rfl
    have hfl : g.length ≤ 60 := by have := hfw.1; omega
    have HFW := Lib.hid hfw
    clear hfew hfw
    have HN := Lib.hid (show g.length ≤ 1000 by omega)
    go_wp2_with fail
    refine (order_any 0 w.heap.size w2 _ g (Graph.move (Still.of_below HX2.out) HG.out) HX2.out.size (by omega)).mono ?_
    rintro e w3 ⟨vo, rfl, ho, hb⟩
    have HX3 := Lib.hid (HX2.out.trans (hb.mono HX2.out.size))
    have HO := Lib.hid (ints_own ho (Nat.le_refl _) (by have := order_len g; omega))
    clear ho hb
    go_wp2_with fail
    refine (rorder_any 0 w.heap.size w3 _ g (Graph.move (Still.of_below HX3.out) HG.out) HX3.out.size (by omega)).mono ?_
    rintro e w4 ⟨vp, rfl, ho, hb⟩
    have HX4 := Lib.hid (HX3.out.trans (hb.mono HX3.out.size))
    have HU4 := Lib.hid hb
    have HP := Lib.hid (ints_own ho (Nat.le_refl _) (by have := order_len g; omega))
    clear ho hb
    go_wp2_with fail
    refine (yes9 (same_any 0 w4.heap.size w4 _ _ (orderV g) (orderV g) (Ints.move (still_up HU4.out HU4.out.size) HO.out) (Ints.move (Still.wide _ (Nat.zero_le _) (Nat.le_refl _)) HP.out) (Nat.le_refl _)) rfl).mono ?_
    rintro e w5 ⟨rfl, hb⟩
    have HX5 := Lib.hid (HX4.out.trans (hb.mono HX4.out.size))
    clear hb HX3 HO HP HU4
    go_wp2_with fail
    refine (come_any9 0 w.heap.size w5 _ g (Graph.move (Still.of_below HX5.out) HG.out) HX5.out.size (by omega)).mono ?_
    rintro e w6 ⟨vo6, rfl, ho, hb⟩
    have HX6 := Lib.hid (HX5.out.trans (hb.mono HX5.out.size))
    have HO := Lib.hid (bools_own (by rw [come_len]; exact ho) (Nat.le_refl _) (by rw [come_len]; omega))
    clear ho hb
    go_wp2_with fail
    refine (rcomeG_any 0 w.heap.size w6 _ g (Graph.move (Still.of_below HX6.out) HG.out) HX6.out.size (by omega)).mono ?_
    rintro e w7 ⟨vp7, rfl, ho, hb⟩
    have HX7 := Lib.hid (HX6.out.trans (hb.mono HX6.out.size))
    have HU7 := Lib.hid hb
    have HP := Lib.hid (bools_own (by rw [come_len]; exact ho) (Nat.le_refl _) (by rw [come_len]; omega))
    clear ho hb
    go_wp2_with fail
    refine (yes9 (bools_any 0 w7.heap.size w7 _ _ (comeV g) (comeV g) (Bools.move (still_up HU7.out HU7.out.size) HO.out) (Bools.move (Still.wide _ (Nat.zero_le _) (Nat.le_refl _)) HP.out) (Nat.le_refl _)) rfl).mono ?_
    rintro e w8 ⟨rfl, hb⟩
    have HX8 := Lib.hid (HX7.out.trans (hb.mono HX7.out.size))
    clear hb HX6 HO HP HU7
    go_wp2_with fail
    refine (preds_any 0 w.heap.size w8 _ g (Graph.move (Still.of_below HX8.out) HG.out) HX8.out.size (by omega)).mono ?_
    rintro e w9 ⟨vo9, rfl, ho, hb⟩
    have HX9 := Lib.hid (HX8.out.trans (hb.mono HX8.out.size))
    have HO := Lib.hid (ho.graph (Nat.le_refl _) (by rw [preds_len]; omega) (fun l hl => by have := preds_short g l hl; omega))
    clear ho hb
    go_wp2_with fail
    refine (rpreds_any 0 w.heap.size w9 _ g (Graph.move (Still.of_below HX9.out) HG.out) HX9.out.size (by omega)).mono ?_
    rintro e w10 ⟨vp10, rfl, ho, hb⟩
    have HX10 := Lib.hid (HX9.out.trans (hb.mono HX9.out.size))
    have HU10 := Lib.hid hb
    have HP := Lib.hid (ho.graph (Nat.le_refl _) (by rw [preds_len]; omega) (fun l hl => by have := preds_short g l hl; omega))
    clear ho hb
    go_wp2_with fail
    refine (yes9 (lists_any 0 w10.heap.size w10 _ _ (predsV g) (predsV g) (Graph.move (still_up HU10.out HU10.out.size) HO.out) (Graph.move (Still.wide _ (Nat.zero_le _) (Nat.le_refl _)) HP.out) (Nat.le_refl _)) rfl).mono ?_
    rintro e w11 ⟨rfl, hb⟩
    have HX11 := Lib.hid (HX10.out.trans (hb.mono HX10.out.size))
    clear hb
    go_wp2_with fail
    go_ret
    exact ⟨rfl, HX11.out⟩

set_option maxRecDepth 100000 in
theorem lifted (os : Os) (started : os.Started) (H : Type) (enc : TypeId × Value → H) :
    ReturnsInHanded {} Try.checked os 4 .any (Rows.flowOrdersSpec.pre6 enc Try.prog Try.f4 Rows.flowOrdersRow.domain false) (Rows.flowOrdersSpec.post enc Try.prog Try.f4 false true false false) := by
  refine returnsInHanded_of_change_sized (C := Try.checked) (by kernel_rfl) started (by kernel_rfl) Try.func4
    (ChangeSpec.witness6 (enc := enc) (C := Try.checked) false ⟨#[], #[.slice none 0 0], []⟩ 8 (by kernel_rfl) (by kernel_rfl) (by kernel_rfl) (by kernel_rfl)) ?_
  intro W base args ds gs before hval0 hW hcnd hsz0 _
  have hval : ∀ (j : Nat) t v, Try.f4.params[j]? = some t → args[j]? = some v → Value.okWide Try.prog W .any base t v := hval0
  have hW' := hW
  obtain ⟨p, q, hA0, hV, rfl, hfz, hnd⟩ := hW
  have hsz : (DataW.weightsEach Try.prog (Try.f4.params.toList ++ Rows.flowOrdersSpec.plain.varTypes Try.prog) (ds ++ gs)).all (· ≤ reachBytes) = true := hsz0
  have hA : DataW.TrodAll enc Try.prog W 0 (fun _ => true) true Try.f4.params.toList args.toList ds p := hA0
  rw [Try.params4] at hA hval hsz
  obtain ⟨v0, vs0, d0, ds0, p0, q0, hargs, rfl, rfl, h0, r0⟩ := trodAll_cons hA
  obtain ⟨rfl, rfl, rfl⟩ := trodAll_nil r0
  obtain rfl : args = #[v0] := by cases args; simp_all
  obtain ⟨rfl, rfl⟩ := trodVars_none hV
  obtain ⟨xs0, hG0⟩ := OpenG.open_graph hsz (j := 0) rfl rfl (hval 0 29 v0 rfl rfl) h0
  clear hA0 hval0
  simp only [List.append_nil] at hW'
  refine (walk v0 xs0 hG0).mono fun e W' ⟨he, hg⟩ => ?_
  subst he
  exact ⟨_, rfl, Shell.lawPost (by kernel_rfl) rfl (by kernel_rfl) rfl Try.underlying4 hW' rfl hg⟩

/-- The statement. -/
theorem proved : Rows.FlowOrdersSaid :=
  OpenClaim.holds_of_wide 4 Try.f4 rfl rfl rfl rfl rfl rfl rfl ⟨rfl, rfl, rfl, rfl, rfl⟩ rfl rfl rfl rfl rfl (by kernel_rfl) Try.func4 (by kernel_rfl)
    (of_decide_eq_true (by kernel_rfl)) (by unfold Func.isWrapper; first | (rw [if_pos (by decide +kernel)]; kernel_rfl) | (rw [if_neg (by decide +kernel)]; exact ⟨rfl, rfl⟩))
    (fun os started H enc _ => lifted os started H enc)
end Go.Proofs.Ytnonbkaanplcjaa.flowOrders
