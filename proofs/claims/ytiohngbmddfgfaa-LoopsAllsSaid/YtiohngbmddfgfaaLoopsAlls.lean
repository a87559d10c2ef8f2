/-
  The loops of whatever graph, and whether it is crossed, are as the document says.
-/
import Derived.Test.YtiohngbmddfgfaaRows
import Derived.Test.YtiohngbmddfgfaaLaw11
import Derived.Test.YtiohngbmddfgfaaOpenG
import Derived.Deep.RegionHeld3
import Derived.StillTailTactics
import Derived.Test.YtiohngbmddfgfaaLpRAll
import Derived.Test.YtiohngbmddfgfaaLpSame
import Derived.Test.YtiohngbmddfgfaaLpBackL
import Derived.Test.YtiohngbmddfgfaaShell
import Derived.ProofKit
import Derived.OpenShut
import Derived.SizedLaws
namespace Go.Proofs.Ytiohngbmddfgfaa.loopsAlls
open Go.ChangeShapes Go.WideShapes Go.ChangeAt Go.RowKit
open Api Mem Fl9 Dm10 L09 L11 Lp11
set_option maxRecDepth 100000 in
set_option maxHeartbeats 16000000 in
theorem walk (v : Value) (g : List (List Int)) {w : World} (hq : Graph 0 w.heap.size w v g ∧ ∀ l ∈ g, ∀ x ∈ l, NumM.In x) :
    Calls Try.prog 3 #[v] w fun e w' => e = .returned (.bool true) ∧ Below w.heap.size w w' := by
  obtain ⟨hg, hin⟩ := hq
  obtain ⟨A1, k1, rfl⟩ := Row.form hg
  have hgl : g.length ≤ 4611686018427387903 := by obtain ⟨_, _, _, h, _⟩ := Row.get hg; exact h
  have HG := Lib.hid hg
  have HIN := Lib.hid hin
  clear hg hin
  go_enter Try.func3, Try.ntmps3
  go_wp2_with fail
  refine (awake11_any w).mono ?_
  rintro e w1 ⟨rfl, hb1⟩
  have HX1 := Lib.hid hb1
  clear hb1
  go_wp2_with fail
  refine (few11_any 0 w.heap.size w1 _ g (Graph.move (Still.of_below HX1.out) HG.out) HX1.out.size).mono ?_
  rintro e w2 ⟨b2, rfl, hfew, hb2⟩
  have HX2 := Lib.hid (HX1.out.trans (hb2.mono HX1.out.size))
  clear hb2
  cases b2 with
  | false =>
    clear hfew
    go_wp2_with fail
    refine (awake11_any w2).mono ?_
    rintro e w3 ⟨rfl, hb3⟩
    have HX3 := Lib.hid (HX2.out.trans (hb3.mono HX2.out.size))
    clear hb3
    go_wp2_with fail
    go_ret
    exact ⟨rfl, HX3.out⟩
  | true =>
    have hfw := hfew rfl
    have hfl : g.length ≤ 18 := by have := hfw.1; omega
    have HFW := Lib.hid hfw
    clear hfew hfw
    have HFL := Lib.hid (loops_few g)
    go_wp2_with fail
    refine (lall_any 0 w.heap.size w2 _ g (Graph.move (Still.of_below HX2.out) HG.out) HX2.out.size (by omega)).mono ?_
    rintro e w3 ⟨v3, rfl, ho, hb⟩
    have HX3 := Lib.hid (HX2.out.trans (hb.mono HX2.out.size))
    have HR3 := Lib.hid (ho.read (hi := w3.heap.size) (Nat.le_refl _) HFL.out (by omega))
    obtain ⟨A3, k3, e3⟩ := Row.form HR3.out
    subst e3
    clear ho hb
    go_wp2_with fail
    refine (back_any 0 w3.heap.size w3 _ (loopsV g) HR3.out (Nat.le_refl _) (by have := HFL.out.1; omega)).mono ?_
    rintro e w4 ⟨v4, rfl, ho, hb⟩
    have HX4 := Lib.hid (HX3.out.trans (hb.mono HX3.out.size))
    have HR4 := Lib.hid ho
    obtain ⟨A4, k4, e4⟩ := Row.form HR4.out
    subst e4
    clear ho hb
    go_wp2_with fail
    refine (rall_any 0 w.heap.size w4 _ g (Graph.move (Still.of_below HX4.out) HG.out) HX4.out.size (by omega) (fun l hl => by have := HFW.out.2 l hl; omega)).mono ?_
    rintro e w5 ⟨v5, rfl, ho, hb⟩
    have HX5 := Lib.hid (HX4.out.trans (hb.mono HX4.out.size))
    have HR5 := Lib.hid (ho.read (hi := w5.heap.size) (Nat.le_refl _) HFL.out (by omega))
    have HR45 := Lib.hid (LRead.move (lo' := 0) (hi' := w5.heap.size) ⟨fun k _ hk => hb.block k hk, Nat.zero_le _, hb.size⟩ HR4.out)
    obtain ⟨A5, k5, e5⟩ := Row.form HR5.out
    subst e5
    clear ho hb
    go_wp2_with fail
    refine (lsame_any 0 w5.heap.size w5 _ _ (loopsV g) HR45.out HR5.out (Nat.le_refl _)).mono ?_
    rintro e w6 ⟨rfl, hb⟩
    have HX6 := Lib.hid (HX5.out.trans (hb.mono HX5.out.size))
    clear hb
    go_wp2_with fail
    refine (lcross_any 0 w.heap.size w6 _ g (Graph.move (Still.of_below HX6.out) HG.out) HX6.out.size (by omega)).mono ?_
    rintro e w7 ⟨rfl, hb⟩
    have HX7 := Lib.hid (HX6.out.trans (hb.mono HX6.out.size))
    clear hb
    go_wp2_with fail
    refine (rcross_any 0 w.heap.size w7 _ g (Graph.move (Still.of_below HX7.out) HG.out) HX7.out.size (by omega) (fun l hl => by have := HFW.out.2 l hl; omega)).mono ?_
    rintro e w8 ⟨rfl, hb⟩
    have HX8 := Lib.hid (HX7.out.trans (hb.mono HX7.out.size))
    clear hb
    go_wp2_with fail
    go_ret
    exact ⟨by simp, HX8.out⟩

set_option maxRecDepth 100000 in
theorem lifted (os : Os) (started : os.Started) (H : Type) (enc : TypeId × Value → H) :
    ReturnsInHanded {} Try.checked os 3 .any (Rows.loopsAllsSpec.pre6 enc Try.prog Try.f3 Rows.loopsAllsRow.domain false) (Rows.loopsAllsSpec.post enc Try.prog Try.f3 false true false false) := by
  refine returnsInHanded_of_change_sized (C := Try.checked) (by kernel_rfl) started (by kernel_rfl) Try.func3
    (ChangeSpec.witness6 (enc := enc) (C := Try.checked) false ⟨#[], #[.slice none 0 0], []⟩ 8 (by kernel_rfl) (by kernel_rfl) (by kernel_rfl) (by kernel_rfl)) ?_
  intro W base args ds gs before hval0 hW hcnd hsz0 _
  have hval : ∀ (j : Nat) t v, Try.f3.params[j]? = some t → args[j]? = some v → Value.okWide Try.prog W .any base t v := hval0
  have hW' := hW
  obtain ⟨p, q, hA0, hV, rfl, hfz, hnd⟩ := hW
  have hsz : (DataW.weightsEach Try.prog (Try.f3.params.toList ++ Rows.loopsAllsSpec.plain.varTypes Try.prog) (ds ++ gs)).all (· ≤ reachBytes) = true := hsz0
  have hA : DataW.TrodAll enc Try.prog W 0 (fun _ => true) true Try.f3.params.toList args.toList ds p := hA0
  rw [Try.params3] at hA hval hsz
  obtain ⟨v0, vs0, d0, ds0, p0, q0, hargs, rfl, rfl, h0, r0⟩ := trodAll_cons hA
  obtain ⟨rfl, rfl, rfl⟩ := trodAll_nil r0
  obtain rfl : args = #[v0] := by cases args; simp_all
  obtain ⟨rfl, rfl⟩ := trodVars_none hV
  obtain ⟨xs0, hG0⟩ := OpenG.open_graph hsz (j := 0) rfl rfl (hval 0 22 v0 rfl rfl) h0
  clear hA0 hval0
  simp only [List.append_nil] at hW'
  refine (walk v0 xs0 hG0).mono fun e W' ⟨he, hg⟩ => ?_
  subst he
  exact ⟨_, rfl, Shell.lawPost (by kernel_rfl) rfl (by kernel_rfl) rfl Try.underlying4 hW' rfl hg⟩

/-- The statement. -/
theorem proved : Rows.LoopsAllsSaid :=
  OpenClaim.holds_of_wide 3 Try.f3 rfl rfl rfl rfl rfl rfl rfl ⟨rfl, rfl, rfl, rfl, rfl⟩ rfl rfl rfl rfl rfl (by kernel_rfl) Try.func3 (by kernel_rfl)
    (of_decide_eq_true (by kernel_rfl)) (by unfold Func.isWrapper; first | (rw [if_pos (by decide +kernel)]; kernel_rfl) | (rw [if_neg (by decide +kernel)]; exact ⟨rfl, rfl⟩))
    (fun os started H enc _ => lifted os started H enc)
end Go.Proofs.Ytiohngbmddfgfaa.loopsAlls
