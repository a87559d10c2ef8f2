/-
  Of two loops one has all points of the other one, or they have none in common.
-/
import Derived.Test.YtdkcgfpgpnlklaaRows
import Derived.Test.YtdkcgfpgpnlklaaLpHas
import Derived.Test.YtdkcgfpgpnlklaaOpenG
import Derived.Deep.RegionHeld3
import Derived.StillTailTactics
import Derived.Test.YtdkcgfpgpnlklaaShell
import Derived.ProofKit
import Derived.OpenShut
import Derived.SizedLaws
namespace Go.Proofs.Ytdkcgfpgpnlklaa.loopsNest
open Go.ChangeShapes Go.WideShapes Go.ChangeAt Go.RowKit
open Api Mem Fl9 Dm10 L09 L11 Lp11
set_option maxRecDepth 100000 in
set_option maxHeartbeats 16000000 in
theorem walk (v : Value) (g : List (List Int)) {w : World} (hq : Graph 0 w.heap.size w v g ∧ ∀ l ∈ g, ∀ x ∈ l, NumM.In x) :
    Calls Try.prog 5 #[v] w fun e w' => e = .returned (.bool true) ∧ Below w.heap.size w w' := by
  obtain ⟨hg, hin⟩ := hq
  obtain ⟨A1, k1, rfl⟩ := Row.form hg
  have hgl : g.length ≤ 4611686018427387903 := by obtain ⟨_, _, _, h, _⟩ := Row.get hg; exact h
  have HG := Lib.hid hg
  have HIN := Lib.hid hin
  clear hg hin
  go_enter Try.func5, Try.ntmps5
  go_wp2_with fail
  refine (awake11_any w).mono ?_
  rintro e w1 ⟨rfl, hb1⟩
  have HX1 := Lib.hid hb1
  clear hb1
  go_wp2_with fail
  refine (fewG_any 0 w.heap.size w1 _ g (Graph.move (Still.of_below HX1.out) HG.out) HX1.out.size 60).mono ?_
  rintro e w2 ⟨b2, rfl, hfew, hb2⟩
  have HX2 := Lib.hid (HX1.out.trans (hb2.mono HX1.out.size))
  clear hb2
  cases b2 with
  | false =>
    clear hfew
    go_wp2_with fail
    refine (awake11_any w2).mono ?_
    rintro e w3 ⟨rfl, hb3⟩
    have HX3 := Lib.hid (HX2.out.trans (hb3.mono HX2.out.size))
    clear hb3
    go_wp2_with fail
    go_ret
    exact ⟨rfl, HX3.out⟩
  | true =>
    have hfw := hfew rfl
    have hfl : g.length ≤ 60 := by have := hfw.1; omega
    have HFW := Lib.hid hfw
    clear hfew hfw
    go_wp2_with fail
    refine (lall_any 0 w.heap.size w2 _ g (Graph.move (Still.of_below HX2.out) HG.out) HX2.out.size (by omega)).mono ?_
    rintro e w3 ⟨vl, rfl, ho, hb⟩
    have HX3 := Lib.hid (HX2.out.trans (hb.mono HX2.out.size))
    have hfew := loops_few g
    have HL := Lib.hid (ho.read (hi := w3.heap.size) (n := g.length) (Nat.le_refl _) hfew (by omega))
    obtain ⟨L, hL⟩ : ∃ L, loopsV g = L := ⟨_, rfl⟩
    have HLV := Lib.hid hL
    rw [hL] at HL hfew
    have HFL := Lib.hid hfew
    have hll : L.length ≤ 60 := by have := hfew.1; omega
    obtain ⟨Al, cl, rfl⟩ := Row.form HL.out
    clear ho hb hL hfew
    go_wp2_with fail
    go_loopw [4] (fun kv wr => ∃ i : Nat, i ≤ L.length ∧ kv = .int .i64 i ∧ Hid (Below w3.heap.size w3 wr)) (fun kv _ => L.length - (intOf kv).toNat)
    case atStart => exact ⟨0, Nat.zero_le _, rfl, Lib.hid (Below.refl _ _)⟩
    case round =>
    obtain ⟨i, hi, rfl, HBr⟩ := hrel
    by_cases hlt : i < L.length
    · go_wp2_with fail
      go_loopw [5] (fun kv wr => ∃ k : Nat, k ≤ i ∧ kv = .int .i64 k ∧ Hid (Below w3.heap.size w3 wr)) (fun kv _ => i - (intOf kv).toNat)
      case atStart => exact ⟨0, Nat.zero_le _, rfl, HBr⟩
      case round =>
      obtain ⟨k, hk, rfl, HBr⟩ := hrel
      by_cases hlk : k < i
      · obtain ⟨x1, hx1⟩ : ∃ x, L[i]? = some x := ⟨_, List.getElem?_eq_getElem hlt⟩
        obtain ⟨x2, hx2⟩ : ∃ x, L[k]? = some x := ⟨_, List.getElem?_eq_getElem (by omega)⟩
        have hf1 := HFL.out.2 x1 (List.mem_of_getElem? hx1)
        have hf2 := HFL.out.2 x2 (List.mem_of_getElem? hx2)
        have hxl1 : x1.2.1.length ≤ 60 := by omega
        have hxl2 : x2.2.1.length ≤ 60 := by omega
        have HBC := Lib.hid (show (both x1.2.1 x2.2.1).length = 0 ∨ (both x1.2.1 x2.2.1).length = x1.2.1.length ∨ (both x1.2.1 x2.2.1).length = x2.2.1.length from both_count (g := g) (by rw [HLV.out]; exact List.mem_of_getElem? hx1) (by rw [HLV.out]; exact List.mem_of_getElem? hx2))
        obtain ⟨b1, o1, rfl⟩ := addr_ofL HL.out (by omega)
        obtain ⟨A3, k3, A4, k4, i3, i4, c1⟩ := lread_at HL.out hx1
        obtain ⟨A5, k5, A6, k6, i5, i6, c2⟩ := lread_at HL.out hx2
        have HC1 := Lib.hid c1
        have HC2 := Lib.hid c2
        have HI3 := Lib.hid i3
        have HI5 := Lib.hid i5
        have hkL : k < L.length := by omega
        clear hx1 hx2 i3 i4 i5 i6 c1 c2 hf1 hf2
        go_wp2_with fail
        go_loopw [6, 7] (fun nv kv wr => ∃ j : Nat, j ≤ x1.2.1.length ∧ kv = .int .i64 j ∧ nv = .int .i64 ((both (x1.2.1.take j) x2.2.1).length : Int) ∧ Hid (Below w3.heap.size w3 wr)) (fun _ kv _ => x1.2.1.length - (intOf kv).toNat)
        case atStart => exact ⟨0, Nat.zero_le _, rfl, rfl, HBr⟩
        case round =>
        obtain ⟨j, hj, rfl, rfl, HBr⟩ := hrel
        obtain ⟨m1, m2, m3⟩ := HC1.out wr HBr.out
        obtain ⟨m4, m5, m6⟩ := HC2.out wr HBr.out
        by_cases hlj : j < x1.2.1.length
        · obtain ⟨y, hy⟩ : ∃ y, x1.2.1[j]? = some y := ⟨_, List.getElem?_eq_getElem hlj⟩
          have hyc : (casts x1.2.1)[j]? = some (y : Int) := by unfold casts; rw [List.getElem?_map, hy]; rfl
          obtain ⟨b2, o2, rfl⟩ := addr_of9 HI3.out (by omega)
          obtain ⟨c9, _, rfl, n9⟩ := cell_of HI3.out hyc HBr.out
          have m9 := n9 _ rfl
          have HN := Lib.hid (both_next (b := x2.2.1) hy)
          have hbl : (both (x1.2.1.take j) x2.2.1).length ≤ 60 := by
            have := List.length_filter_le (fun x => decide (x ∈ x2.2.1)) (x1.2.1.take j)
            unfold both
            rw [List.length_take] at this
            omega
          have QH := Lib.hid (has_any 0 w3.heap.size wr.drew _ (casts x2.2.1) (Ints.move (Still.of_below HBr.out.drew) HI5.out) HBr.out.drew.size (y : Int))
          have HD := Lib.hid (show decide ((y : Int) ∈ casts x2.2.1) = decide (y ∈ x2.2.1) by rw [Bool.eq_iff_iff, decide_eq_true_iff, decide_eq_true_iff, casts_mem])
          obtain ⟨hb, hhb⟩ : ∃ b, decide (y ∈ x2.2.1) = b := ⟨_, rfl⟩
          rw [HD.out, hhb] at QH
          have HHB := Lib.hid hhb
          clear n9 hy hyc hhb
          go_wp2_with fail
          go_still_tail 13, (by kernel_rfl)
          change wpList _ _ _ _ _ wr.drew
          go_wp2_with fail
          refine QH.out.mono ?_
          rintro e w6 ⟨rfl, hb6⟩
          have HB6 := Lib.hid (HBr.out.drew.trans (hb6.mono HBr.out.drew.size))
          clear hb6
          cases hb with
          | true =>
            have HN2 := Lib.hid (show (both (x1.2.1.take (j + 1)) x2.2.1).length = (both (x1.2.1.take j) x2.2.1).length + 1 by rw [HN.out, if_pos (of_decide_eq_true HHB.out)])
            go_wp2_with fail
            go_roundw
            case rel => exact ⟨j + 1, by omega, by go_num, by rw [HN2.out]; go_num, HB6⟩
            case measure => simp [intOf]; omega
          | false =>
            have HN2 := Lib.hid (show (both (x1.2.1.take (j + 1)) x2.2.1).length = (both (x1.2.1.take j) x2.2.1).length by rw [HN.out, if_neg (of_decide_eq_false HHB.out)]; rfl)
            go_wp2_with fail
            go_roundw
            case rel => exact ⟨j + 1, by omega, by go_num, by rw [HN2.out], HB6⟩
            case measure => simp [intOf]; omega
        · have hje : j = x1.2.1.length := by omega
          have e9 : x1.2.1.take j = x1.2.1 := by rw [hje, List.take_length]
          rw [e9]
          obtain ⟨n9, hn9⟩ : ∃ n, (both x1.2.1 x2.2.1).length = n := ⟨_, rfl⟩
          have hbc := HBC.out
          rw [hn9] at hbc ⊢
          clear hn9 e9 hje
          rcases hbc with e | e | e
          · subst e
            go_wp2_with fail
            all_goals exact ⟨⟨k + 1, by omega, by go_num, HBr⟩, by simp [intOf]; omega⟩
          · subst e
            go_wp2_with fail
            all_goals exact ⟨⟨k + 1, by omega, by go_num, HBr⟩, by simp [intOf]; omega⟩
          · subst e
            go_wp2_with fail
            all_goals exact ⟨⟨k + 1, by omega, by go_num, HBr⟩, by simp [intOf]; omega⟩
      · go_wp2_with fail
        go_roundw
        case rel => exact ⟨i + 1, by omega, by go_num, HBr⟩
        case measure => simp [intOf]; omega
    · go_wp2_with fail
      go_ret
      exact ⟨rfl, HX3.out.trans (HBr.out.mono HX3.out.size)⟩

set_option maxRecDepth 100000 in
theorem lifted (os : Os) (started : os.Started) (H : Type) (enc : TypeId × Value → H) :
    ReturnsInHanded {} Try.checked os 5 .any (Rows.loopsNestSpec.pre6 enc Try.prog Try.f5 Rows.loopsNestRow.domain false) (Rows.loopsNestSpec.post enc Try.prog Try.f5 false true false false) := by
  refine returnsInHanded_of_change_sized (C := Try.checked) (by kernel_rfl) started (by kernel_rfl) Try.func5
    (ChangeSpec.witness6 (enc := enc) (C := Try.checked) false ⟨#[], #[.slice none 0 0], []⟩ 8 (by kernel_rfl) (by kernel_rfl) (by kernel_rfl) (by kernel_rfl)) ?_
  intro W base args ds gs before hval0 hW hcnd hsz0 _
  have hval : ∀ (j : Nat) t v, Try.f5.params[j]? = some t → args[j]? = some v → Value.okWide Try.prog W .any base t v := hval0
  have hW' := hW
  obtain ⟨p, q, hA0, hV, rfl, hfz, hnd⟩ := hW
  have hsz : (DataW.weightsEach Try.prog (Try.f5.params.toList ++ Rows.loopsNestSpec.plain.varTypes Try.prog) (ds ++ gs)).all (· ≤ reachBytes) = true := hsz0
  have hA : DataW.TrodAll enc Try.prog W 0 (fun _ => true) true Try.f5.params.toList args.toList ds p := hA0
  rw [Try.params5] at hA hval hsz
  obtain ⟨v0, vs0, d0, ds0, p0, q0, hargs, rfl, rfl, h0, r0⟩ := trodAll_cons hA
  obtain ⟨rfl, rfl, rfl⟩ := trodAll_nil r0
  obtain rfl : args = #[v0] := by cases args; simp_all
  obtain ⟨rfl, rfl⟩ := trodVars_none hV
  obtain ⟨xs0, hG0⟩ := OpenG.open_graph hsz (j := 0) rfl rfl (hval 0 22 v0 rfl rfl) h0
  clear hA0 hval0
  simp only [List.append_nil] at hW'
  refine (walk v0 xs0 hG0).mono fun e W' ⟨he, hg⟩ => ?_
  subst he
  exact ⟨_, rfl, Shell.lawPost (by kernel_rfl) rfl (by kernel_rfl) rfl Try.underlying4 hW' rfl hg⟩

/-- The statement. -/
theorem proved : Rows.LoopsNestSaid :=
  OpenClaim.holds_of_wide 5 Try.f5 rfl rfl rfl rfl rfl rfl rfl ⟨rfl, rfl, rfl, rfl, rfl⟩ rfl rfl rfl rfl rfl (by kernel_rfl) Try.func5 (by kernel_rfl)
    (of_decide_eq_true (by kernel_rfl)) (by unfold Func.isWrapper; first | (rw [if_pos (by decide +kernel)]; kernel_rfl) | (rw [if_neg (by decide +kernel)]; exact ⟨rfl, rfl⟩))
    (fun os started H enc _ => lifted os started H enc)
end Go.Proofs.Ytdkcgfpgpnlklaa.loopsNest
