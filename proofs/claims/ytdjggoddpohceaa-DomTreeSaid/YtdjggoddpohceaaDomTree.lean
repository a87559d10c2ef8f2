/-
  Each point but 0 that can be come to has a nearest one, which stands ahead of it in the order; nothing else has one.
-/
import Derived.Test.YtdjggoddpohceaaRows
import Derived.Test.YtdjggoddpohceaaLaw10
import Derived.Test.YtdjggoddpohceaaOpenG
import Derived.Test.YtdjggoddpohceaaDomF
import Derived.Deep.RegionHeld3
import Derived.Test.YtdjggoddpohceaaShell
import Derived.ProofKit
import Derived.OpenShut
import Derived.SizedLaws
namespace Go.Proofs.Ytdjggoddpohceaa.domTree
open Go.ChangeShapes Go.WideShapes Go.ChangeAt Go.RowKit
open Api Mem Fl9 Dm10 L09 L10
/-- who was seen behind i points of the order. -/
def SeenT (g : List (List Int)) (i : Nat) (s : List Bool) : Prop := s.length = g.length ∧ ∀ q : Nat, s[q]? = some true ↔ Come g q ∧ pos g q < i
theorem seen_start (g : List (List Int)) : SeenT g 0 (List.replicate g.length false) := ⟨by simp, fun q => ⟨fun h => by rw [List.getElem?_replicate] at h; split at h <;> simp at h, fun h => by omega⟩⟩
theorem SeenT.step {g : List (List Int)} {i q : Nat} {s : List Bool} (h : SeenT g i s) (hq : Come g q) (hp : pos g q = i) : SeenT g (i + 1) (s.set q true) := by
  refine ⟨by rw [List.length_set]; exact h.1, fun k => ?_⟩
  by_cases e : q = k
  · subst e
    rw [List.getElem?_set_self (by rw [h.1]; exact hq.last.1)]
    exact ⟨fun _ => ⟨hq, by omega⟩, fun _ => rfl⟩
  · rw [List.getElem?_set_ne e, h.2 k]
    constructor
    · rintro ⟨h1, h2⟩; exact ⟨h1, by omega⟩
    · rintro ⟨h1, h2⟩
      refine ⟨h1, ?_⟩
      have : pos g k ≠ i := fun e2 => e (pos_inj hq h1 (by rw [hp, e2]))
      omega
set_option maxRecDepth 100000 in
set_option maxHeartbeats 16000000 in
theorem walk (v : Value) (g : List (List Int)) {w : World} (hq : Graph 0 w.heap.size w v g ∧ ∀ l ∈ g, ∀ x ∈ l, NumM.In x) :
    Calls Try.prog 6 #[v] w fun e w' => e = .returned (.bool true) ∧ Below w.heap.size w w' := by
  obtain ⟨hg, hin⟩ := hq
  obtain ⟨A1, k1, rfl⟩ := Row.form hg
  have hgl : g.length ≤ 4611686018427387903 := by obtain ⟨_, _, _, h, _⟩ := Row.get hg; exact h
  have HG := Lib.hid hg
  have HIN := Lib.hid hin
  clear hg hin
  go_enter Try.func6, Try.ntmps6
  go_wp2_with fail
  refine (awake10_any w).mono ?_
  rintro e w1 ⟨rfl, hb1⟩
  have HX1 := Lib.hid hb1
  clear hb1
  go_wp2_with fail
  refine (fewG_any 0 w.heap.size w1 _ g (Graph.move (Still.of_below HX1.out) HG.out) HX1.out.size 100).mono ?_
  rintro e w2 ⟨b2, rfl, hfew, hb2⟩
  have HX2 := Lib.hid (HX1.out.trans (hb2.mono HX1.out.size))
  clear hb2
  cases b2 with
  | false =>
    clear hfew
    go_wp2_with fail
    refine (awake10_any w2).mono ?_
    rintro e w3 ⟨rfl, hb3⟩
    have HX3 := Lib.hid (HX2.out.trans (hb3.mono HX2.out.size))
    clear hb3
    go_wp2_with fail
    go_ret
    exact ⟨rfl, HX3.out⟩
  | true =>
    have hfw := hfew rfl
    have hfl : g.length ≤ 100 := by have := hfw.1; omega
    have HFW := Lib.hid hfw
    clear hfew hfw
    have hm := fun (w : World) => run_row9 (P := Try.prog) (t := 32) Try.underlying32 info_bool9 rfl (by decide) g.length (by omega) w
    go_wp2_with fail
    refine (near_any 0 w.heap.size w2 _ g (Graph.move (Still.of_below HX2.out) HG.out) HX2.out.size (by omega)).mono ?_
    rintro e w3 ⟨vn, rfl, ho, hb, hfx, hup⟩
    have HX3 := Lib.hid (HX2.out.trans (hb.mono HX2.out.size))
    have HN := Lib.hid (ints_own (l := nearestV g) (hi := w3.heap.size) (by rw [nearest_len]; exact ho) (Nat.le_refl _) (by rw [nearest_len]; omega))
    have HFX := Lib.hid hfx
    have HUP := Lib.hid hup
    obtain ⟨An, cn, e1⟩ := Row.form HN.out
    rw [nearest_len] at e1
    subst e1
    obtain ⟨W, hW⟩ : ∃ W, w3.alloc (.cells (List.replicate g.length (.bool false)).toArray 4) = W := ⟨_, rfl⟩
    have HS4 := Lib.hid (show Own W w3.heap.size 4 (bC (List.replicate g.length false)) by rw [← hW, show bC (List.replicate g.length false) = List.replicate g.length (.bool false) from List.map_replicate]; exact Own.made w3 _ _)
    have HU4 := Lib.hid (show Below w3.heap.size w3 W by rw [← hW]; exact alloc_up w3 _)
    have HW := Lib.hid (show w3.alloc (.cells (Array.replicate g.length (.bool false)) 4) = W by rw [← hW]; simp)
    have HX4 := Lib.hid (HX3.out.trans (HU4.out.mono HX3.out.size))
    clear ho hb hfx hup hW
    go_wp2_with fail
    rw [HW.out]
    refine (order_any 0 w.heap.size W _ g (Graph.move (Still.of_below HX4.out) HG.out) HX4.out.size (by omega)).mono ?_
    rintro e w5 ⟨vo, rfl, ho, hb⟩
    have HX5 := Lib.hid (HX4.out.trans (hb.mono HX4.out.size))
    have HU5 := Lib.hid (HU4.out.trans (hb.mono HU4.out.size))
    have hol := order_len g
    have HO := Lib.hid ho
    have HS5 := Lib.hid (HS4.out.below hb HS4.out.lt)
    obtain ⟨Ao, co, e5⟩ := any9 ho
    subst e5
    have hbo : w3.heap.size < W.heap.size := HS4.out.lt
    obtain ⟨near, hne⟩ : ∃ near, nearestV g = near := ⟨_, rfl⟩
    have HNL := Lib.hid (show near.length = g.length by rw [← hne]; exact nearest_len g)
    rw [hne] at HN HFX HUP
    have HPT := Lib.hid (show ∀ (i : Nat) (x : Int), (orderV g)[i]? = some x → ∃ q : Nat, x = (q : Int) ∧ Come g q ∧ pos g q = i from fun i x h => by
      obtain ⟨q, e, _, h2⟩ := ord_point (List.mem_of_getElem? h)
      subst e
      exact ⟨q, rfl, h2, pos_of h⟩)
    have HPL := Lib.hid (show ∀ q, Come g q → pos g q < (orderV g).length from fun q h => pos_lt h)
    obtain ⟨o, hoe⟩ : ∃ o, orderV g = o := ⟨_, rfl⟩
    rw [hoe] at HO hol HPT HPL
    rw [hoe]
    have HST := Lib.hid (seen_start g)
    clear ho hb hne hoe
    go_wp2_with fail
    go_loopw [6] (fun vi wr => ∃ (i : Nat) (s : List Bool), i ≤ o.length ∧ vi = .int .i64 i ∧ Hid (SeenT g i s) ∧ Hid (Own wr w3.heap.size 4 (bC s)) ∧ Hid (wr.ownsRow W.heap.size 3 1 (.slice Ao o.length co) o.length (iC o)) ∧ Hid (Below w3.heap.size w3 wr)) (fun vi _ => o.length - (intOf vi).toNat)
    case atStart => exact ⟨0, _, Nat.zero_le _, rfl, HST, HS5, HO, HU5⟩
    case round =>
    obtain ⟨i, s, hi9, rfl, HSE, HS, HO, HU⟩ := hrel
    by_cases hlt : i < o.length
    · obtain ⟨x, hx⟩ : ∃ x, o[i]? = some x := ⟨_, List.getElem?_eq_getElem hlt⟩
      obtain ⟨q, rfl, hqc, hqp⟩ := HPT.out i x hx
      have hql := hqc.last.1
      obtain ⟨bo, cap, e9, hb1, hb2, _⟩ := form9 HO.out (by omega)
      simp only [Value.slice.injEq, true_and] at e9
      obtain ⟨rfl, rfl⟩ := e9
      have c1 := (HO.out.cellAt i (by omega)).trans (show (iC o)[i]? = some (i64 (q : Int)) by rw [List.getElem?_map, hx]; rfl)
      obtain ⟨y, hy⟩ : ∃ y, near[q]? = some y := ⟨_, List.getElem?_eq_getElem (by rw [HNL.out]; exact hql)⟩
      have hnl := HNL.out
      obtain ⟨bn, on, rfl⟩ := addr_of9 HN.out (by omega)
      obtain ⟨cs, _, rfl, n1⟩ := cell_of HN.out hy HU.out
      have m1 := n1 _ rfl
      obtain ⟨bq, hbq⟩ : ∃ b, s[q]? = some b := ⟨_, List.getElem?_eq_getElem (by rw [HSE.out.1]; exact hql)⟩
      have c2 := (HS.out.cell q).trans (show (bC s)[q]? = some (.bool bq) by rw [List.getElem?_map, hbq]; rfl)
      have c2t := HS.out.thaw q
      have c2s := HS.out.lt
      have HSE2 := Lib.hid (HSE.out.step hqc hqp)
      have HS2 := Lib.hid (show Own (wr.setCell ⟨w3.heap.size, q, none⟩ (.bool true)) w3.heap.size 4 (bC (s.set q true)) by have := HS.out.store q (.bool true); simpa [bC, List.map_set] using this)
      have HO2 := Lib.hid (RowKit.ownsRow_setCell_below HO.out (a := ⟨w3.heap.size, q, none⟩) hbo (.bool true))
      have HU2 := Lib.hid (HU.out.setCell (p := ⟨w3.heap.size, q, none⟩) (Nat.le_refl _) (.bool true))
      have HQC := Lib.hid hqc
      have HQP := Lib.hid hqp
      have HY := Lib.hid hy
      clear n1 hx hqc hqp hy hbq hnl
      by_cases hi0 : i = 0
      · subst hi0
        have hq0 : q = 0 := pos_inj HQC.out (come_zero HQC.out) (by rw [HQP.out, pos_zero (by omega)])
        have hy1 : y = -1 := by
          have h1 := HFX.out.top9 q hql (.inl hq0)
          rw [HY.out] at h1
          exact Option.some.inj h1
        subst hy1
        subst hq0
        rw [Nat.zero_add] at HSE2
        rw [Nat.add_zero] at m1
        go_wp2_with fail
        go_roundw
        case rel => exact ⟨1, _, by omega, by go_num, HSE2, HS2, HO2, HU2⟩
        case measure => simp [intOf]; omega
      · have hq0 : q ≠ 0 := fun e => by
          subst e
          have := HQP.out
          rw [pos_zero (by omega)] at this
          omega
        obtain ⟨c, hc, _⟩ := HFX.out.up9 q hq0 HQC.out
        obtain rfl : y = (c : Int) := by
          have h1 := HY.out
          rw [hc] at h1
          exact (Option.some.inj h1).symm
        obtain ⟨_, _, hcc, hcp⟩ := HUP.out q c hc
        rw [HQP.out] at hcp
        have hcl := hcc.last.1
        have c3 := (HS.out.cell c).trans (show (bC s)[c]? = some (.bool true) by rw [List.getElem?_map, (HSE.out.2 c).2 ⟨hcc, hcp⟩]; rfl)
        have e1 : ((i : Int) == 0) = false := by rw [beq_eq_false_iff_ne]; omega
        have e2 : decide ((0 : Int) < (i : Int)) = true := decide_eq_true (by omega)
        have e2n : decide (0 < i) = true := decide_eq_true (by omega)
        have e3 : decide ((c : Int) < 0) = false := decide_eq_false (by omega)
        have e4 : decide ((g.length : Int) ≤ (c : Int)) = false := decide_eq_false (by omega)
        have e4n : decide (g.length ≤ c) = false := decide_eq_false (by omega)
        clear hc hcc hcp hi0 hq0
        go_wp2_with fail
        go_roundw
        case rel => exact ⟨i + 1, _, by omega, by go_num, HSE2, HS2, HO2, HU2⟩
        case measure => simp [intOf]; omega
    · have hie : i = o.length := by omega
      have HSO := Lib.hid (show ∀ q : Nat, s[q]? = some true ↔ Come g q from fun q => ⟨fun h => ((HSE.out.2 q).1 h).1, fun h => (HSE.out.2 q).2 ⟨h, by rw [hie]; exact HPL.out q h⟩⟩)
      have HSL := Lib.hid HSE.out.1
      clear hie
      go_wp2_with fail
      go_loopw [8] (fun vi wr => ∃ (k : Nat), k ≤ g.length ∧ vi = .int .i64 k ∧ Hid (Own wr w3.heap.size 4 (bC s)) ∧ Hid (Below w3.heap.size w3 wr)) (fun vi _ => g.length - (intOf vi).toNat)
      case atStart => exact ⟨0, Nat.zero_le _, rfl, HS, HU⟩
      case round =>
      obtain ⟨k, hk, rfl, HS, HU⟩ := hrel
      by_cases hlt2 : k < g.length
      · obtain ⟨y, hy⟩ : ∃ y, near[k]? = some y := ⟨_, List.getElem?_eq_getElem (by rw [HNL.out]; exact hlt2)⟩
        have hnl := HNL.out
        obtain ⟨bn, on, rfl⟩ := addr_of9 HN.out (by omega)
        obtain ⟨cs, _, rfl, n1⟩ := cell_of HN.out hy HU.out
        have m1 := n1 _ rfl
        obtain ⟨bq, hbq⟩ : ∃ b, s[k]? = some b := ⟨_, List.getElem?_eq_getElem (by rw [HSL.out]; exact hlt2)⟩
        have c2 := (HS.out.cell k).trans (show (bC s)[k]? = some (.bool bq) by rw [List.getElem?_map, hbq]; rfl)
        clear n1 hnl
        cases bq with
        | true =>
          clear hbq hy
          go_wp2_with fail
          go_roundw
          case rel => exact ⟨k + 1, by omega, by go_num, HS, HU⟩
          case measure => simp [intOf]; omega
        | false =>
          obtain rfl : y = -1 := by
            have h1 := HFX.out.top9 k hlt2 (.inr fun h => by
              have := (HSO.out k).2 h
              rw [hbq] at this
              cases this)
            rw [hy] at h1
            exact Option.some.inj h1
          clear hbq hy
          go_wp2_with fail
          go_roundw
          case rel => exact ⟨k + 1, by omega, by go_num, HS, HU⟩
          case measure => simp [intOf]; omega
      · go_wp2_with fail
        go_ret
        exact ⟨rfl, HX3.out.trans (HU.out.mono HX3.out.size)⟩

set_option maxRecDepth 100000 in
theorem lifted (os : Os) (started : os.Started) (H : Type) (enc : TypeId × Value → H) :
    ReturnsInHanded {} Try.checked os 6 .any (Rows.domTreeSpec.pre6 enc Try.prog Try.f6 Rows.domTreeRow.domain false) (Rows.domTreeSpec.post enc Try.prog Try.f6 false true false false) := by
  refine returnsInHanded_of_change_sized (C := Try.checked) (by kernel_rfl) started (by kernel_rfl) Try.func6
    (ChangeSpec.witness6 (enc := enc) (C := Try.checked) false ⟨#[], #[.slice none 0 0], []⟩ 8 (by kernel_rfl) (by kernel_rfl) (by kernel_rfl) (by kernel_rfl)) ?_
  intro W base args ds gs before hval0 hW hcnd hsz0 _
  have hval : ∀ (j : Nat) t v, Try.f6.params[j]? = some t → args[j]? = some v → Value.okWide Try.prog W .any base t v := hval0
  have hW' := hW
  obtain ⟨p, q, hA0, hV, rfl, hfz, hnd⟩ := hW
  have hsz : (DataW.weightsEach Try.prog (Try.f6.params.toList ++ Rows.domTreeSpec.plain.varTypes Try.prog) (ds ++ gs)).all (· ≤ reachBytes) = true := hsz0
  have hA : DataW.TrodAll enc Try.prog W 0 (fun _ => true) true Try.f6.params.toList args.toList ds p := hA0
  rw [Try.params6] at hA hval hsz
  obtain ⟨v0, vs0, d0, ds0, p0, q0, hargs, rfl, rfl, h0, r0⟩ := trodAll_cons hA
  obtain ⟨rfl, rfl, rfl⟩ := trodAll_nil r0
  obtain rfl : args = #[v0] := by cases args; simp_all
  obtain ⟨rfl, rfl⟩ := trodVars_none hV
  obtain ⟨xs0, hG0⟩ := OpenG.open_graph hsz (j := 0) rfl rfl (hval 0 22 v0 rfl rfl) h0
  clear hA0 hval0
  simp only [List.append_nil] at hW'
  refine (walk v0 xs0 hG0).mono fun e W' ⟨he, hg⟩ => ?_
  subst he
  exact ⟨_, rfl, Shell.lawPost (by kernel_rfl) rfl (by kernel_rfl) rfl Try.underlying4 hW' rfl hg⟩

/-- The statement. -/
theorem proved : Rows.DomTreeSaid :=
  OpenClaim.holds_of_wide 6 Try.f6 rfl rfl rfl rfl rfl rfl rfl ⟨rfl, rfl, rfl, rfl, rfl⟩ rfl rfl rfl rfl rfl (by kernel_rfl) Try.func6 (by kernel_rfl)
    (of_decide_eq_true (by kernel_rfl)) (by unfold Func.isWrapper; first | (rw [if_pos (by decide +kernel)]; kernel_rfl) | (rw [if_neg (by decide +kernel)]; exact ⟨rfl, rfl⟩))
    (fun os started H enc _ => lifted os started H enc)
end Go.Proofs.Ytdjggoddpohceaa.domTree
