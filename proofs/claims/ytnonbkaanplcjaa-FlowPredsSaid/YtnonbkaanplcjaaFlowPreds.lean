/-
  A point is told among those that lead to another one just if it does.
-/
import Derived.Test.YtnonbkaanplcjaaRows
import Derived.Test.YtnonbkaanplcjaaLaw09
import Derived.Test.YtnonbkaanplcjaaOpenG
import Derived.Deep.RegionHeld3
import Derived.Test.YtnonbkaanplcjaaShell
import Derived.ProofKit
import Derived.OpenShut
import Derived.SizedLaws
namespace Go.Proofs.Ytnonbkaanplcjaa.flowPreds
open Go.ChangeShapes Go.WideShapes Go.ChangeAt Go.RowKit
open Api Mem Fl9 L09
theorem pv_rise (g : List (List Int)) (n i : Nat) : (pv g n i).Pairwise (· < ·) := by
  unfold pv
  rw [List.pairwise_map]
  refine (List.Pairwise.filter _ List.pairwise_lt_range).imp ?_
  intro a b h
  omega
theorem pv_in {g : List (List Int)} {i x : Nat} (hx : x < g.length) : (x : Int) ∈ pv g g.length i ↔ (i : Int) ∈ g.getD x [] := by
  constructor
  · intro h
    obtain ⟨p, e, _, h2⟩ := pv_lt h
    obtain rfl : x = p := by omega
    exact h2
  · exact fun h => pv_mem hx h
theorem count_one {l : List Int} (h : l.Pairwise (· < ·)) (x : Int) : l.count x = 1 ↔ x ∈ l := by
  have hn : l.Nodup := h.imp (fun h => by omega)
  have h1 := List.nodup_iff_count.1 hn x
  constructor
  · intro e
    exact List.count_pos_iff.1 (by omega)
  · intro hm
    have := List.count_pos_iff.2 hm
    omega
theorem count_next {l : List Int} {k : Nat} {x y : Int} (h : l[k]? = some y) : (l.take (k + 1)).count x = (l.take k).count x + if y = x then 1 else 0 := by
  obtain ⟨h1, h2⟩ := List.getElem?_eq_some_iff.1 h
  rw [List.take_succ_eq_append_getElem h1, h2, List.count_append, List.count_singleton]
  by_cases e : y = x
  · simp [e]
  · simp [e]
theorem wrap_u8 {a : Int} (ha : (Lit.int .u8 a).wf = true) : wrap64 a = a := by
  have h' : IntKind.u8.min ≤ a ∧ a ≤ IntKind.u8.max := by simpa [Lit.wf] using ha
  have e1 : IntKind.u8.min = 0 := by decide
  have e2 : IntKind.u8.max = 255 := by decide
  exact NumM.wrap_in (show NumM.In a from ⟨by omega, by omega⟩)
theorem mod9 {a : Int} {n : Nat} (ha : (Lit.int .u8 a).wf = true) (hn : n ≠ 0) : ∃ x : Nat, a.tmod (n : Int) = (x : Int) ∧ x < n := by
  have h0 : 0 ≤ a ∧ a < 256 := by
    have h' : IntKind.u8.min ≤ a ∧ a ≤ IntKind.u8.max := by simpa [Lit.wf] using ha
    have e1 : IntKind.u8.min = 0 := by decide
    have e2 : IntKind.u8.max = 255 := by decide
    omega
  obtain ⟨p, rfl⟩ : ∃ p : Nat, a = (p : Int) := ⟨a.toNat, by omega⟩
  exact ⟨p % n, rfl, Nat.mod_lt _ (by omega)⟩
set_option maxRecDepth 100000 in
set_option maxHeartbeats 16000000 in
theorem walk (v : Value) (g : List (List Int)) (a b : Int) {w : World} (hq : Graph 0 w.heap.size w v g ∧ ∀ l ∈ g, ∀ x ∈ l, NumM.In x) (ha : (Lit.int .u8 a).wf = true) (hb0 : (Lit.int .u8 b).wf = true) :
    Calls Try.prog 6 #[v, .int .u8 a, .int .u8 b] w fun e w' => e = .returned (.bool true) ∧ Below w.heap.size w w' := by
  obtain ⟨hg, hin⟩ := hq
  obtain ⟨A1, k1, rfl⟩ := Row.form hg
  have hgl : g.length ≤ 4611686018427387903 := by obtain ⟨_, _, _, h, _⟩ := Row.get hg; exact h
  have HG := Lib.hid hg
  have HIN := Lib.hid hin
  clear hg hin
  go_enter Try.func6, Try.ntmps6
  go_wp2_with fail
  refine (L09.awake_any w).mono ?_
  rintro e w1 ⟨rfl, hb1⟩
  have HX1 := Lib.hid hb1
  clear hb1
  go_wp2_with fail
  refine (fewG_any 0 w.heap.size w1 _ g (Graph.move (Still.of_below HX1.out) HG.out) HX1.out.size 200).mono ?_
  rintro e w2 ⟨b2, rfl, hfew, hb2⟩
  have HX2 := Lib.hid (HX1.out.trans (hb2.mono HX1.out.size))
  clear hb2
  cases b2 with
  | false =>
    clear hfew
    go_wp2_with fail
    refine (L09.awake_any w2).mono ?_
    rintro e w3 ⟨rfl, hb3⟩
    have HX3 := Lib.hid (HX2.out.trans (hb3.mono HX2.out.size))
    clear hb3
    go_wp2_with fail
    go_ret
    exact ⟨rfl, HX3.out⟩
  | true =>
    have hfw := hfew rfl
    have hfl : g.length ≤ 200 := by have := hfw.1; omega
    have HFW := Lib.hid hfw
    clear hfew hfw
    have HN := Lib.hid (show g.length ≤ 1000 by omega)
    by_cases h0 : g.length = 0
    · have e0 : ((g.length : Int) == 0) = true := by rw [h0]; rfl
      clear h0
      go_wp2_with fail
      refine (L09.awake_any w2).mono ?_
      rintro e w3 ⟨rfl, hb3⟩
      have HX3 := Lib.hid (HX2.out.trans (hb3.mono HX2.out.size))
      clear hb3
      go_wp2_with fail
      go_ret
      exact ⟨rfl, HX3.out⟩
    · have e0 : ((g.length : Int) == 0) = false := by rw [beq_eq_false_iff_ne]; omega
      obtain ⟨x, hx, hxl⟩ := mod9 ha h0
      obtain ⟨y, hy, hyl⟩ := mod9 hb0 h0
      have hpos : 0 < g.length := by omega
      clear h0
      go_wp2_with fail
      rw [wrap_u8 ha, wrap_u8 hb0, hx, hy]
      clear hx hy ha hb0
      refine (preds_any 0 w.heap.size w2 _ g (Graph.move (Still.of_below HX2.out) HG.out) HX2.out.size (by omega)).mono ?_
      rintro e w3 ⟨vo, rfl, ho, hb⟩
      have HX3 := Lib.hid (HX2.out.trans (hb.mono HX2.out.size))
      obtain ⟨Ao, co, e9⟩ := ho.form
      rw [preds_len] at e9
      subst e9
      have HP := Lib.hid (ho.graph (Nat.le_refl _) (by rw [preds_len]; omega) (fun l hl => by have := preds_short g l hl; omega))
      clear ho hb
      obtain ⟨P, hP⟩ : ∃ P, predsV g = P := ⟨_, rfl⟩
      obtain ⟨l, hl⟩ : ∃ l, pv g g.length y = l := ⟨_, rfl⟩
      have hPl : P.length = g.length := by rw [← hP]; exact preds_len g
      have hPy : P[y]? = some l := by rw [← hP, ← hl]; exact preds_at hyl
      have hrise : l.Pairwise (· < ·) := by rw [← hl]; exact pv_rise g _ _
      have hmem : (x : Int) ∈ l ↔ (y : Int) ∈ g.getD x [] := by rw [← hl]; exact pv_in hxl
      have hll : l.length ≤ 200 := by rw [← hl]; have := pv_len g g.length y; omega
      rw [hP] at HP
      obtain ⟨b1, o1, rfl⟩ := addr_of9 (by rw [← hPl] at HP; exact HP.out) (by omega)
      obtain ⟨c1, _, ⟨u1, rfl, kx⟩, n1⟩ := cell_of HP.out hPy (Below.refl _ _)
      obtain ⟨A3, k3, rfl⟩ := Row.form kx
      have HC := Lib.hid (fun (wr : World) (hb : Below w3.heap.size w3 wr) => (hb.cell (p := ⟨b1, o1 + y, none⟩) (World.block_lt_of_cell? w3 _ (n1 _ rfl))).trans (n1 _ rfl))
      have KX := Lib.hid kx
      have HRI := Lib.hid hrise
      have HME := Lib.hid hmem
      have m1 := HC.out w3 (Below.refl _ _)
      have HX0 := Lib.hid (Below.refl w3.heap.size w3)
      clear kx n1 hPy hPl hP hl hrise hmem HP
      go_wp2_with fail
      go_loopw [10, 11] (fun nv iv wr => ∃ k : Nat, k ≤ l.length ∧ iv = .int .i64 k ∧ nv = .int .i64 (((l.take k).count (x : Int) : Nat) : Int) ∧ Hid (Below w3.heap.size w3 wr)) (fun _ iv _ => l.length - (intOf iv).toNat)
      case atStart => exact ⟨0, Nat.zero_le _, rfl, rfl, HX0⟩
      case round =>
      obtain ⟨k, hk, rfl, rfl, HBr⟩ := hrel
      have m1 := HC.out wr HBr.out
      have hcb : (l.take k).count (x : Int) ≤ 200 := by have h8 := List.count_le_length (a := (x : Int)) (l := l.take k); rw [List.length_take] at h8; omega
      by_cases hlt : k < l.length
      · obtain ⟨z, hz⟩ : ∃ z, l[k]? = some z := ⟨_, List.getElem?_eq_getElem hlt⟩
        obtain ⟨b2, o2, rfl⟩ := addr_of9 KX.out (by omega)
        obtain ⟨c4, _, rfl, n4⟩ := cell_of KX.out hz HBr.out
        have m4 := n4 _ rfl
        clear n4
        by_cases hzx : z = (x : Int)
        · by_cases hk0 : k = 0
          · skip
            have ez : (z == (x : Int)) = true := by simp [hzx]
            have ek : decide (0 < (k : Int)) = false := decide_eq_false (by omega)
            have ek2 : decide (0 < k) = false := decide_eq_false (by omega)
            clear hk0
            have HCN := Lib.hid (show (l.take (k + 1)).count (x : Int) = (l.take k).count (x : Int) + 1 by rw [count_next hz, if_pos hzx])
            clear hz hzx

            obtain ⟨cn, hcn⟩ : ∃ cn, (l.take k).count (x : Int) = cn := ⟨_, rfl⟩
            rw [hcn] at HCN hcb ⊢
            clear hcn
            go_wp2_with fail
            go_region
            go_wp2_with fail
            go_roundw
            case rel => exact ⟨k + 1, by omega, by go_num, by rw [HCN.out]; go_num, Lib.hid HBr.out.drew⟩
            case measure => simp [intOf]; omega
          · skip
            have ez : (z == (x : Int)) = true := by simp [hzx]
            obtain ⟨m, hm⟩ : ∃ m, k = m + 1 := ⟨k - 1, by omega⟩
            have hmi : (k : Int) - 1 = (m : Int) := by omega
            obtain ⟨pz, hpz⟩ : ∃ pz, l[m]? = some pz := ⟨_, List.getElem?_eq_getElem (by omega)⟩
            have hlt9 : ¬ z ≤ pz := by
              obtain ⟨q1, q2⟩ := List.getElem?_eq_some_iff.1 hz
              obtain ⟨r1, r2⟩ := List.getElem?_eq_some_iff.1 hpz
              have := List.pairwise_iff_getElem.1 HRI.out m k r1 q1 (by omega)
              omega
            obtain ⟨c5, _, rfl, n5⟩ := cell_of KX.out hpz HBr.out
            have m5 := n5 _ rfl
            have ek : decide (0 < (k : Int)) = true := decide_eq_true (by omega)
            have ek2 : decide (0 < k) = true := decide_eq_true (by omega)
            have el : decide (z ≤ pz) = false := decide_eq_false hlt9
            have hml : m < l.length := by omega
            have h0k : 0 < k := by omega
            have h1k : (0 : Int) ≤ (k : Int) - 1 := by omega
            have HCN := Lib.hid (show (l.take (k + 1)).count (x : Int) = (l.take k).count (x : Int) + 1 by rw [count_next hz, if_pos hzx])
            clear n5 hpz hlt9 hz hzx
            clear hk0 hm
            obtain ⟨cn, hcn⟩ : ∃ cn, (l.take k).count (x : Int) = cn := ⟨_, rfl⟩
            rw [hcn] at HCN hcb ⊢
            clear hcn
            go_wp2_with fail
            go_region
            go_wp2_with fail
            go_roundw
            case rel => exact ⟨k + 1, by omega, by go_num, by rw [HCN.out]; go_num, Lib.hid HBr.out.drew⟩
            case measure => simp [intOf]; omega
        · by_cases hk0 : k = 0
          · skip
            have ez : (z == (x : Int)) = false := by simpa using hzx
            have ek : decide (0 < (k : Int)) = false := decide_eq_false (by omega)
            have ek2 : decide (0 < k) = false := decide_eq_false (by omega)
            clear hk0
            have HCN := Lib.hid (show (l.take (k + 1)).count (x : Int) = (l.take k).count (x : Int) + 0 by rw [count_next hz, if_neg hzx])
            clear hz hzx

            obtain ⟨cn, hcn⟩ : ∃ cn, (l.take k).count (x : Int) = cn := ⟨_, rfl⟩
            rw [hcn] at HCN hcb ⊢
            clear hcn
            go_wp2_with fail
            go_region
            go_wp2_with fail
            go_roundw
            case rel => exact ⟨k + 1, by omega, by go_num, by rw [HCN.out]; go_num, Lib.hid HBr.out.drew⟩
            case measure => simp [intOf]; omega
          · skip
            have ez : (z == (x : Int)) = false := by simpa using hzx
            obtain ⟨m, hm⟩ : ∃ m, k = m + 1 := ⟨k - 1, by omega⟩
            have hmi : (k : Int) - 1 = (m : Int) := by omega
            obtain ⟨pz, hpz⟩ : ∃ pz, l[m]? = some pz := ⟨_, List.getElem?_eq_getElem (by omega)⟩
            have hlt9 : ¬ z ≤ pz := by
              obtain ⟨q1, q2⟩ := List.getElem?_eq_some_iff.1 hz
              obtain ⟨r1, r2⟩ := List.getElem?_eq_some_iff.1 hpz
              have := List.pairwise_iff_getElem.1 HRI.out m k r1 q1 (by omega)
              omega
            obtain ⟨c5, _, rfl, n5⟩ := cell_of KX.out hpz HBr.out
            have m5 := n5 _ rfl
            have ek : decide (0 < (k : Int)) = true := decide_eq_true (by omega)
            have ek2 : decide (0 < k) = true := decide_eq_true (by omega)
            have el : decide (z ≤ pz) = false := decide_eq_false hlt9
            have hml : m < l.length := by omega
            have h0k : 0 < k := by omega
            have h1k : (0 : Int) ≤ (k : Int) - 1 := by omega
            have HCN := Lib.hid (show (l.take (k + 1)).count (x : Int) = (l.take k).count (x : Int) + 0 by rw [count_next hz, if_neg hzx])
            clear n5 hpz hlt9 hz hzx
            clear hk0 hm
            obtain ⟨cn, hcn⟩ : ∃ cn, (l.take k).count (x : Int) = cn := ⟨_, rfl⟩
            rw [hcn] at HCN hcb ⊢
            clear hcn
            go_wp2_with fail
            go_region
            go_wp2_with fail
            go_roundw
            case rel => exact ⟨k + 1, by omega, by go_num, by rw [HCN.out]; go_num, Lib.hid HBr.out.drew⟩
            case measure => simp [intOf]; omega
      · have hke : k = l.length := by omega
        subst hke
        rw [List.take_of_length_le (Nat.le_refl _)] at hcb ⊢
        have hone := count_one HRI.out (x : Int)
        obtain ⟨cn, hcn⟩ : ∃ cn, l.count (x : Int) = cn := ⟨_, rfl⟩
        rw [hcn] at hone hcb ⊢
        obtain ⟨gx, hgx⟩ : ∃ gx, g[x]? = some gx := ⟨_, List.getElem?_eq_getElem hxl⟩
        have hgd : g.getD x [] = gx := by rw [List.getD_eq_getElem?_getD, hgx]; rfl
        have HXW := Lib.hid (HX3.out.trans (HBr.out.mono HX3.out.size))
        clear hcn
        by_cases hmem : (y : Int) ∈ gx
        · have e1 : ((cn : Int) == 1) = true := by
            rw [hone.2 (HME.out.2 (by rw [hgd]; exact hmem))]; rfl
          have QL := Lib.hid (yes9 (leadsG_any 0 w.heap.size wr _ g (Graph.move (Still.of_below HXW.out) HG.out) HXW.out.size x gx hgx (y : Int)) hmem)
          clear hmem hone hgd hgx
          go_wp2_with fail
          refine QL.out.mono ?_
          rintro e w6 ⟨rfl, hb6⟩
          have HX6 := Lib.hid (HXW.out.trans (hb6.mono HXW.out.size))
          clear hb6
          go_wp2_with fail
          go_ret
          exact ⟨by simp, HX6.out⟩
        · have e1 : ((cn : Int) == 1) = false := by
            rw [beq_eq_false_iff_ne]; intro h; apply hmem; rw [← hgd]; exact HME.out.1 (hone.1 (by omega))
          have QL := Lib.hid (not9 (leadsG_any 0 w.heap.size wr _ g (Graph.move (Still.of_below HXW.out) HG.out) HXW.out.size x gx hgx (y : Int)) hmem)
          clear hmem hone hgd hgx
          go_wp2_with fail
          refine QL.out.mono ?_
          rintro e w6 ⟨rfl, hb6⟩
          have HX6 := Lib.hid (HXW.out.trans (hb6.mono HXW.out.size))
          clear hb6
          go_wp2_with fail
          go_ret
          exact ⟨by simp, HX6.out⟩

set_option maxRecDepth 100000 in
theorem lifted (os : Os) (started : os.Started) (H : Type) (enc : TypeId × Value → H) :
    ReturnsInHanded {} Try.checked os 6 .any (Rows.flowPredsSpec.pre6 enc Try.prog Try.f6 Rows.flowPredsRow.domain false) (Rows.flowPredsSpec.post enc Try.prog Try.f6 false true false false) := by
  refine returnsInHanded_of_change_sized (C := Try.checked) (by kernel_rfl) started (by kernel_rfl) Try.func6
    (ChangeSpec.witness6 (enc := enc) (C := Try.checked) false ⟨#[], #[.slice none 0 0, .int .u8 0, .int .u8 0], []⟩ 8 (by kernel_rfl) (by kernel_rfl) (by kernel_rfl) (by kernel_rfl)) ?_
  intro W base args ds gs before hval0 hW hcnd hsz0 _
  have hval : ∀ (j : Nat) t v, Try.f6.params[j]? = some t → args[j]? = some v → Value.okWide Try.prog W .any base t v := hval0
  have hW' := hW
  obtain ⟨p, q, hA0, hV, rfl, hfz, hnd⟩ := hW
  have hsz : (DataW.weightsEach Try.prog (Try.f6.params.toList ++ Rows.flowPredsSpec.plain.varTypes Try.prog) (ds ++ gs)).all (· ≤ reachBytes) = true := hsz0
  have hA : DataW.TrodAll enc Try.prog W 0 (fun _ => true) true Try.f6.params.toList args.toList ds p := hA0
  rw [Try.params6] at hA hval hsz
  obtain ⟨v0, vs0, d0, ds0, p0, q0, hargs, rfl, rfl, h0, r0⟩ := trodAll_cons hA
  obtain ⟨v1, vs1, d1, ds1, p1, q1, rfl, rfl, rfl, h1, r1⟩ := trodAll_cons r0
  obtain ⟨v2, vs2, d2, ds2, p2, q2, rfl, rfl, rfl, h2, r2⟩ := trodAll_cons r1
  obtain ⟨rfl, rfl, rfl⟩ := trodAll_nil r2
  obtain rfl : args = #[v0, v1, v2] := by cases args; simp_all
  obtain ⟨rfl, rfl⟩ := trodVars_none hV
  obtain ⟨xs0, hG0⟩ := OpenG.open_graph hsz (j := 0) rfl rfl (hval 0 29 v0 rfl rfl) h0
  obtain ⟨a1, rfl, rfl, rfl, w1⟩ := open_int Try.underlying5 (hval 1 5 v1 rfl rfl) h1
  obtain ⟨a2, rfl, rfl, rfl, w2⟩ := open_int Try.underlying5 (hval 2 5 v2 rfl rfl) h2
  clear hA0 hval0
  simp only [List.append_nil] at hW'
  refine (walk v0 xs0 a1 a2 hG0 w1 w2).mono fun e W' ⟨he, hg⟩ => ?_
  subst he
  exact ⟨_, rfl, Shell.lawPost (by kernel_rfl) rfl (by kernel_rfl) rfl Try.underlying4 hW' rfl hg⟩

/-- The statement. -/
theorem proved : Rows.FlowPredsSaid :=
  OpenClaim.holds_of_wide 6 Try.f6 rfl rfl rfl rfl rfl rfl rfl ⟨rfl, rfl, rfl, rfl, rfl⟩ rfl rfl rfl rfl rfl (by kernel_rfl) Try.func6 (by kernel_rfl)
    (of_decide_eq_true (by kernel_rfl)) (by unfold Func.isWrapper; first | (rw [if_pos (by decide +kernel)]; kernel_rfl) | (rw [if_neg (by decide +kernel)]; exact ⟨rfl, rfl⟩))
    (fun os started H enc _ => lifted os started H enc)
end Go.Proofs.Ytnonbkaanplcjaa.flowPreds
