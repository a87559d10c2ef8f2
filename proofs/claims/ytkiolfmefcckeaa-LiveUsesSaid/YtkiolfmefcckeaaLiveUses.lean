/-
  The law LiveUses: the program's Uses of an instruction are the document's.
-/
import Derived.Test.YtkiolfmefcckeaaRows
import Derived.Test.YtkiolfmefcckeaaLaw12
import Derived.Test.YtkiolfmefcckeaaOpenP
import Derived.Test.YtkiolfmefcckeaaLvRefU
import Derived.Deep.RegionHeld3
import Derived.Test.YtkiolfmefcckeaaShell
import Derived.ProofKit
import Derived.OpenShut
import Derived.SizedLaws
namespace Go.Proofs.Ytkiolfmefcckeaa.liveUses
open Go.ChangeShapes Go.WideShapes Go.ChangeAt Go.RowKit
open Api Mem Lv12 L12 OpenP
def cntF (l : List Api.Frame) : Nat := (l.map fun f => f.vars.length).sum
def cntO (l : List Virt) : Nat := (l.map fun o => o.vals.length).sum
theorem cntF_next {l : List Api.Frame} {k : Nat} {y : Api.Frame} (h : l[k]? = some y) : cntF (l.take (k + 1)) = cntF (l.take k) + y.vars.length := by
  unfold cntF
  rw [take_at h]
  simp
theorem cntO_next {l : List Virt} {k : Nat} {y : Virt} (h : l[k]? = some y) : cntO (l.take (k + 1)) = cntO (l.take k) + y.vals.length := by
  unfold cntO
  rw [take_at h]
  simp
theorem namesA_len (l : List Arg) : (namesA l).length ≤ l.length := by
  unfold namesA
  rw [List.length_map]
  exact List.length_filter_le _ _
theorem namesF_len : ∀ l : List Api.Frame, (namesF l).length ≤ cntF l
  | [] => by simp [namesF, cntF]
  | a :: l => by
    have h1 := namesF_len l
    have h2 : (namesB a.vars).length ≤ a.vars.length := by
      have := namesA_len (a.vars.map (·.a))
      rwa [List.length_map] at this
    simp only [namesF, cntF, List.flatMap_cons, List.length_append, List.map_cons, List.sum_cons] at h1 ⊢
    omega
theorem namesO_len : ∀ l : List Virt, (namesO l).length ≤ cntO l
  | [] => by simp [namesO, cntO]
  | a :: l => by
    have h1 := namesO_len l
    have h2 := namesA_len a.vals
    simp only [namesO, cntO, List.flatMap_cons, List.length_append, List.map_cons, List.sum_cons] at h1 ⊢
    omega
theorem usesI_nm {x : Instr} (h : instrG x) : ∀ y ∈ usesI x, y.length ≤ 140737488351232 := by
  obtain ⟨-, ha, hf, ho⟩ := h
  intro y hy
  simp only [usesI, namesA, namesF, namesO, namesB, List.mem_append, List.mem_map, List.mem_filter, List.mem_flatMap] at hy
  rcases hy with ⟨a, ⟨h1, -⟩, rfl⟩ | ⟨f, h1, a, ⟨⟨b, h2, rfl⟩, -⟩, rfl⟩ | ⟨o, h1, a, ⟨h2, -⟩, rfl⟩
  · exact (ha a h1).2
  · exact ((hf f h1).2.2 b h2).2.2
  · exact ((ho o h1).2 a h2).2
attribute [local go_sem] undef
set_option maxRecDepth 100000 in
set_option maxHeartbeats 16000000 in
theorem walk (v : Value) (q : Instr × List Value) {w : World} (hq : v = .agg q.2.toArray ∧ InstrC 0 w.heap.size w q.2 q.1 ∧ instrG q.1) :
    Calls Try.prog 3 #[v] w fun e w' => e = .returned (.bool true) ∧ Below w.heap.size w w' := by
  obtain ⟨x, cs⟩ := q
  obtain ⟨rfl, hc, hg⟩ := hq
  simp only at hc hg
  have HC := Lib.hid hc
  obtain ⟨v1, v2, v3, rfl, h1, h2, h3⟩ := hc
  obtain ⟨A1, k1, rfl⟩ := Row.form h1
  obtain ⟨A2, k2, rfl⟩ := Row.form h2
  obtain ⟨A3, k3, rfl⟩ := Row.form h3
  have hl1 : x.args.length ≤ 4611686018427387903 := by obtain ⟨_, _, _, h, _⟩ := Row.get h1; exact h
  have hl2 : x.frames.length ≤ 4611686018427387903 := by obtain ⟨_, _, _, h, _⟩ := Row.get h2; exact h
  have hl3 : x.objs.length ≤ 4611686018427387903 := by obtain ⟨_, _, _, h, _⟩ := Row.get h3; exact h
  have HG := Lib.hid hg
  obtain ⟨W, hW⟩ : ∃ W, w.alloc (.cells #[i64 x.op, str x.dst, str x.name, .slice A1 x.args.length k1, .slice A2 x.frames.length k2, .slice A3 x.objs.length k3] 26) = W := ⟨_, rfl⟩
  have HW := Lib.hid hW
  have HB0 := Lib.hid (show Below w.heap.size w W by rw [← hW]; exact (Below.refl _ _).alloc (Nat.le_refl _) _)
  have HZ := Lib.hid (show W.heap.size = w.heap.size + 1 by rw [← hW]; simp)
  have HO := Lib.hid (show Mem.Own W w.heap.size 26 [i64 x.op, str x.dst, str x.name, .slice A1 x.args.length k1, .slice A2 x.frames.length k2, .slice A3 x.objs.length k3] by rw [← hW]; exact Mem.Own.made w _ _)
  have H2 := Lib.hid h2
  have H3 := Lib.hid h3
  have HBW := Lib.hid (Below.refl W.heap.size W)
  clear h1 h2 h3 hW hg
  go_enter Try.func3, Try.ntmps3
  go_wp2_with fail
  all_goals rw [HW.out]
  all_goals have hlt0 : w.heap.size < W.heap.size := by have := HZ.out; omega
  rotate_left 1
  · go_loopw [3, 4] (fun nv iv wr => ∃ k n : Nat, k ≤ x.frames.length ∧ iv = .int .i64 k ∧ nv = .int .i64 n ∧ n = cntF (x.frames.take k) ∧ n ≤ 1000 ∧ Hid (Below W.heap.size W wr)) (fun _ iv _ => x.frames.length - (intOf iv).toNat)
    case atStart => exact ⟨0, 0, Nat.zero_le _, rfl, rfl, by simp [cntF], by omega, HBW⟩
    case round =>
    clear HBW
    obtain ⟨k, n, hk, rfl, rfl, hn, hn9, HB⟩ := hrel
    have q3 := (HO.out.below HB.out hlt0).cell 3
    have q4 := (HO.out.below HB.out hlt0).cell 4
    have q5 := (HO.out.below HB.out hlt0).cell 5
    simp only [List.getElem?_cons_zero, List.getElem?_cons_succ] at q3 q4 q5
    by_cases hlt : k < x.frames.length ∧ n ≤ 500
    · obtain ⟨hlt, hn5⟩ := hlt
      obtain ⟨y, hy⟩ : ∃ y, x.frames[k]? = some y := ⟨_, List.getElem?_eq_getElem hlt⟩
      obtain ⟨b, o, rfl, hb, cs, hcl, hcs, u, rfl, hbi⟩ := row_at H2.out hy
      obtain ⟨m0, m1, m2, m3⟩ := at4 (cells_later hcs (HB0.out.trans (HB.out.mono HB0.out.size)) hb)
      obtain ⟨A4, k4, rfl⟩ := Row.form hbi
      have hl4 : y.vars.length ≤ 4611686018427387903 := by obtain ⟨_, _, _, h, _⟩ := Row.get hbi; exact h
      have HN := Lib.hid (cntF_next hy)
      have HNE := Lib.hid hn
      clear hy hcs hbi hn
      by_cases h5 : y.vars.length ≤ 500
      · go_wp2_with fail
        go_roundw
        case rel => exact ⟨k + 1, n + y.vars.length, by omega, by go_num, by go_num, by rw [HN.out, HNE.out], by omega, HB⟩
        case measure => simp [intOf]; omega
      · go_wp2_with fail
        refine (awake12_any _).mono ?_
        rintro _ w9 ⟨rfl, hb9⟩
        have HX9 := Lib.hid ((HB0.out.trans (HB.out.mono HB0.out.size)).trans (hb9.mono (HB0.out.trans (HB.out.mono HB0.out.size)).size))
        clear hb9
        go_wp2_with fail
        go_ret
        exact ⟨rfl, HX9.out⟩
    · have HE1 := Lib.hid (show n = cntF x.frames ∨ 500 < n from by
        by_cases h5 : n ≤ 500
        · left
          rw [hn, show k = x.frames.length by omega, List.take_length]
        · right
          omega)
      have hn1 := Lib.hid (show n = n + cntO (x.objs.take 0) by simp [cntO])
      clear hn
      go_wp2_with fail
      all_goals go_loopw [3, 5] (fun nv iv wr => ∃ k m : Nat, k ≤ x.objs.length ∧ iv = .int .i64 k ∧ nv = .int .i64 m ∧ m = n + cntO (x.objs.take k) ∧ m ≤ 1000 ∧ Hid (Below W.heap.size W wr)) (fun _ iv _ => x.objs.length - (intOf iv).toNat)
      all_goals try exact ⟨0, n, Nat.zero_le _, rfl, rfl, hn1.out, hn9, HB⟩
      all_goals clear HB q3 q4 q5 hn1 hn9 hlt
      all_goals obtain ⟨k, m, hk, rfl, rfl, hm, hm9, HB⟩ := hrel
      all_goals have q3 := (HO.out.below HB.out hlt0).cell 3
      all_goals have q4 := (HO.out.below HB.out hlt0).cell 4
      all_goals have q5 := (HO.out.below HB.out hlt0).cell 5
      all_goals simp only [List.getElem?_cons_zero, List.getElem?_cons_succ] at q3 q4 q5
      all_goals by_cases hlt : k < x.objs.length ∧ m ≤ 500
      all_goals try (
        obtain ⟨hlt, hn5⟩ := hlt
        obtain ⟨y, hy⟩ : ∃ y, x.objs[k]? = some y := ⟨_, List.getElem?_eq_getElem hlt⟩
        obtain ⟨b, o, rfl, hb, cs, hcl, hcs, u, rfl, hbi⟩ := row_at H3.out hy
        obtain ⟨m0, m1⟩ := at2 (cells_later hcs (HB0.out.trans (HB.out.mono HB0.out.size)) hb)
        obtain ⟨A4, k4, rfl⟩ := Row.form hbi
        have hl4 : y.vals.length ≤ 4611686018427387903 := by obtain ⟨_, _, _, h, _⟩ := Row.get hbi; exact h
        have HN := Lib.hid (cntO_next hy)
        have HNE := Lib.hid hm
        clear hy hcs hbi hm
        by_cases h5 : y.vals.length ≤ 500
        · go_wp2_with fail
          go_roundw
          case rel => exact ⟨k + 1, m + y.vals.length, by omega, by go_num, by go_num, by rw [HN.out]; have := HNE.out; omega, by omega, HB⟩
          case measure => simp [intOf]; omega
        · go_wp2_with fail
          refine (awake12_any _).mono ?_
          rintro _ w9 ⟨rfl, hb9⟩
          have HX9 := Lib.hid ((HB0.out.trans (HB.out.mono HB0.out.size)).trans (hb9.mono (HB0.out.trans (HB.out.mono HB0.out.size)).size))
          clear hb9
          go_wp2_with fail
          go_ret
          exact ⟨rfl, HX9.out⟩)
      all_goals (
        have HE2 := Lib.hid (show m = n + cntO x.objs ∨ 500 < m from by
          by_cases h5 : m ≤ 500
          · left
            rw [hm, show k = x.objs.length by omega, List.take_length]
          · right
            omega)
        have HNM := Lib.hid (show n ≤ m by omega)
        clear hm
        have HLEN : Hid (500 < m ∨ (usesI x).length ≤ 1000000000000) := Lib.hid (by
          by_cases h6 : 500 < m
          · exact .inl h6
          · right
            have e1 := HE1.out
            have e2 := HE2.out
            have e3 := HNM.out
            have f1 := namesA_len x.args
            have f2 := namesF_len x.frames
            have f3 := namesO_len x.objs
            unfold usesI
            simp only [List.length_append]
            omega)
        clear HE1 HE2 HNM
        have HX := Lib.hid (HB0.out.trans (HB.out.mono HB0.out.size))
        have q0 := (HO.out.below HB.out hlt0).cell 0
        have q1 := (HO.out.below HB.out hlt0).cell 1
        have q2 := (HO.out.below HB.out hlt0).cell 2
        simp only [List.getElem?_cons_zero, List.getElem?_cons_succ] at q0 q1 q2
        by_cases h6 : 500 < m
        · have h6d : decide ((500 : Int) < (m : Int)) = true := decide_eq_true (by omega)
          have H6 := Lib.hid h6
          clear h6
          go_wp2_with fail
          all_goals (first | (go_region_law (first
            | (go_simp; go_at_call 8; (with_reducible refine (awake12_any _).mono ?_); rintro e w6 ⟨rfl, hw6⟩; have HX6 := Lib.hid (HX.out.drew.trans (hw6.mono HX.out.size)); clear hw6))) | fail "no")
          all_goals go_wp2_with fail
          all_goals go_ret
          all_goals exact ⟨rfl, HX6.out⟩
        · have h6i : ¬ (500 : Int) < (m : Int) := by omega
          have hlen : (usesI x).length ≤ 1000000000000 := by
            rcases HLEN.out with h | h
            · exact absurd h h6
            · exact h
          have HUO : Hid (UOk (usesI x)) := Lib.hid ⟨hlen, usesI_nm HG.out⟩
          have HLN := Lib.hid hlen
          clear hlen
          have QU := Lib.hid (fun (w1 : World) (h : Below w.heap.size w w1) => uses_any HUO.out 0 w.heap.size _ x (InstrC.move (Still.of_below h) HC.out) h.size (fun y hy => hy))
          have QV := Lib.hid (fun (w1 : World) (h : Below w.heap.size w w1) => uses12_any 0 w.heap.size _ x (InstrC.move (Still.of_below h) HC.out) h.size HLN.out)
          go_wp2_with fail
          go_region_law (first
            | (go_simp; rw [if_neg (by omega)])
            | (go_simp; (try simp only [if_neg (show ¬ (500 : Int) < (m : Int) by omega), if_true]); (try rw [if_pos rfl]); go_at_call 8; (with_reducible refine (awake12_any _).mono ?_); rintro e w6 ⟨rfl, hw6⟩; have HX6 := Lib.hid (HX.out.drew.trans (hw6.mono HX.out.size)); have HB6 := Lib.hid (HB.out.drew.trans (hw6.mono HB.out.size)); clear hw6; have q0f := (HO.out.below HB6.out hlt0).cell 0; have q1f := (HO.out.below HB6.out hlt0).cell 1; have q2f := (HO.out.below HB6.out hlt0).cell 2; have q3f := (HO.out.below HB6.out hlt0).cell 3; have q4f := (HO.out.below HB6.out hlt0).cell 4; have q5f := (HO.out.below HB6.out hlt0).cell 5; simp only [List.getElem?_cons_zero, List.getElem?_cons_succ] at q0f q1f q2f q3f q4f q5f)
            | (go_simp; go_at_call 10; (with_reducible refine (QU.out _ HX6.out).mono ?_); rintro e w7 ⟨v7, r7, rfl, hr7, hm7, ho7, -, hb7⟩; have HX7 := Lib.hid (HX6.out.trans (hb7.mono HX6.out.size)); have HB7 := Lib.hid (HB6.out.trans (hb7.mono HB6.out.size)); have HR7 := Lib.hid (show RS r7 (usesI x) from ⟨hr7, fun y => by rw [hm7]; simp⟩); have HO7 := Lib.hid ho7; clear hb7 hr7 hm7 ho7; have q0g := (HO.out.below HB7.out hlt0).cell 0; have q1g := (HO.out.below HB7.out hlt0).cell 1; have q2g := (HO.out.below HB7.out hlt0).cell 2; have q3g := (HO.out.below HB7.out hlt0).cell 3; have q4g := (HO.out.below HB7.out hlt0).cell 4; have q5g := (HO.out.below HB7.out hlt0).cell 5; simp only [List.getElem?_cons_zero, List.getElem?_cons_succ] at q0g q1g q2g q3g q4g q5g)
            | (go_simp; go_at_call 11; (with_reducible refine (QV.out _ HX7.out).mono ?_); rintro e w8 ⟨A8, c8, r8, rfl, hr8, ho8, hb8⟩; have HX8 := Lib.hid (HX7.out.trans (hb8.mono HX7.out.size)); have QS := Lib.hid (same12_any _ _ _ _ w8 v7 (.slice A8 r8.length c8) r7 r8 (Row.move (texts_own HO7.out rfl (by have := HR7.out.len; have := HLN.out; omega)) (fun k _ hk => hb8.block k hk) (Nat.le_refl _) (Nat.le_refl _) (fun _ _ h => h)) (texts_own ho8 rfl (by have := hr8.len; have := HLN.out; omega)) hb8.size (Nat.le_refl _)); have HEQ := Lib.hid (rise_eq HR7.out.up hr8.up (fun y => (HR7.out.mem y).trans (hr8.mem y).symm)); have HR8 := Lib.hid hr8; have HO8 := Lib.hid ho8; have HB8 := Lib.hid hb8; clear hb8 hr8 ho8)
            | (go_simp; go_at_call 9; (with_reducible refine QS.out.mono ?_); rintro e w9 ⟨b9, rfl, h9, hb9⟩; obtain rfl : b9 = true := h9.2 HEQ.out; have HX9 := Lib.hid (HX8.out.trans (hb9.mono HX8.out.size)); clear hb9 h9))
          all_goals go_wp2_with fail
          all_goals go_ret
          all_goals exact ⟨rfl, HX9.out⟩)
  all_goals (
    refine (awake12_any _).mono ?_
    rintro _ w9 ⟨rfl, hb9⟩
    have HX9 := Lib.hid ((HB0.out.trans (HBW.out.mono HB0.out.size)).trans (hb9.mono (HB0.out.trans (HBW.out.mono HB0.out.size)).size))
    clear hb9
    go_wp2_with fail
    go_ret
    exact ⟨rfl, HX9.out⟩)

set_option maxRecDepth 100000 in
theorem lifted (os : Os) (started : os.Started) (H : Type) (enc : TypeId × Value → H) :
    ReturnsInHanded {} Try.checked os 3 .any (Rows.liveUsesSpec.pre6 enc Try.prog Try.f3 Rows.liveUsesRow.domain false) (Rows.liveUsesSpec.post enc Try.prog Try.f3 false true false false) := by
  refine returnsInHanded_of_change_sized (C := Try.checked) (by kernel_rfl) started (by kernel_rfl) Try.func3
    (ChangeSpec.witness6 (enc := enc) (C := Try.checked) false ⟨#[], #[.agg #[.int .i64 0, .string ⟨#[]⟩, .string ⟨#[]⟩, .slice none 0 0, .slice none 0 0, .slice none 0 0]], []⟩ 8 (by kernel_rfl) (by kernel_rfl) (by kernel_rfl) (by kernel_rfl)) ?_
  intro W base args ds gs before hval0 hW hcnd hsz0 _
  have hval : ∀ (j : Nat) t v, Try.f3.params[j]? = some t → args[j]? = some v → Value.okWide Try.prog W .any base t v := hval0
  have hW' := hW
  obtain ⟨p, q, hA0, hV, rfl, hfz, hnd⟩ := hW
  have hsz : (DataW.weightsEach Try.prog (Try.f3.params.toList ++ Rows.liveUsesSpec.plain.varTypes Try.prog) (ds ++ gs)).all (· ≤ reachBytes) = true := hsz0
  have hA : DataW.TrodAll enc Try.prog W 0 (fun _ => true) true Try.f3.params.toList args.toList ds p := hA0
  rw [Try.params3] at hA hval hsz
  obtain ⟨v0, vs0, d0, ds0, p0, q0, hargs, rfl, rfl, h0, r0⟩ := trodAll_cons hA
  obtain ⟨rfl, rfl, rfl⟩ := trodAll_nil r0
  obtain rfl : args = #[v0] := by cases args; simp_all
  obtain ⟨rfl, rfl⟩ := trodVars_none hV
  obtain ⟨xs0, hG0⟩ := OpenP.open_instr hsz (j := 0) rfl rfl (hval 0 26 v0 rfl rfl) h0
  clear hA0 hval0
  simp only [List.append_nil] at hW'
  refine (walk v0 xs0 hG0).mono fun e W' ⟨he, hg⟩ => ?_
  subst he
  exact ⟨_, rfl, Shell.lawPost (by kernel_rfl) rfl (by kernel_rfl) rfl Try.underlying4 hW' rfl hg⟩

/-- The statement. -/
theorem proved : Rows.LiveUsesSaid :=
  OpenClaim.holds_of_wide 3 Try.f3 rfl rfl rfl rfl rfl rfl rfl ⟨rfl, rfl, rfl, rfl, rfl⟩ rfl rfl rfl rfl rfl (by kernel_rfl) Try.func3 (by kernel_rfl)
    (of_decide_eq_true (by kernel_rfl)) (by unfold Func.isWrapper; first | (rw [if_pos (by decide +kernel)]; kernel_rfl) | (rw [if_neg (by decide +kernel)]; exact ⟨rfl, rfl⟩))
    (fun os started H enc _ => lifted os started H enc)
end Go.Proofs.Ytkiolfmefcckeaa.liveUses
