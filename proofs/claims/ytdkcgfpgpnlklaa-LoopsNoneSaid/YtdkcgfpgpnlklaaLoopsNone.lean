/-
  A graph whose steps all lead to greater points has no loop, and isn't crossed.
-/
import Derived.Test.YtdkcgfpgpnlklaaRows
import Derived.Test.YtdkcgfpgpnlklaaLaw11
import Derived.Test.YtdkcgfpgpnlklaaOpenG
import Derived.Deep.RegionHeld3
import Derived.StillTailTactics
import Derived.Test.YtdkcgfpgpnlklaaShell
import Derived.ProofKit
import Derived.OpenShut
import Derived.SizedLaws
namespace Go.Proofs.Ytdkcgfpgpnlklaa.loopsNone
open Go.ChangeShapes Go.WideShapes Go.ChangeAt Go.RowKit
open Api Mem Fl9 Dm10 L09 L11 Lp11
def upB (i : Nat) (x : Int) : Bool := decide ((i : Int) < x)
def up1 (g : List (List Int)) (i : Nat) : List Int := (g.getD i []).filter (upB i)
def upV (g : List (List Int)) (n : Nat) : List (List Int) := (List.range n).map (up1 g)
theorem upV_len (g : List (List Int)) (n : Nat) : (upV g n).length = n := by simp [upV]
theorem upV_succ (g : List (List Int)) (n : Nat) : upV g (n + 1) = upV g n ++ [up1 g n] := by simp [upV, List.range_succ]
theorem up_next {l : List Int} {k : Nat} {x : Int} (i : Nat) (h : l[k]? = some x) : (l.take (k + 1)).filter (upB i) = (l.take k).filter (upB i) ++ if upB i x = true then [x] else [] := by
  rw [take_nx h, List.filter_append]
  congr 1
  by_cases e : upB i x = true
  · rw [if_pos e, List.filter_cons_of_pos e]; rfl
  · rw [if_neg e, List.filter_cons_of_neg e]; rfl
theorem up_rise (g : List (List Int)) (n : Nat) : ∀ i (k : Nat), (k : Int) ∈ (upV g n).getD i [] → i < k := by
  intro i k h
  unfold upV at h
  rw [List.getD_eq_getElem?_getD, List.getElem?_map] at h
  cases hr : (List.range n)[i]? with
  | none => rw [hr] at h; simp at h
  | some j =>
    rw [hr] at h
    have hi := (List.getElem?_eq_some_iff.1 hr).1
    rw [List.getElem?_range (by simpa using hi)] at hr
    cases hr
    have h2 : (k : Int) ∈ up1 g i := h
    unfold up1 at h2
    have := (List.mem_filter.1 h2).2
    unfold upB at this
    rw [decide_eq_true_iff] at this
    omega
theorem up_none (g : List (List Int)) (n : Nat) : loopsV (upV g n) = [] := by
  apply List.eq_nil_iff_forall_not_mem.2
  intro x hx
  obtain ⟨⟨b, hb⟩, _⟩ := loopsV_mem.1 hx
  exact (none_back (up_rise g n)).1 _ _ hb
theorem up_flat (g : List (List Int)) (n : Nat) : crossV (upV g n) = false := by
  rw [← Bool.not_eq_true, cross_iff]
  exact (none_back (up_rise g n)).2
set_option maxRecDepth 100000 in
set_option maxHeartbeats 16000000 in
theorem walk (v : Value) (g : List (List Int)) {w : World} (hq : Graph 0 w.heap.size w v g ∧ ∀ l ∈ g, ∀ x ∈ l, NumM.In x) :
    Calls Try.prog 6 #[v] w fun e w' => e = .returned (.bool true) ∧ Below w.heap.size w w' := by
  obtain ⟨hg, hin⟩ := hq
  obtain ⟨A1, k1, rfl⟩ := Row.form hg
  have hgl : g.length ≤ 4611686018427387903 := by obtain ⟨_, _, _, h, _⟩ := Row.get hg; exact h
  have HG := Lib.hid hg
  have HIN := Lib.hid hin
  clear hg hin
  go_enter Try.func6, Try.ntmps6
  go_wp2_with fail
  refine (awake11_any w).mono ?_
  rintro e w1 ⟨rfl, hb1⟩
  have HX1 := Lib.hid hb1
  clear hb1
  go_wp2_with fail
  refine (fewG_any 0 w.heap.size w1 _ g (Graph.move (Still.of_below HX1.out) HG.out) HX1.out.size 60).mono ?_
  rintro e w2 ⟨b2, rfl, hfew, hb2⟩
  have HX2 := Lib.hid (HX1.out.trans (hb2.mono HX1.out.size))
  clear hb2
  cases b2 with
  | false =>
    clear hfew
    go_wp2_with fail
    refine (awake11_any w2).mono ?_
    rintro e w3 ⟨rfl, hb3⟩
    have HX3 := Lib.hid (HX2.out.trans (hb3.mono HX2.out.size))
    clear hb3
    go_wp2_with fail
    go_ret
    exact ⟨rfl, HX3.out⟩
  | true =>
    have hfw := hfew rfl
    have hfl : g.length ≤ 60 := by have := hfw.1; omega
    have HFW := Lib.hid hfw
    clear hfew hfw
    obtain ⟨ii, hi1, hi2, hi3, hi4⟩ := info_in9
    have HII : Hid (Try.prog.info? 3 = some ii ∧ ii.zero = some (.int .i64 0) ∧ ii.size = 1 ∧ ii.bytes = 8) := Lib.hid ⟨hi1, hi2, hi3, hi4⟩
    obtain ⟨ir, hr1, hr2, hr3, hr4⟩ := info_parts info_row9
    have HIR : Hid (Try.prog.info? 32 = some ir ∧ ir.zero = some (.slice none 0 0) ∧ ir.size = 1 ∧ ir.bytes = 24) := Lib.hid ⟨hr1, hr2, hr3, hr4⟩
    clear hi1 hi2 hi3 hi4 hr1 hr2 hr3 hr4
    have hn60 := hfl
    have HAP := Lib.hid (show Hold.Apart w2 w2.heap.size (outR (.slice none 0 0) [] :: inn [] (upV g 0)) from (Hold.Apart.nil w2 w2.heap.size).empty 32 1)
    go_wp2_with fail
    go_loopw [3, 4] (fun vh kv wr => ∃ (i : Nat) (vs : List Value), i ≤ g.length ∧ kv = .int .i64 i ∧ Hid (vs.length = i) ∧ Hid (Hold.Apart wr w2.heap.size (outR vh vs :: inn vs (upV g i))) ∧ Hid (Below w2.heap.size w2 wr)) (fun _ kv _ => g.length - (intOf kv).toNat)
    case atStart => exact ⟨0, [], Nat.zero_le _, rfl, Lib.hid rfl, HAP, Lib.hid (Below.refl _ _)⟩
    case round =>
    obtain ⟨i, vs, hi, rfl, HVS, HA, HBr⟩ := hrel
    obtain ⟨Ah, ch, hvh⟩ := HA.out.head.form
    simp only [HVS.out] at hvh
    subst hvh
    by_cases hlt : i < g.length
    · obtain ⟨gi, hgi⟩ : ∃ x, g[i]? = some x := ⟨_, List.getElem?_eq_getElem hlt⟩
      have hgd : g.getD i [] = gi := by rw [List.getD_eq_getElem?_getD, hgi]; rfl
      have hgl9 : gi.length ≤ 60 := by have := HFW.out.2 gi (List.mem_of_getElem? hgi); omega
      obtain ⟨b1, o1, rfl⟩ := addr_of9 HG.out (by omega)
      obtain ⟨A9, k9, kx, hcx⟩ := graph_cell HG.out hgi
      have HKX := Lib.hid kx
      have HCX := Lib.hid hcx
      have HAI := Lib.hid (show Hold.Apart wr w2.heap.size (innR (.slice none 0 0) ((gi.take 0).filter (upB i)) :: outR (.slice Ah i ch) vs :: inn vs (upV g i)) from HA.out.empty 3 1)
      have HGD := Lib.hid hgd
      clear kx hcx hgd hgi
      go_wp2_with fail
      go_loopw [5, 6] (fun vl kv wr => ∃ k : Nat, k ≤ gi.length ∧ kv = .int .i64 k ∧ Hid (Hold.Apart wr w2.heap.size (innR vl ((gi.take k).filter (upB i)) :: outR (.slice Ah i ch) vs :: inn vs (upV g i))) ∧ Hid (Below w2.heap.size w2 wr)) (fun _ kv _ => gi.length - (intOf kv).toNat)
      case atStart => exact ⟨0, Nat.zero_le _, rfl, HAI, HBr⟩
      case round =>
      obtain ⟨k, hk, rfl, HAI, HBr⟩ := hrel
      obtain ⟨Al, cl, hvl⟩ := HAI.out.head.form
      simp only at hvl
      subst hvl
      have m1 := HCX.out wr (HX2.out.trans (HBr.out.mono HX2.out.size))
      have hbr := HBr.out.size
      by_cases hlk : k < gi.length
      · obtain ⟨x, hx⟩ : ∃ x, gi[k]? = some x := ⟨_, List.getElem?_eq_getElem hlk⟩
        obtain ⟨b2, o2, rfl⟩ := addr_of9 HKX.out (by omega)
        obtain ⟨c2, _, rfl, n2⟩ := cell_of HKX.out hx (HX2.out.trans (HBr.out.mono HX2.out.size))
        have m2 := n2 _ rfl
        have HT := Lib.hid (up_next i hx)
        have hfle := List.length_filter_le (upB i) (gi.take k)
        have htl : (gi.take k).length ≤ 60 := by rw [List.length_take]; omega
        clear n2 hx
        by_cases hxi : (i : Int) < x
        · have e1 : decide ((i : Int) < x) = true := decide_eq_true hxi
          have HU := Lib.hid (show upB i x = true from e1)
          clear hxi
          go_wp2_with (at_builtin; refine Hold.wpList_grow (R := outR (.slice Ah i ch) vs :: inn vs (upV g i)) rfl _ _ 32 rfl w2.heap.size (innR (.slice Al ((gi.take k).filter (upB i)).length cl) ((gi.take k).filter (upB i))) ii _ 8 Try.underlying32 HII.out.1 HII.out.2.1 HII.out.2.2.1 HII.out.2.2.2 rfl Nat.one_pos rfl HAI.out [i64 x] _ rfl rfl rfl (by intro u hu; rw [List.mem_singleton] at hu; subst hu; rfl) (by show ((gi.take k).filter (upB i)).length + 1 ≤ _; omega) (by show (((gi.take k).filter (upB i)).length + 1) * 8 ≤ _; omega) hbr ?_; intro v7 w7 hA7 hB7; have HA7 := Lib.hid (snoc9 (l := (gi.take k).filter (upB i)) hA7); have HB7 := Lib.hid (HBr.out.trans hB7); clear hA7 hB7)
          go_roundw
          case rel => exact ⟨k + 1, by omega, by go_num, by rw [HT.out, if_pos HU.out]; exact HA7, HB7⟩
          case measure => simp [intOf]; omega
        · have e1 : decide ((i : Int) < x) = false := decide_eq_false hxi
          have HU := Lib.hid (show upB i x = false from e1)
          clear hxi
          go_wp2_with fail
          go_roundw
          case rel => exact ⟨k + 1, by omega, by go_num, by rw [HT.out, if_neg (by rw [HU.out]; simp), List.append_nil]; exact HAI, HBr⟩
          case measure => simp [intOf]; omega
      · have hke : k = gi.length := by omega
        have hfle := List.length_filter_le (upB i) (gi.take k)
        have HE := Lib.hid (show (gi.take k).filter (upB i) = up1 g i by rw [hke, List.take_length]; unfold up1; rw [HGD.out])
        have HA2 := Lib.hid (HAI.out.perm (List.Perm.swap _ _ _))
        have hvsl := HVS.out
        clear hke
        go_wp2_with (at_builtin; refine Hold.wpList_grow (R := innR (.slice Al ((gi.take k).filter (upB i)).length cl) ((gi.take k).filter (upB i)) :: inn vs (upV g i)) rfl _ _ 22 rfl w2.heap.size (outR (.slice Ah i ch) vs) ir _ 24 Try.underlying22 HIR.out.1 HIR.out.2.1 HIR.out.2.2.1 HIR.out.2.2.2 rfl Nat.one_pos rfl HA2.out [.slice Al ((gi.take k).filter (upB i)).length cl] _ rfl rfl rfl (by intro u hu; rw [List.mem_singleton] at hu; subst hu; rfl) (by show vs.length + 1 ≤ _; omega) (by show (vs.length + 1) * 24 ≤ _; omega) hbr ?_; intro v7 w7 hA7 hB7; have HA7 := Lib.hid hA7; have HB7 := Lib.hid (HBr.out.trans hB7); clear hA7 hB7)
        go_roundw
        case rel =>
          refine ⟨i + 1, vs ++ [.slice Al ((gi.take k).filter (upB i)).length cl], by omega, by go_num, Lib.hid (by rw [List.length_append, HVS.out]; rfl), Lib.hid ?_, HB7⟩
          have h9 := HA7.out
          have e3 : inn (vs ++ [.slice Al ((gi.take k).filter (upB i)).length cl]) (upV g i ++ [(gi.take k).filter (upB i)]) = inn vs (upV g i) ++ [innR (.slice Al ((gi.take k).filter (upB i)).length cl) ((gi.take k).filter (upB i))] := by
            unfold inn
            rw [List.zipWith_append (by rw [HVS.out, upV_len])]
            rfl
          have e2 : outR v7 (vs ++ [.slice Al ((gi.take k).filter (upB i)).length cl]) = ⟨32, 1, v7, vs.length + 1, vs ++ [.slice Al ((gi.take k).filter (upB i)).length cl]⟩ := by simp [outR]
          rw [upV_succ, ← HE.out, e3, e2]
          exact h9.perm (List.Perm.cons _ (List.perm_append_comm (l₁ := [innR (.slice Al ((gi.take k).filter (upB i)).length cl) ((gi.take k).filter (upB i))]) (l₂ := inn vs (upV g i))))
        case measure => simp [intOf]; omega
    · have hie : i = g.length := by omega
      have HGO := Lib.hid (show GOwn wr w2.heap.size (.slice Ah i ch) (upV g g.length) from ⟨vs, by rw [HVS.out, upV_len, hie], by rw [← hie]; exact HA.out⟩)
      have HUS : ∀ l ∈ upV g g.length, l.length ≤ 4611686018427387903 := fun l hl => by
        obtain ⟨m, hm, rfl⟩ := List.mem_map.1 hl
        have := List.length_filter_le (upB m) (g.getD m [])
        have h5 : (g.getD m []).length ≤ 60 := by
          rw [List.mem_range] at hm
          obtain ⟨y, hy⟩ : ∃ y, g[m]? = some y := ⟨_, List.getElem?_eq_getElem hm⟩
          rw [List.getD_eq_getElem?_getD, hy]
          have := HFW.out.2 y (List.mem_of_getElem? hy)
          show y.length ≤ 60
          omega
        unfold up1
        omega
      have HUG := Lib.hid (HGO.out.graph (hi := wr.heap.size) (Nat.le_refl _) (by rw [upV_len]; omega) HUS)
      have HBW := Lib.hid (HX2.out.trans (HBr.out.mono HX2.out.size))
      clear hie HUS
      go_wp2_with fail
      refine (lall_any _ wr.heap.size wr _ (upV g g.length) HUG.out (Nat.le_refl _) (by rw [upV_len]; omega)).mono ?_
      rintro e w5 ⟨vq, rfl, hq, hb⟩
      rw [up_none] at hq
      have HX5 := Lib.hid (HBW.out.trans (hb.mono HBW.out.size))
      have HUG5 := Lib.hid (Graph.move (still_up hb hb.size) HUG.out)
      obtain ⟨Aq, cq, hvq⟩ : ∃ A c, vq = .slice A 0 c := by
        obtain ⟨vs9, _, ha⟩ := hq
        obtain ⟨A, c, e⟩ := ha.head.form
        exact ⟨A, c, e⟩
      subst hvq
      clear hb hq
      go_wp2_with fail
      refine (lcross_any 0 w5.heap.size w5 _ (upV g g.length) HUG5.out (Nat.le_refl _) (by rw [upV_len]; omega)).mono ?_
      rintro e w6 ⟨rfl, hb⟩
      rw [up_flat]
      have HX6 := Lib.hid (HX5.out.trans (hb.mono HX5.out.size))
      clear hb
      go_wp2_with fail
      go_ret
      exact ⟨rfl, HX6.out⟩

set_option maxRecDepth 100000 in
theorem lifted (os : Os) (started : os.Started) (H : Type) (enc : TypeId × Value → H) :
    ReturnsInHanded {} Try.checked os 6 .any (Rows.loopsNoneSpec.pre6 enc Try.prog Try.f6 Rows.loopsNoneRow.domain false) (Rows.loopsNoneSpec.post enc Try.prog Try.f6 false true false false) := by
  refine returnsInHanded_of_change_sized (C := Try.checked) (by kernel_rfl) started (by kernel_rfl) Try.func6
    (ChangeSpec.witness6 (enc := enc) (C := Try.checked) false ⟨#[], #[.slice none 0 0], []⟩ 8 (by kernel_rfl) (by kernel_rfl) (by kernel_rfl) (by kernel_rfl)) ?_
  intro W base args ds gs before hval0 hW hcnd hsz0 _
  have hval : ∀ (j : Nat) t v, Try.f6.params[j]? = some t → args[j]? = some v → Value.okWide Try.prog W .any base t v := hval0
  have hW' := hW
  obtain ⟨p, q, hA0, hV, rfl, hfz, hnd⟩ := hW
  have hsz : (DataW.weightsEach Try.prog (Try.f6.params.toList ++ Rows.loopsNoneSpec.plain.varTypes Try.prog) (ds ++ gs)).all (· ≤ reachBytes) = true := hsz0
  have hA : DataW.TrodAll enc Try.prog W 0 (fun _ => true) true Try.f6.params.toList args.toList ds p := hA0
  rw [Try.params6] at hA hval hsz
  obtain ⟨v0, vs0, d0, ds0, p0, q0, hargs, rfl, rfl, h0, r0⟩ := trodAll_cons hA
  obtain ⟨rfl, rfl, rfl⟩ := trodAll_nil r0
  obtain rfl : args = #[v0] := by cases args; simp_all
  obtain ⟨rfl, rfl⟩ := trodVars_none hV
  obtain ⟨xs0, hG0⟩ := OpenG.open_graph hsz (j := 0) rfl rfl (hval 0 22 v0 rfl rfl) h0
  clear hA0 hval0
  simp only [List.append_nil] at hW'
  refine (walk v0 xs0 hG0).mono fun e W' ⟨he, hg⟩ => ?_
  subst he
  exact ⟨_, rfl, Shell.lawPost (by kernel_rfl) rfl (by kernel_rfl) rfl Try.underlying4 hW' rfl hg⟩

/-- The statement. -/
theorem proved : Rows.LoopsNoneSaid :=
  OpenClaim.holds_of_wide 6 Try.f6 rfl rfl rfl rfl rfl rfl rfl ⟨rfl, rfl, rfl, rfl, rfl⟩ rfl rfl rfl rfl rfl (by kernel_rfl) Try.func6 (by kernel_rfl)
    (of_decide_eq_true (by kernel_rfl)) (by unfold Func.isWrapper; first | (rw [if_pos (by decide +kernel)]; kernel_rfl) | (rw [if_neg (by decide +kernel)]; exact ⟨rfl, rfl⟩))
    (fun os started H enc _ => lifted os started H enc)
end Go.Proofs.Ytdkcgfpgpnlklaa.loopsNone
