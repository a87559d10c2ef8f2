/-
  Layer 10: the document's Without walked.
-/
import Derived.Test.YtiohngbmddfgfaaDomP
import Derived.Test.YtiohngbmddfgfaaFlPreds
namespace Go.Proofs.Ytiohngbmddfgfaa.Dm10
open Go.RowKit Api Mem Fl9

/-- what is left of one list. -/
def cutL (i a : Int) (l : List Int) : List Int := if i = a then [] else l.filter fun x => !decide (x = a)
theorem cutL_next {i a : Int} {l : List Int} {j : Nat} {x : Int} (h : l[j]? = some x) : cutL i a (l.take (j + 1)) = cutL i a (l.take j) ++ if i ≠ a ∧ x ≠ a then [x] else [] := by
  obtain ⟨h1, h2⟩ := List.getElem?_eq_some_iff.1 h
  unfold cutL
  rw [List.take_succ_eq_append_getElem h1, h2]
  by_cases e : i = a
  · simp [e]
  · rw [if_neg e, if_neg e, List.filter_append]
    by_cases e2 : x = a
    · rw [if_neg (by simp [e2]), List.filter_cons_of_neg (by simp [e2])]; rfl
    · rw [if_pos ⟨e, e2⟩, List.filter_cons_of_pos (by simp [e2])]; rfl
theorem cutL_len (i a : Int) (l : List Int) : (cutL i a l).length ≤ l.length := by
  unfold cutL
  split
  · simp
  · exact List.length_filter_le _ _
theorem cutV_eq (g : List (List Int)) (a : Int) {k : Nat} {gk : List Int} (h : g[k]? = some gk) : (cutV g a)[k]? = some (cutL (k : Int) a gk) := by
  have hk := (List.getElem?_eq_some_iff.1 h).1
  unfold cutV
  rw [List.getElem?_map, List.getElem?_range hk]
  have e : g.getD k [] = gk := by rw [List.getD_eq_getElem?_getD, h]; rfl
  simp only [Option.map_some, e]
  rfl
theorem take_nx {α : Type} {l : List α} {k : Nat} {x : α} (h : l[k]? = some x) : l.take (k + 1) = l.take k ++ [x] := by
  obtain ⟨h1, h2⟩ := List.getElem?_eq_some_iff.1 h
  rw [List.take_succ_eq_append_getElem h1, h2]
/-- what Without answers. -/
def WithoutP (g : List (List Int)) (a : Nat) (w : World) (e : Ending) (w' : World) : Prop := ∃ vm, e = .returned vm ∧ w'.ownsRow w.heap.size 4 1 vm g.length (bC (withoutV g a)) ∧ Below w.heap.size w w'
set_option maxRecDepth 100000 in
set_option maxHeartbeats 8000000 in
theorem without_any (lo hi : Nat) (w : World) (v : Value) (g : List (List Int)) (hg : Graph lo hi w v g) (hh : hi ≤ w.heap.size) (hn : g.length ≤ 1000) (hs : ∀ l ∈ g, l.length ≤ 1000) (a : Nat) :
    Calls Try.prog 35 #[v, i64 (a : Int)] w (WithoutP g a w) := by
  obtain ⟨A1, k1, rfl⟩ := Row.form hg
  obtain ⟨ii, hi1, hi2, hi3, hi4⟩ := info_in9
  have HII : Hid (Try.prog.info? 3 = some ii ∧ ii.zero = some (.int .i64 0) ∧ ii.size = 1 ∧ ii.bytes = 8) := Lib.hid ⟨hi1, hi2, hi3, hi4⟩
  obtain ⟨ir, hr1, hr2, hr3, hr4⟩ := info_parts info_row9
  have HIR : Hid (Try.prog.info? 31 = some ir ∧ ir.zero = some (.slice none 0 0) ∧ ir.size = 1 ∧ ir.bytes = 24) := Lib.hid ⟨hr1, hr2, hr3, hr4⟩
  have HG := Lib.hid hg
  have HS := Lib.hid hs
  have hmm := fun (w : World) => run_row9 (P := Try.prog) (t := 49) Try.underlying49 info_bool9 rfl (by decide) g.length (by omega) w
  clear hg hs hi1 hi2 hi3 hi4 hr1 hr2 hr3 hr4
  go_enter Try.func35, Try.ntmps35
  go_wp2_with fail
  go_loopw [5, 6] (fun vo i wr => ∃ k : Nat, k ≤ g.length ∧ i = .int .i64 k ∧ Hid (GOwn wr w.heap.size vo ((cutV g (a : Int)).take k)) ∧ Hid (Below w.heap.size w wr)) (fun _ i _ => g.length - (intOf i).toNat)
  case atStart => exact ⟨0, Nat.zero_le _, rfl, Lib.hid ⟨[], rfl, (Hold.Apart.nil w w.heap.size).empty 31 1⟩, Lib.hid (Below.refl _ _)⟩
  case round =>
  obtain ⟨k, hk, rfl, HGO, HBr⟩ := hrel
  by_cases hlt : k < g.length
  · have htk : ((cutV g (a : Int)).take k).length = k := by rw [List.length_take, cut_len]; omega
    obtain ⟨Ao, co, hvo⟩ := HGO.out.form
    rw [htk] at hvo
    subst hvo
    obtain ⟨vs, hvs, hap⟩ := HGO.out
    rw [htk] at hvs
    have HVS := Lib.hid hvs
    have HTK := Lib.hid htk
    have HAP := Lib.hid (hap.empty 3 1)
    obtain ⟨gk, hgk⟩ : ∃ x, g[k]? = some x := ⟨_, List.getElem?_eq_getElem hlt⟩
    have hgl := HS.out gk (List.mem_of_getElem? hgk)
    have HNX := Lib.hid (take_nx (cutV_eq g (a : Int) hgk))
    obtain ⟨b1, o1, rfl⟩ := addr_of9 HG.out (by omega)
    have HGK := Lib.hid hgk
    clear hvs hap HGO htk hgk
    go_wp2_with fail
    go_loopw [7, 8] (fun vl jv wr => ∃ j : Nat, j ≤ gk.length ∧ jv = .int .i64 j ∧ Hid (Hold.Apart wr w.heap.size (innR vl (cutL (k : Int) (a : Int) (gk.take j)) :: outR (.slice Ao k co) vs :: inn vs ((cutV g (a : Int)).take k))) ∧ Hid (Below w.heap.size w wr)) (fun _ jv _ => gk.length - (intOf jv).toNat)
    case atStart => exact ⟨0, Nat.zero_le _, rfl, by rw [show cutL (k : Int) (a : Int) (gk.take 0) = [] by simp [cutL]]; exact HAP, HBr⟩
    case round =>
    obtain ⟨j, hj, rfl, HA, HBr⟩ := hrel
    obtain ⟨T, hT⟩ : ∃ T, cutL (k : Int) (a : Int) (gk.take j) = T := ⟨_, rfl⟩
    have hTl : T.length ≤ 1000 := by rw [← hT]; have := cutL_len (k : Int) (a : Int) (gk.take j); rw [List.length_take] at this; omega
    rw [hT] at HA
    obtain ⟨Al, cl, hvl⟩ := HA.out.head.form
    simp only at hvl
    subst hvl
    obtain ⟨c1, _, ⟨u1, rfl, kx⟩, n1⟩ := cell_of HG.out HGK.out (HBr.out.mono hh)
    obtain ⟨A3, k3, rfl⟩ := Row.form kx
    have m1 := n1 _ rfl
    have KX := Lib.hid kx
    clear n1 kx
    by_cases hlt2 : j < gk.length
    · obtain ⟨x, hx⟩ : ∃ x, gk[j]? = some x := ⟨_, List.getElem?_eq_getElem hlt2⟩
      obtain ⟨b2, o2, rfl⟩ := addr_of9 KX.out (by omega)
      obtain ⟨c2, _, rfl, n2⟩ := cell_of KX.out hx (HBr.out.mono hh)
      have m2 := n2 _ rfl
      have hnx := cutL_next (i := (k : Int)) (a := (a : Int)) hx
      rw [hT] at hnx
      have hs9 := HBr.out.size
      clear n2 hx hT
      by_cases e1 : k = a
      · have HN := Lib.hid (show cutL (k : Int) (a : Int) (gk.take (j + 1)) = T by rw [hnx, if_neg (by omega), List.append_nil])
        clear hnx
        subst e1
        go_wp2_with fail
        go_roundw
        case rel => exact ⟨j + 1, by omega, by go_num, by rw [HN.out]; exact HA, HBr⟩
        case measure => simp [intOf]; omega
      · have t1 : ((k : Int) == (a : Int)) = false := by rw [beq_eq_false_iff_ne]; omega
        have t1n : ((k : Int) != (a : Int)) = true := by rw [bne, t1]; rfl
        have t1m : decide (k = a) = false := decide_eq_false e1
        by_cases e2 : x = (a : Int)
        · have HN := Lib.hid (show cutL (k : Int) (a : Int) (gk.take (j + 1)) = T by rw [hnx, if_neg (fun h => h.2 e2), List.append_nil])
          clear hnx e1
          subst e2
          go_wp2_with fail
          go_roundw
          case rel => exact ⟨j + 1, by omega, by go_num, by rw [HN.out]; exact HA, HBr⟩
          case measure => simp [intOf]; omega
        · have HN := Lib.hid (show cutL (k : Int) (a : Int) (gk.take (j + 1)) = T ++ [x] by rw [hnx, if_pos ⟨by omega, e2⟩])
          have t2 : (x == (a : Int)) = false := by simpa using e2
          have t2n : (x != (a : Int)) = true := by rw [bne, t2]; rfl
          clear hnx e1 e2
          go_wp2_with (at_builtin; refine Hold.wpList_grow (R := outR (.slice Ao k co) vs :: inn vs ((cutV g (a : Int)).take k)) rfl _ _ 31 rfl w.heap.size (innR (.slice Al T.length cl) T) ii _ 8 Try.underlying31 HII.out.1 HII.out.2.1 HII.out.2.2.1 HII.out.2.2.2 rfl Nat.one_pos rfl HA.out [i64 x] _ rfl rfl rfl (by intro u hu; rw [List.mem_singleton] at hu; subst hu; rfl) (by show T.length + 1 ≤ _; omega) (by show (T.length + 1) * 8 ≤ _; omega) hs9 ?_; intro v7 w7 hA7 hB7; have HA7 := Lib.hid (snoc9 (l := T) hA7); have HB7 := Lib.hid (HBr.out.trans hB7); clear hA7 hB7)
          go_roundw
          case rel => exact ⟨j + 1, by omega, by go_num, by rw [HN.out]; exact HA7, HB7⟩
          case measure => simp [intOf]; omega
    · have hje : j = gk.length := by omega
      subst hje
      rw [List.take_of_length_le (Nat.le_refl _)] at hT
      subst hT
      have HA2 := Lib.hid (HA.out.perm (List.Perm.swap _ _ _))
      have hs9 := HBr.out.size
      obtain ⟨T, hT⟩ : ∃ T, cutL (k : Int) (a : Int) gk = T := ⟨_, rfl⟩
      rw [hT] at HA2 HNX ⊢
      clear hTl HA hT
      go_wp2_with (at_builtin; refine Hold.wpList_grow (R := innR (.slice Al T.length cl) T :: inn vs ((cutV g (a : Int)).take k)) rfl _ _ 22 rfl w.heap.size (outR (.slice Ao k co) vs) ir _ 24 Try.underlying22 HIR.out.1 HIR.out.2.1 HIR.out.2.2.1 HIR.out.2.2.2 rfl Nat.one_pos rfl HA2.out [.slice Al T.length cl] _ rfl rfl rfl (by intro u hu; rw [List.mem_singleton] at hu; subst hu; rfl) (by show vs.length + 1 ≤ _; have := HVS.out; omega) (by show (vs.length + 1) * 24 ≤ _; have := HVS.out; omega) hs9 ?_; intro v7 w7 hA7 hB7; have HG7 := Lib.hid (GOwn.snoc (by rw [HVS.out, HTK.out]) hA7); have HB7 := Lib.hid (HBr.out.trans hB7); clear hA7 hB7)
      rw [← HNX.out] at HG7
      go_roundw
      case rel => exact ⟨k + 1, by omega, by go_num, HG7, HB7⟩
      case measure => simp [intOf]; omega
  · have hke : k = g.length := by omega
    rw [hke, List.take_of_length_le (by rw [cut_len]; exact Nat.le_refl _)] at HGO
    clear hke
    obtain ⟨Ao, co, hvo⟩ := HGO.out.form
    rw [cut_len] at hvo
    subst hvo
    have hcs : ∀ l ∈ cutV g (a : Int), l.length ≤ 4611686018427387903 := by
      intro l hl
      obtain ⟨i, hi⟩ := List.mem_iff_getElem?.1 hl
      have hil := (List.getElem?_eq_some_iff.1 hi).1
      rw [cut_len] at hil
      obtain ⟨gi, hgi⟩ : ∃ x, g[i]? = some x := ⟨_, List.getElem?_eq_getElem hil⟩
      rw [cutV_eq g (a : Int) hgi] at hi
      cases hi
      have h1 := cutL_len (i : Int) (a : Int) gi
      have h2 := HS.out gi (List.mem_of_getElem? hgi)
      omega
    have hGC := HGO.out.graph (hi := wr.heap.size) (Nat.le_refl _) (by rw [cut_len]; omega) hcs
    have QC := Lib.hid (rcomeG_any _ _ wr _ (cutV g (a : Int)) hGC (Nat.le_refl _) (by rw [cut_len]; exact hn))
    have hs9 := HBr.out.size
    clear hGC hcs
    go_wp2_with fail
    refine QC.out.mono ?_
    rintro e w6 ⟨vm, rfl, om, hb6⟩
    rw [cut_len] at om
    have HM := Lib.hid om
    have HB6 := Lib.hid (HBr.out.trans (hb6.mono hs9))
    have hs6 := hb6.size
    clear om hb6
    by_cases ha : a = 0
    · subst ha
      have hR : withoutV g 0 = List.replicate g.length false := by unfold withoutV; rw [if_pos rfl]
      obtain ⟨W8, hW8⟩ : ∃ W, w6.alloc (.cells (List.replicate g.length (.bool false)).toArray 4) = W := ⟨_, rfl⟩
      have HO8 := Lib.hid (row_made9 g.length w6.heap.size hW8 rfl hn)
      have HB8 := Lib.hid (show Below w.heap.size w W8 by rw [← hW8]; exact HB6.out.alloc (Nat.le_trans hs9 hs6) _)
      have HW8 := Lib.hid (show w6.alloc (.cells (Array.replicate g.length (.bool false)) 4) = W8 by rw [← hW8]; simp)
      have HRR := Lib.hid hR
      clear hW8 hR
      go_wp2_with fail
      rw [HW8.out]
      go_ret
      refine ⟨_, rfl, ?_, HB8.out⟩
      rw [HRR.out, show bC (List.replicate g.length false) = List.replicate g.length (.bool false) from List.map_replicate]
      exact Hold.Rec.on.lower (r := ⟨4, 1, _, _, _⟩) HO8.out (Nat.le_trans hs9 hs6)
    · have t1 : ((a : Int) == 0) = false := by rw [beq_eq_false_iff_ne]; omega
      have HR := Lib.hid (show withoutV g a = comeV (cutV g (a : Int)) by unfold withoutV; rw [if_neg ha])
      clear ha
      go_wp2_with fail
      go_ret
      exact ⟨_, rfl, by rw [HR.out]; exact (Hold.Rec.on.lower (r := ⟨4, 1, _, _, _⟩) HM.out hs9), HB6.out⟩
end Go.Proofs.Ytiohngbmddfgfaa.Dm10
