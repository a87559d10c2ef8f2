/-
  A point is told to dominate another one that can be come to just if that can't be come to without it.
-/
import Derived.Test.YtdjggoddpohceaaRows
import Derived.Test.YtdjggoddpohceaaLaw10
import Derived.Test.YtdjggoddpohceaaOpenG
import Derived.Test.YtdjggoddpohceaaDomF
import Derived.Deep.RegionHeld3
import Derived.Test.YtdjggoddpohceaaShell
import Derived.ProofKit
import Derived.OpenShut
import Derived.SizedLaws
namespace Go.Proofs.Ytdjggoddpohceaa.domMeans
open Go.ChangeShapes Go.WideShapes Go.ChangeAt Go.RowKit
open Api Mem Fl9 Dm10 L09 L10
theorem dm_anc {g : List (List Int)} {near : List Int} (hf : Fix g near) (hu : Ups9 g near) {a b : Nat} (hb : Come g b) : dmV near (a : Int) near.length (b : Int) = true ↔ Anc near a b := by
  rw [dm_iff hf hu near.length b hb (by have := pos_lt hb; have := order_len g; rw [hf.len9]; omega)]
  constructor
  · rintro ⟨k, h1, h2⟩
    obtain rfl : a = k := by omega
    exact h2
  · exact fun h => ⟨a, rfl, h⟩
theorem wrap10 {a : Int} (ha : (Lit.int .u8 a).wf = true) : wrap64 a = a := by
  have h' : IntKind.u8.min ≤ a ∧ a ≤ IntKind.u8.max := by simpa [Lit.wf] using ha
  have e1 : IntKind.u8.min = 0 := by decide
  have e2 : IntKind.u8.max = 255 := by decide
  exact NumM.wrap_in (show NumM.In a from ⟨by omega, by omega⟩)
theorem mod10 {a : Int} {n : Nat} (ha : (Lit.int .u8 a).wf = true) (hn : n ≠ 0) : ∃ x : Nat, a.tmod (n : Int) = (x : Int) ∧ x < n := by
  have h0 : 0 ≤ a ∧ a < 256 := by
    have h' : IntKind.u8.min ≤ a ∧ a ≤ IntKind.u8.max := by simpa [Lit.wf] using ha
    have e1 : IntKind.u8.min = 0 := by decide
    have e2 : IntKind.u8.max = 255 := by decide
    omega
  obtain ⟨p, rfl⟩ : ∃ p : Nat, a = (p : Int) := ⟨a.toNat, by omega⟩
  exact ⟨p % n, rfl, Nat.mod_lt _ (by omega)⟩
theorem dom_first {g : List (List Int)} {y : Nat} (h : Come g y) : Dom g 0 y := ⟨h, by have := h.last.1; omega, fun w => w.start.2 rfl⟩
set_option maxRecDepth 100000 in
set_option maxHeartbeats 16000000 in
theorem walk (v : Value) (g : List (List Int)) (a b : Int) {w : World} (hq : Graph 0 w.heap.size w v g ∧ ∀ l ∈ g, ∀ x ∈ l, NumM.In x) (ha : (Lit.int .u8 a).wf = true) (hb0 : (Lit.int .u8 b).wf = true) :
    Calls Try.prog 5 #[v, .int .u8 a, .int .u8 b] w fun e w' => e = .returned (.bool true) ∧ Below w.heap.size w w' := by
  obtain ⟨hg, hin⟩ := hq
  obtain ⟨A1, k1, rfl⟩ := Row.form hg
  have hgl : g.length ≤ 4611686018427387903 := by obtain ⟨_, _, _, h, _⟩ := Row.get hg; exact h
  have HG := Lib.hid hg
  have HIN := Lib.hid hin
  clear hg hin
  go_enter Try.func5, Try.ntmps5
  go_wp2_with fail
  refine (awake10_any w).mono ?_
  rintro e w1 ⟨rfl, hb1⟩
  have HX1 := Lib.hid hb1
  clear hb1
  go_wp2_with fail
  refine (fewG_any 0 w.heap.size w1 _ g (Graph.move (Still.of_below HX1.out) HG.out) HX1.out.size 60).mono ?_
  rintro e w2 ⟨b2, rfl, hfew, hb2⟩
  have HX2 := Lib.hid (HX1.out.trans (hb2.mono HX1.out.size))
  clear hb2
  cases b2 with
  | false =>
    clear hfew
    go_wp2_with fail
    refine (awake10_any w2).mono ?_
    rintro e w3 ⟨rfl, hb3⟩
    have HX3 := Lib.hid (HX2.out.trans (hb3.mono HX2.out.size))
    clear hb3
    go_wp2_with fail
    go_ret
    exact ⟨rfl, HX3.out⟩
  | true =>
    have hfw := hfew rfl
    have hfl : g.length ≤ 60 := by have := hfw.1; omega
    have HFW := Lib.hid hfw
    clear hfew hfw
    have HN := Lib.hid (show g.length ≤ 1000 by omega)
    by_cases h0 : g.length = 0
    · have e0 : ((g.length : Int) == 0) = true := by rw [h0]; rfl
      clear h0
      go_wp2_with fail
      refine (awake10_any w2).mono ?_
      rintro e w3 ⟨rfl, hb3⟩
      have HX3 := Lib.hid (HX2.out.trans (hb3.mono HX2.out.size))
      clear hb3
      go_wp2_with fail
      go_ret
      exact ⟨rfl, HX3.out⟩
    · have e0 : ((g.length : Int) == 0) = false := by rw [beq_eq_false_iff_ne]; omega
      obtain ⟨x, hx, hxl⟩ := mod10 ha h0
      obtain ⟨y, hy, hyl⟩ := mod10 hb0 h0
      have hpos : 0 < g.length := by omega
      clear h0
      go_wp2_with fail
      rw [wrap10 ha, wrap10 hb0, hx, hy]
      clear hx hy ha hb0
      refine (come_any9 0 w.heap.size w2 _ g (Graph.move (Still.of_below HX2.out) HG.out) HX2.out.size (by omega)).mono ?_
      rintro e w3 ⟨vm, rfl, ho, hb⟩
      have HX3 := Lib.hid (HX2.out.trans (hb.mono HX2.out.size))
      have HM := Lib.hid (bools_own (l := comeV g) (hi := w3.heap.size) (by rw [come_len]; exact ho) (Nat.le_refl _) (by rw [come_len]; omega))
      obtain ⟨gm, cm, rfl, _, _, _⟩ := form9 ho (by omega)
      obtain ⟨yb, hyb⟩ : ∃ b, (comeV g)[y]? = some b := ⟨_, List.getElem?_eq_getElem (by rw [come_len]; exact hyl)⟩
      obtain ⟨cs, _, rfl, n1⟩ := cell_of HM.out hyb (Below.refl _ _)
      have m1 := n1 _ rfl
      rw [Nat.zero_add] at m1
      clear ho hb n1
      cases yb with
      | false =>
        clear hyb
        go_wp2_with fail
        go_ret
        exact ⟨rfl, HX3.out⟩
      | true =>
        have HYC := Lib.hid (come_iff.1 hyb)
        clear hyb
        obtain ⟨ii, hi1, hi2, hi3, hi4⟩ := info_in9
        have HII : Hid (Try.prog.info? 3 = some ii ∧ ii.zero = some (.int .i64 0) ∧ ii.size = 1 ∧ ii.bytes = 8) := Lib.hid ⟨hi1, hi2, hi3, hi4⟩
        obtain ⟨ir, hr1, hr2, hr3, hr4⟩ := info_parts info_row9
        have HIR : Hid (Try.prog.info? 25 = some ir ∧ ir.zero = some (.slice none 0 0) ∧ ir.size = 1 ∧ ir.bytes = 24) := Lib.hid ⟨hr1, hr2, hr3, hr4⟩
        clear hi1 hi2 hi3 hi4 hr1 hr2 hr3 hr4
        go_wp2_with fail
        go_loopw [10, 11] (fun vo iv wr => ∃ k : Nat, k ≤ g.length ∧ iv = .int .i64 k ∧ Hid (GOwn wr w3.heap.size vo ((cutV g (x : Int)).take k)) ∧ Hid (Below w3.heap.size w3 wr)) (fun _ iv _ => g.length - (intOf iv).toNat)
        case atStart => exact ⟨0, Nat.zero_le _, rfl, Lib.hid ⟨[], rfl, (Hold.Apart.nil w3 w3.heap.size).empty 25 1⟩, Lib.hid (Below.refl _ _)⟩
        case round =>
        obtain ⟨k, hk, rfl, HGO, HBr⟩ := hrel
        by_cases hlt : k < g.length
        · have htk : ((cutV g (x : Int)).take k).length = k := by rw [List.length_take, cut_len]; omega
          obtain ⟨Ao, co, hvo⟩ := HGO.out.form
          rw [htk] at hvo
          subst hvo
          obtain ⟨vs, hvs, hap⟩ := HGO.out
          rw [htk] at hvs
          have HVS := Lib.hid hvs
          have HTK := Lib.hid htk
          have HAP := Lib.hid (hap.empty 3 1)
          obtain ⟨gk, hgk⟩ : ∃ x, g[k]? = some x := ⟨_, List.getElem?_eq_getElem hlt⟩
          have hgl2 := HFW.out.2 gk (List.mem_of_getElem? hgk)
          have HNX := Lib.hid (take_nx (cutV_eq g (x : Int) hgk))
          obtain ⟨b1, o1, rfl⟩ := addr_of9 HG.out (by omega)
          have HGK := Lib.hid hgk
          have HKX := Lib.hid (show (k : Int) = (x : Int) → cutL (k : Int) (x : Int) gk = [] from fun h => by unfold cutL; rw [if_pos h])
          have HXX := Lib.hid (fun (wr : World) (hb : Below w3.heap.size w3 wr) => HX3.out.trans (hb.mono HX3.out.size))
          clear hvs hap HGO htk hgk
          go_wp2_with fail
          go_loopw [12, 13] (fun vl jv wr => ∃ j : Nat, j ≤ gk.length ∧ jv = .int .i64 j ∧ Hid (k = x → j = 0) ∧ Hid (Hold.Apart wr w3.heap.size (innR vl (cutL (k : Int) (x : Int) (gk.take j)) :: outR (.slice Ao k co) vs :: inn vs ((cutV g (x : Int)).take k))) ∧ Hid (Below w3.heap.size w3 wr)) (fun _ jv _ => gk.length - (intOf jv).toNat)
          case atStart => exact ⟨0, Nat.zero_le _, rfl, Lib.hid (fun _ => rfl), by rw [show cutL (k : Int) (x : Int) (gk.take 0) = [] by simp [cutL]]; exact HAP, HBr⟩
          case round =>
          obtain ⟨j, hj, rfl, HJ0, HA, HBr⟩ := hrel
          obtain ⟨T, hT⟩ : ∃ T, cutL (k : Int) (x : Int) (gk.take j) = T := ⟨_, rfl⟩
          have hTl : T.length ≤ 1000 := by rw [← hT]; have := cutL_len (k : Int) (x : Int) (gk.take j); rw [List.length_take] at this; omega
          rw [hT] at HA
          obtain ⟨Al, cl, hvl⟩ := HA.out.head.form
          simp only at hvl
          subst hvl
          obtain ⟨c1, _, ⟨u1, rfl, kx⟩, n1⟩ := cell_of HG.out HGK.out (HXX.out wr HBr.out)
          obtain ⟨A3, k3, rfl⟩ := Row.form kx
          have m1 := n1 _ rfl
          have KX := Lib.hid kx
          have hs9 := HBr.out.size
          clear n1 kx
          have hend : (k = x ∨ j = gk.length) → T = cutL (k : Int) (x : Int) gk := by
            rintro (h | h)
            · rw [← hT, HJ0.out h, HKX.out (by rw [h])]; simp [cutL]
            · rw [← hT, h, List.take_of_length_le (Nat.le_refl _)]
          have HEND := Lib.hid hend
          clear hend
          by_cases hkx : k = x
          · have HET := Lib.hid (HEND.out (.inl hkx))
            have HA2 := Lib.hid (HA.out.perm (List.Perm.swap _ _ _))
            have t1 : ((k : Int) == (x : Int)) = true := by rw [beq_iff_eq]; omega
            have t1n : ((k : Int) != (x : Int)) = false := by rw [bne, t1]; rfl
            clear hkx hT HEND
            by_cases hj2 : j < gk.length
            · have HNX2 := Lib.hid (show (cutV g (x : Int)).take (k + 1) = (cutV g (x : Int)).take k ++ [T] by rw [HNX.out, HET.out])
              go_wp2_with (at_builtin; refine Hold.wpList_grow (R := innR (.slice Al T.length cl) T :: inn vs ((cutV g (x : Int)).take k)) rfl _ _ 22 rfl w3.heap.size (outR (.slice Ao k co) vs) ir _ 24 Try.underlying22 HIR.out.1 HIR.out.2.1 HIR.out.2.2.1 HIR.out.2.2.2 rfl Nat.one_pos rfl HA2.out [.slice Al T.length cl] _ rfl rfl rfl (by intro u hu; rw [List.mem_singleton] at hu; subst hu; rfl) (by show vs.length + 1 ≤ _; have := HVS.out; omega) (by show (vs.length + 1) * 24 ≤ _; have := HVS.out; omega) hs9 ?_; intro v7 w7 hA7 hB7; have HG7 := Lib.hid (GOwn.snoc (by rw [HVS.out, HTK.out]) hA7); have HB7 := Lib.hid (HBr.out.trans hB7); clear hA7 hB7)
              rw [← HNX2.out] at HG7
              go_roundw
              case rel => exact ⟨k + 1, by omega, by go_num, HG7, HB7⟩
              case measure => simp [intOf]; omega
            · have HNX2 := Lib.hid (show (cutV g (x : Int)).take (k + 1) = (cutV g (x : Int)).take k ++ [T] by rw [HNX.out, HET.out])
              go_wp2_with (at_builtin; refine Hold.wpList_grow (R := innR (.slice Al T.length cl) T :: inn vs ((cutV g (x : Int)).take k)) rfl _ _ 22 rfl w3.heap.size (outR (.slice Ao k co) vs) ir _ 24 Try.underlying22 HIR.out.1 HIR.out.2.1 HIR.out.2.2.1 HIR.out.2.2.2 rfl Nat.one_pos rfl HA2.out [.slice Al T.length cl] _ rfl rfl rfl (by intro u hu; rw [List.mem_singleton] at hu; subst hu; rfl) (by show vs.length + 1 ≤ _; have := HVS.out; omega) (by show (vs.length + 1) * 24 ≤ _; have := HVS.out; omega) hs9 ?_; intro v7 w7 hA7 hB7; have HG7 := Lib.hid (GOwn.snoc (by rw [HVS.out, HTK.out]) hA7); have HB7 := Lib.hid (HBr.out.trans hB7); clear hA7 hB7)
              rw [← HNX2.out] at HG7
              go_roundw
              case rel => exact ⟨k + 1, by omega, by go_num, HG7, HB7⟩
              case measure => simp [intOf]; omega
          · have t1 : ((k : Int) == (x : Int)) = false := by rw [beq_eq_false_iff_ne]; omega
            have t1n : ((k : Int) != (x : Int)) = true := by rw [bne, t1]; rfl
            have t1m : decide (k = x) = false := decide_eq_false hkx
            by_cases hlt2 : j < gk.length
            · obtain ⟨z, hz⟩ : ∃ z, gk[j]? = some z := ⟨_, List.getElem?_eq_getElem hlt2⟩
              obtain ⟨b2, o2, rfl⟩ := addr_of9 KX.out (by omega)
              obtain ⟨c2, _, rfl, n2⟩ := cell_of KX.out hz (HXX.out wr HBr.out)
              have m2 := n2 _ rfl
              have hnx := cutL_next (i := (k : Int)) (a := (x : Int)) hz
              rw [hT] at hnx
              have HJ2 := Lib.hid (show k = x → j + 1 = 0 from fun h => absurd h hkx)
              clear n2 hz hT
              by_cases e2 : z = (x : Int)
              · have HNN := Lib.hid (show cutL (k : Int) (x : Int) (gk.take (j + 1)) = T by rw [hnx, if_neg (fun h => h.2 e2), List.append_nil])
                clear hnx hkx
                subst e2
                go_wp2_with fail
                go_roundw
                case rel => exact ⟨j + 1, by omega, by go_num, HJ2, by rw [HNN.out]; exact HA, HBr⟩
                case measure => simp [intOf]; omega
              · have HNN := Lib.hid (show cutL (k : Int) (x : Int) (gk.take (j + 1)) = T ++ [z] by rw [hnx, if_pos ⟨by omega, e2⟩])
                have t2 : (z == (x : Int)) = false := by simpa using e2
                have t2n : (z != (x : Int)) = true := by rw [bne, t2]; rfl
                clear hnx hkx e2
                go_wp2_with (at_builtin; refine Hold.wpList_grow (R := outR (.slice Ao k co) vs :: inn vs ((cutV g (x : Int)).take k)) rfl _ _ 25 rfl w3.heap.size (innR (.slice Al T.length cl) T) ii _ 8 Try.underlying25 HII.out.1 HII.out.2.1 HII.out.2.2.1 HII.out.2.2.2 rfl Nat.one_pos rfl HA.out [i64 z] _ rfl rfl rfl (by intro u hu; rw [List.mem_singleton] at hu; subst hu; rfl) (by show T.length + 1 ≤ _; omega) (by show (T.length + 1) * 8 ≤ _; omega) hs9 ?_; intro v7 w7 hA7 hB7; have HA7 := Lib.hid (snoc9 (l := T) hA7); have HB7 := Lib.hid (HBr.out.trans hB7); clear hA7 hB7)
                go_roundw
                case rel => exact ⟨j + 1, by omega, by go_num, HJ2, by rw [HNN.out]; exact HA7, HB7⟩
                case measure => simp [intOf]; omega
            · have HET := Lib.hid (HEND.out (.inr (by omega)))
              have HA2 := Lib.hid (HA.out.perm (List.Perm.swap _ _ _))
              have hje : j = gk.length := by omega
              subst hje
              clear hT HEND
              have HNX2 := Lib.hid (show (cutV g (x : Int)).take (k + 1) = (cutV g (x : Int)).take k ++ [T] by rw [HNX.out, HET.out])
              go_wp2_with (at_builtin; refine Hold.wpList_grow (R := innR (.slice Al T.length cl) T :: inn vs ((cutV g (x : Int)).take k)) rfl _ _ 22 rfl w3.heap.size (outR (.slice Ao k co) vs) ir _ 24 Try.underlying22 HIR.out.1 HIR.out.2.1 HIR.out.2.2.1 HIR.out.2.2.2 rfl Nat.one_pos rfl HA2.out [.slice Al T.length cl] _ rfl rfl rfl (by intro u hu; rw [List.mem_singleton] at hu; subst hu; rfl) (by show vs.length + 1 ≤ _; have := HVS.out; omega) (by show (vs.length + 1) * 24 ≤ _; have := HVS.out; omega) hs9 ?_; intro v7 w7 hA7 hB7; have HG7 := Lib.hid (GOwn.snoc (by rw [HVS.out, HTK.out]) hA7); have HB7 := Lib.hid (HBr.out.trans hB7); clear hA7 hB7)
              rw [← HNX2.out] at HG7
              go_roundw
              case rel => exact ⟨k + 1, by omega, by go_num, HG7, HB7⟩
              case measure => simp [intOf]; omega
        · have hke : k = g.length := by omega
          rw [hke, List.take_of_length_le (by rw [cut_len]; exact Nat.le_refl _)] at HGO
          clear hke
          obtain ⟨Ao, co, hvo⟩ := HGO.out.form
          rw [cut_len] at hvo
          subst hvo
          have hcs : ∀ l ∈ cutV g (x : Int), l.length ≤ 4611686018427387903 := by
            intro l hl
            obtain ⟨i, hi⟩ := List.mem_iff_getElem?.1 hl
            have hil := (List.getElem?_eq_some_iff.1 hi).1
            rw [cut_len] at hil
            obtain ⟨gi, hgi⟩ : ∃ x, g[i]? = some x := ⟨_, List.getElem?_eq_getElem hil⟩
            rw [cutV_eq g (x : Int) hgi] at hi
            cases hi
            have h1 := cutL_len (i : Int) (x : Int) gi
            have h2 := HFW.out.2 gi (List.mem_of_getElem? hgi)
            omega
          have HXR := Lib.hid (HX3.out.trans (HBr.out.mono HX3.out.size))
          by_cases hx0 : x = 0
          · have HDM := Lib.hid (show Dom g x y by rw [hx0]; exact dom_first HYC.out)
            have u0 : ((x : Int) == 0) = true := by rw [beq_iff_eq]; omega
            have u0n : ((x : Int) != 0) = false := by rw [bne, u0]; rfl
            clear hcs hx0
            go_wp2_with fail
            refine (near_any 0 w.heap.size wr _ g (Graph.move (Still.of_below HXR.out) HG.out) HXR.out.size (by omega)).mono ?_
            rintro e w8 ⟨vn, rfl, ho, hb, hfx, hup⟩
            have HX8 := Lib.hid (HXR.out.trans (hb.mono HXR.out.size))
            have HN8 := Lib.hid (ints_own (l := nearestV g) (hi := w8.heap.size) (by rw [nearest_len]; exact ho) (Nat.le_refl _) (by rw [nearest_len]; omega))
            have QD := Lib.hid (dominates_any _ _ w8 _ (nearestV g) HN8.out (Nat.le_refl _) (by rw [nearest_len]; omega) (x : Int) (y : Int))
            rw [show dmV (nearestV g) (x : Int) (nearestV g).length (y : Int) = true from by rw [dm_anc hfx hup HYC.out, hfx.dom HYC.out]; exact HDM.out] at QD
            clear ho hb hfx hup
            go_wp2_with fail
            refine QD.out.mono ?_
            rintro e w9 ⟨rfl, hb⟩
            have HX9 := Lib.hid (HX8.out.trans (hb.mono HX8.out.size))
            clear hb
            go_wp2_with fail
            go_ret
            exact ⟨rfl, HX9.out⟩
          · have u0 : ((x : Int) == 0) = false := by rw [beq_eq_false_iff_ne]; omega
            have u0n : ((x : Int) != 0) = true := by rw [bne, u0]; rfl
            by_cases hxy : x = y
            · have HDM := Lib.hid (show Dom g x y by rw [hxy]; exact Dom.self HYC.out)
              have u1 : ((x : Int) == (y : Int)) = true := by rw [beq_iff_eq]; omega
              have u1n : ((x : Int) != (y : Int)) = false := by rw [bne, u1]; rfl
              clear hcs hxy hx0
              go_wp2_with fail
              refine (near_any 0 w.heap.size wr _ g (Graph.move (Still.of_below HXR.out) HG.out) HXR.out.size (by omega)).mono ?_
              rintro e w8 ⟨vn, rfl, ho, hb, hfx, hup⟩
              have HX8 := Lib.hid (HXR.out.trans (hb.mono HXR.out.size))
              have HN8 := Lib.hid (ints_own (l := nearestV g) (hi := w8.heap.size) (by rw [nearest_len]; exact ho) (Nat.le_refl _) (by rw [nearest_len]; omega))
              have QD := Lib.hid (dominates_any _ _ w8 _ (nearestV g) HN8.out (Nat.le_refl _) (by rw [nearest_len]; omega) (x : Int) (y : Int))
              rw [show dmV (nearestV g) (x : Int) (nearestV g).length (y : Int) = true from by rw [dm_anc hfx hup HYC.out, hfx.dom HYC.out]; exact HDM.out] at QD
              clear ho hb hfx hup
              go_wp2_with fail
              refine QD.out.mono ?_
              rintro e w9 ⟨rfl, hb⟩
              have HX9 := Lib.hid (HX8.out.trans (hb.mono HX8.out.size))
              clear hb
              go_wp2_with fail
              go_ret
              exact ⟨rfl, HX9.out⟩
            · have u1 : ((x : Int) == (y : Int)) = false := by rw [beq_eq_false_iff_ne]; omega
              have u1n : ((x : Int) != (y : Int)) = true := by rw [bne, u1]; rfl
              have u1m : decide (x = y) = false := decide_eq_false hxy
              have hGC := HGO.out.graph (hi := wr.heap.size) (Nat.le_refl _) (by rw [cut_len]; omega) hcs
              have QC := Lib.hid (come_any9 _ _ wr _ (cutV g (x : Int)) hGC (Nat.le_refl _) (by rw [cut_len]; omega))
              have hwy : (comeV (cutV g (x : Int)))[y]? = some true ↔ Dm10.Way g (fun p => p ≠ x) 0 y := by
                rw [← without_iff]
                unfold withoutV
                rw [if_neg hx0]
              have HWY := Lib.hid hwy
              clear hcs hxy hx0 hwy hGC
              go_wp2_with fail
              refine QC.out.mono ?_
              rintro e w6 ⟨vm6, rfl, om, hb6⟩
              have hcl : (cutV g (x : Int)).length = g.length := cut_len _ _
              rw [hcl] at om
              obtain ⟨c6, hc6⟩ : ∃ b, (comeV (cutV g (x : Int)))[y]? = some b := ⟨_, List.getElem?_eq_getElem (by rw [come_len, hcl]; exact hyl)⟩
              rw [hc6] at HWY
              obtain ⟨g6, cc6, rfl, _, _, _⟩ := form9 om (by omega)
              have m6 := (om.cellAt y (by omega)).trans (show (bC (comeV (cutV g (x : Int))))[y]? = some (.bool c6) by rw [List.getElem?_map, hc6]; rfl)
              have HX6 := Lib.hid (HXR.out.trans (hb6.mono HXR.out.size))
              clear om hb6 hcl hc6
              cases c6 with
              | true =>
                have HDM := Lib.hid (show ¬ Dom g x y from fun h => h.2.2 (HWY.out.1 rfl))
                go_wp2_with fail
                refine (near_any 0 w.heap.size w6 _ g (Graph.move (Still.of_below HX6.out) HG.out) HX6.out.size (by omega)).mono ?_
                rintro e w8 ⟨vn, rfl, ho, hb, hfx, hup⟩
                have HX8 := Lib.hid (HX6.out.trans (hb.mono HX6.out.size))
                have HN8 := Lib.hid (ints_own (l := nearestV g) (hi := w8.heap.size) (by rw [nearest_len]; exact ho) (Nat.le_refl _) (by rw [nearest_len]; omega))
                have QD := Lib.hid (dominates_any _ _ w8 _ (nearestV g) HN8.out (Nat.le_refl _) (by rw [nearest_len]; omega) (x : Int) (y : Int))
                rw [show dmV (nearestV g) (x : Int) (nearestV g).length (y : Int) = false from by rw [Bool.eq_false_iff, Ne, dm_anc hfx hup HYC.out, hfx.dom HYC.out]; exact HDM.out] at QD
                clear ho hb hfx hup
                go_wp2_with fail
                refine QD.out.mono ?_
                rintro e w9 ⟨rfl, hb⟩
                have HX9 := Lib.hid (HX8.out.trans (hb.mono HX8.out.size))
                clear hb
                go_wp2_with fail
                go_ret
                exact ⟨rfl, HX9.out⟩
              | false =>
                have HDM := Lib.hid (show Dom g x y from ⟨HYC.out, hxl, fun h => by cases HWY.out.2 h⟩)
                go_wp2_with fail
                refine (near_any 0 w.heap.size w6 _ g (Graph.move (Still.of_below HX6.out) HG.out) HX6.out.size (by omega)).mono ?_
                rintro e w8 ⟨vn, rfl, ho, hb, hfx, hup⟩
                have HX8 := Lib.hid (HX6.out.trans (hb.mono HX6.out.size))
                have HN8 := Lib.hid (ints_own (l := nearestV g) (hi := w8.heap.size) (by rw [nearest_len]; exact ho) (Nat.le_refl _) (by rw [nearest_len]; omega))
                have QD := Lib.hid (dominates_any _ _ w8 _ (nearestV g) HN8.out (Nat.le_refl _) (by rw [nearest_len]; omega) (x : Int) (y : Int))
                rw [show dmV (nearestV g) (x : Int) (nearestV g).length (y : Int) = true from by rw [dm_anc hfx hup HYC.out, hfx.dom HYC.out]; exact HDM.out] at QD
                clear ho hb hfx hup
                go_wp2_with fail
                refine QD.out.mono ?_
                rintro e w9 ⟨rfl, hb⟩
                have HX9 := Lib.hid (HX8.out.trans (hb.mono HX8.out.size))
                clear hb
                go_wp2_with fail
                go_ret
                exact ⟨rfl, HX9.out⟩

set_option maxRecDepth 100000 in
theorem lifted (os : Os) (started : os.Started) (H : Type) (enc : TypeId × Value → H) :
    ReturnsInHanded {} Try.checked os 5 .any (Rows.domMeansSpec.pre6 enc Try.prog Try.f5 Rows.domMeansRow.domain false) (Rows.domMeansSpec.post enc Try.prog Try.f5 false true false false) := by
  refine returnsInHanded_of_change_sized (C := Try.checked) (by kernel_rfl) started (by kernel_rfl) Try.func5
    (ChangeSpec.witness6 (enc := enc) (C := Try.checked) false ⟨#[], #[.slice none 0 0, .int .u8 0, .int .u8 0], []⟩ 8 (by kernel_rfl) (by kernel_rfl) (by kernel_rfl) (by kernel_rfl)) ?_
  intro W base args ds gs before hval0 hW hcnd hsz0 _
  have hval : ∀ (j : Nat) t v, Try.f5.params[j]? = some t → args[j]? = some v → Value.okWide Try.prog W .any base t v := hval0
  have hW' := hW
  obtain ⟨p, q, hA0, hV, rfl, hfz, hnd⟩ := hW
  have hsz : (DataW.weightsEach Try.prog (Try.f5.params.toList ++ Rows.domMeansSpec.plain.varTypes Try.prog) (ds ++ gs)).all (· ≤ reachBytes) = true := hsz0
  have hA : DataW.TrodAll enc Try.prog W 0 (fun _ => true) true Try.f5.params.toList args.toList ds p := hA0
  rw [Try.params5] at hA hval hsz
  obtain ⟨v0, vs0, d0, ds0, p0, q0, hargs, rfl, rfl, h0, r0⟩ := trodAll_cons hA
  obtain ⟨v1, vs1, d1, ds1, p1, q1, rfl, rfl, rfl, h1, r1⟩ := trodAll_cons r0
  obtain ⟨v2, vs2, d2, ds2, p2, q2, rfl, rfl, rfl, h2, r2⟩ := trodAll_cons r1
  obtain ⟨rfl, rfl, rfl⟩ := trodAll_nil r2
  obtain rfl : args = #[v0, v1, v2] := by cases args; simp_all
  obtain ⟨rfl, rfl⟩ := trodVars_none hV
  obtain ⟨xs0, hG0⟩ := OpenG.open_graph hsz (j := 0) rfl rfl (hval 0 22 v0 rfl rfl) h0
  obtain ⟨a1, rfl, rfl, rfl, w1⟩ := open_int Try.underlying5 (hval 1 5 v1 rfl rfl) h1
  obtain ⟨a2, rfl, rfl, rfl, w2⟩ := open_int Try.underlying5 (hval 2 5 v2 rfl rfl) h2
  clear hA0 hval0
  simp only [List.append_nil] at hW'
  refine (walk v0 xs0 a1 a2 hG0 w1 w2).mono fun e W' ⟨he, hg⟩ => ?_
  subst he
  exact ⟨_, rfl, Shell.lawPost (by kernel_rfl) rfl (by kernel_rfl) rfl Try.underlying4 hW' rfl hg⟩

/-- The statement. -/
theorem proved : Rows.DomMeansSaid :=
  OpenClaim.holds_of_wide 5 Try.f5 rfl rfl rfl rfl rfl rfl rfl ⟨rfl, rfl, rfl, rfl, rfl⟩ rfl rfl rfl rfl rfl (by kernel_rfl) Try.func5 (by kernel_rfl)
    (of_decide_eq_true (by kernel_rfl)) (by unfold Func.isWrapper; first | (rw [if_pos (by decide +kernel)]; kernel_rfl) | (rw [if_neg (by decide +kernel)]; exact ⟨rfl, rfl⟩))
    (fun os started H enc _ => lifted os started H enc)
end Go.Proofs.Ytdjggoddpohceaa.domMeans
