/-
  In a graph that isn't crossed each step against the order is one back to the head of a loop that has both its points; in any graph a loop's head dominates its points, and what leads into a loop elsewhere than to its head stands in it.
-/
import Derived.Test.YtekjlnhdmningaaRows
import Derived.Test.YtekjlnhdmningaaLpHas
import Derived.Test.YtekjlnhdmningaaOpenG
import Derived.Deep.RegionHeld3
import Derived.StillTailTactics
import Derived.Test.YtekjlnhdmningaaLpTwo
import Derived.Test.YtekjlnhdmningaaShell
import Derived.ProofKit
import Derived.OpenShut
import Derived.SizedLaws
namespace Go.Proofs.Ytekjlnhdmningaa.loopsRound
open Go.ChangeShapes Go.WideShapes Go.ChangeAt Go.RowKit
open Api Mem Fl9 Dm10 L09 L11 Lp11
theorem dm_anc {g : List (List Int)} {near : List Int} (hf : Fix g near) (hu : Ups9 g near) {a b : Nat} (hb : Come g b) : dmV near (a : Int) near.length (b : Int) = true ↔ Anc near a b := by
  rw [dm_iff hf hu near.length b hb (by have := pos_lt hb; have := order_len g; rw [hf.len9]; omega)]
  constructor
  · rintro ⟨k, h1, h2⟩
    obtain rfl : a = k := by omega
    exact h2
  · exact fun h => ⟨a, rfl, h⟩

theorem ledYes {P : Program} {f : FuncId} {args : Array Value} {p : Prop} {w w0 : World} (h : Calls P f args w (BP9 p w0)) (b : Bool) (hb : b = true ↔ p) : Calls P f args w fun e w' => e = .returned (.bool b) ∧ Below w0.heap.size w0 w' := h.mono (by
  rintro e w' ⟨c, rfl, hc, hw⟩
  obtain rfl : c = b := by
    cases c with
    | true => exact (hb.2 (hc.1 rfl)).symm
    | false => cases b with
      | false => rfl
      | true => exact hc.2 (hb.1 rfl)
  exact ⟨rfl, hw⟩)
theorem order_pt {g : List (List Int)} {j : Nat} (h : j < (orderV g).length) : ∃ q : Nat, (orderV g)[j]? = some (q : Int) ∧ Come g q ∧ pos g q = j := by
  have h0 : g.length ≠ 0 := by have := order_len g; omega
  obtain ⟨y, hy⟩ : ∃ y, (orderV g)[j]? = some y := ⟨_, List.getElem?_eq_getElem h⟩
  obtain ⟨q, e, _⟩ := (ord_ok h0).point y (List.mem_of_getElem? hy)
  subst e
  exact ⟨q, hy, ord_mem.1 (List.mem_of_getElem? hy), pos_of hy⟩
/-- has one of the loops head v, with u among those that lead back to it and among its points? -/
def inV (L : List LpT) (v u : Nat) : Bool := L.any fun x => decide (x.1 = v) && (decide (u ∈ x.2.2) && decide (u ∈ x.2.1))
theorem in_next {L : List LpT} {j v u : Nat} {x : LpT} (h : L[j]? = some x) : inV (L.take (j + 1)) v u = (inV (L.take j) v u || (decide (x.1 = v) && (decide (u ∈ x.2.2) && decide (u ∈ x.2.1)))) := by
  unfold inV
  rw [take_nxL h, List.any_append]
  simp
theorem in_all {g : List (List Int)} (hc : crossV g = false) {u v : Nat} (hu : Come g u) (hv : Come g v) (hl : (v : Int) ∈ g.getD u []) (hle : pos g v ≤ pos g u) : inV (loopsV g) v u = true := by
  have hno : ∀ i, ¬ Rd (Fw g) i i := fun i h => by
    have := cross_iff.2 ⟨i, h⟩
    rw [hc] at this
    cases this
  have hd := retreat hno hu hv hl hle
  have hb : Backs g v u := ⟨hu, hl, hd⟩
  unfold inV
  rw [List.any_eq_true]
  refine ⟨(v, bodyL g v, backL g v), loopsV_mem.2 ⟨⟨u, hb⟩, rfl⟩, ?_⟩
  have h1 : u ∈ backL g v := backL_mem.2 hb
  have h2 : u ∈ bodyL g v := (bodyL_mem hv).2 (back_body hb)
  simp [h1, h2]
theorem loop_dom {g : List (List Int)} {x : LpT} (h : x ∈ loopsV g) {p : Nat} (hp : p ∈ x.2.1) : Dom g x.1 p := by
  obtain ⟨⟨b, hb⟩, e⟩ := loopsV_mem.1 h
  have hc := hb.2.2.come
  rw [e] at hp
  exact ((bodyL_mem hc).1 hp).dom hc
theorem loop_enter {g : List (List Int)} {x : LpT} (h : x ∈ loopsV g) {p q : Nat} (hp : p ∈ x.2.1) (hne : p ≠ x.1) (hq : Come g q) (hl : (p : Int) ∈ g.getD q []) : q ∈ x.2.1 := by
  obtain ⟨⟨b, hb⟩, e⟩ := loopsV_mem.1 h
  have hc := hb.2.2.come
  rw [e] at hp ⊢
  exact (bodyL_mem hc).2 (((bodyL_mem hc).1 hp).enter hne hq hl)
set_option maxRecDepth 100000 in
set_option maxHeartbeats 16000000 in
theorem walk (v : Value) (g : List (List Int)) {w : World} (hq : Graph 0 w.heap.size w v g ∧ ∀ l ∈ g, ∀ x ∈ l, NumM.In x) :
    Calls Try.prog 4 #[v] w fun e w' => e = .returned (.bool true) ∧ Below w.heap.size w w' := by
  obtain ⟨hg, hin⟩ := hq
  obtain ⟨A1, k1, rfl⟩ := Row.form hg
  have hgl : g.length ≤ 4611686018427387903 := by obtain ⟨_, _, _, h, _⟩ := Row.get hg; exact h
  have HG := Lib.hid hg
  have HIN := Lib.hid hin
  clear hg hin
  go_enter Try.func4, Try.ntmps4
  go_wp2_with fail
  refine (awake11_any w).mono ?_
  rintro e w1 ⟨rfl, hb1⟩
  have HX1 := Lib.hid hb1
  clear hb1
  go_wp2_with fail
  refine (fewG_any 0 w.heap.size w1 _ g (Graph.move (Still.of_below HX1.out) HG.out) HX1.out.size 60).mono ?_
  rintro e w2 ⟨b2, rfl, hfew, hb2⟩
  have HX2 := Lib.hid (HX1.out.trans (hb2.mono HX1.out.size))
  clear hb2
  cases b2 with
  | false =>
    clear hfew
    go_wp2_with fail
    refine (awake11_any w2).mono ?_
    rintro e w3 ⟨rfl, hb3⟩
    have HX3 := Lib.hid (HX2.out.trans (hb3.mono HX2.out.size))
    clear hb3
    go_wp2_with fail
    go_ret
    exact ⟨rfl, HX3.out⟩
  | true =>
    have hfw := hfew rfl
    have hfl : g.length ≤ 60 := by have := hfw.1; omega
    have HFW := Lib.hid hfw
    clear hfew hfw
    go_wp2_with fail
    refine (near_any 0 w.heap.size w2 _ g (Graph.move (Still.of_below HX2.out) HG.out) HX2.out.size (by omega)).mono ?_
    rintro e w3 ⟨vn, rfl, hn, hb, hfix, hups⟩
    have HX3 := Lib.hid (HX2.out.trans (hb.mono HX2.out.size))
    have HN := Lib.hid (ints_own (hi := w3.heap.size) (l := nearestV g) (by rw [nearest_len]; exact hn) (Nat.le_refl _) (by rw [nearest_len]; omega))
    have HF := Lib.hid hfix
    have HU := Lib.hid hups
    clear hn hb hfix hups
    go_wp2_with fail
    refine (lall_any 0 w.heap.size w3 _ g (Graph.move (Still.of_below HX3.out) HG.out) HX3.out.size (by omega)).mono ?_
    rintro e w4 ⟨vl, rfl, ho, hb⟩
    have HX4 := Lib.hid (HX3.out.trans (hb.mono HX3.out.size))
    have HN4 := Lib.hid (Ints.move (still_up hb hb.size) HN.out)
    have hfew := loops_few g
    have HL := Lib.hid (ho.read (hi := w4.heap.size) (n := g.length) (Nat.le_refl _) hfew (by omega))
    clear ho hb
    go_wp2_with fail
    refine (order_any 0 w.heap.size w4 _ g (Graph.move (Still.of_below HX4.out) HG.out) HX4.out.size (by omega)).mono ?_
    rintro e w5 ⟨vo, rfl, ho, hb⟩
    have HX5 := Lib.hid (HX4.out.trans (hb.mono HX4.out.size))
    have HN5 := Lib.hid (Ints.move (still_up hb hb.size) HN4.out)
    have HL5 := Lib.hid (LRead.move (still_up hb hb.size) HL.out)
    have hol := order_len g
    have HO5 := Lib.hid (Ints.move (Still.wide w5 (Nat.zero_le _) (Nat.le_refl _)) (ints_own (hi := w5.heap.size) ho (Nat.le_refl _) (by omega)))
    obtain ⟨L, hL⟩ : ∃ L, loopsV g = L := ⟨_, rfl⟩
    have HLV := Lib.hid hL
    rw [hL] at HL5 hfew
    have HFL := Lib.hid hfew
    have hll : L.length ≤ 60 := by have := hfew.1; omega
    obtain ⟨Al, cl, rfl⟩ := Row.form HL5.out
    obtain ⟨Ao, co, rfl⟩ := Row.form HO5.out
    obtain ⟨An, cn, hvn⟩ := Row.form HN5.out
    rw [nearest_len] at hvn
    subst hvn
    have HGW := Lib.hid (Graph.move (Still.wide w5 (Nat.le_refl _) HX5.out.size) (Graph.move (Still.of_below HX5.out) HG.out))
    clear ho hb hL hfew HL HN HN4
    go_wp2_with fail
    go_loopw [6] (fun kv wr => ∃ i : Nat, i ≤ L.length ∧ kv = .int .i64 i ∧ Hid (Below w5.heap.size w5 wr)) (fun kv _ => L.length - (intOf kv).toNat)
    case atStart => exact ⟨0, Nat.zero_le _, rfl, Lib.hid (Below.refl _ _)⟩
    case round =>
    obtain ⟨i, hi, rfl, HBr⟩ := hrel
    by_cases hlt : i < L.length
    · obtain ⟨x, hx⟩ : ∃ x, L[i]? = some x := ⟨_, List.getElem?_eq_getElem hlt⟩
      have hf1 := HFL.out.2 x (List.mem_of_getElem? hx)
      have hxl : x.2.1.length ≤ 60 := by omega
      have HXM := Lib.hid (show x ∈ loopsV g by rw [HLV.out]; exact List.mem_of_getElem? hx)
      obtain ⟨b1, o1, rfl⟩ := addr_ofL HL5.out (by omega)
      obtain ⟨A3, k3, A4, k4, i3, i4, c1⟩ := lread_at HL5.out hx
      have HC1 := Lib.hid c1
      have HI3 := Lib.hid i3
      clear hx i3 i4 c1 hf1
      go_wp2_with fail
      go_loopw [7, 8] (fun kv av wr => ∃ k : Nat, k ≤ x.2.1.length ∧ kv = .int .i64 k ∧ Hid (Below w5.heap.size w5 wr)) (fun kv _ _ => x.2.1.length - (intOf kv).toNat)
      case atStart => exact ⟨0, Nat.zero_le _, rfl, HBr⟩
      case round =>
      obtain ⟨k, hk, rfl, HBr⟩ := hrel
      obtain ⟨m1, m2, m3⟩ := HC1.out wr HBr.out
      by_cases hlk : k < x.2.1.length
      · obtain ⟨p, hp⟩ : ∃ p, x.2.1[k]? = some p := ⟨_, List.getElem?_eq_getElem hlk⟩
        have hpc : (casts x.2.1)[k]? = some (p : Int) := by unfold casts; rw [List.getElem?_map, hp]; rfl
        obtain ⟨b2, o2, rfl⟩ := addr_of9 HI3.out (by omega)
        obtain ⟨c9, _, rfl, n9⟩ := cell_of HI3.out hpc HBr.out
        have m9 := n9 _ rfl
        have HPM := Lib.hid (List.mem_of_getElem? hp)
        have hd := loop_dom HXM.out HPM.out
        have HDM := Lib.hid (show dmV (nearestV g) (x.1 : Int) (nearestV g).length (p : Int) = true from (dm_anc HF.out HU.out hd.1).2 ((HF.out.dom hd.1).2 hd))
        have QD := Lib.hid (dominates_any 0 w5.heap.size wr _ (nearestV g) (Ints.move (Still.of_below HBr.out) HN5.out) HBr.out.size (by rw [nearest_len]; omega) (x.1 : Int) (p : Int))
        rw [HDM.out] at QD
        clear n9 hpc hp hd
        go_wp2_with fail
        refine QD.out.mono ?_
        rintro e w6 ⟨rfl, hb6⟩
        have HB6 := Lib.hid (HBr.out.trans (hb6.mono HBr.out.size))
        clear hb6
        go_wp2_with fail
        go_loopw [9] (fun kv wr => ∃ j : Nat, j ≤ (orderV g).length ∧ kv = .int .i64 j ∧ Hid (Below w5.heap.size w5 wr)) (fun kv _ => (orderV g).length - (intOf kv).toNat)
        case atStart => exact ⟨0, Nat.zero_le _, rfl, HB6⟩
        case round =>
        obtain ⟨j, hj, rfl, HBr⟩ := hrel
        by_cases hlj : j < (orderV g).length
        · obtain ⟨q, hq, hqc, _⟩ := order_pt hlj
          obtain ⟨bo, oo, rfl⟩ := addr_of9 HO5.out (by omega)
          have HC9 := Lib.hid (fun (w' : World) (hb : Below w5.heap.size w5 w') => (show w'.cell? ⟨bo, oo + j, none⟩ = some (i64 (q : Int)) from by
            obtain ⟨c9, _, rfl, n9⟩ := cell_of HO5.out hq hb
            exact n9 _ rfl))
          obtain ⟨gq, hgq⟩ : ∃ y, g[q]? = some y := ⟨_, List.getElem?_eq_getElem hqc.last.1⟩
          have hgd : g.getD q [] = gq := by rw [List.getD_eq_getElem?_getD, hgq]; rfl
          have HSF := Lib.hid (fun (w' : World) (hb : Below w5.heap.size w5 w') => (show (w'.cell? ⟨b1, o1 + i * 3, none⟩ = some (i64 (x.1 : Int)) ∧ w'.cell? ⟨b1, o1 + i * 3 + 1, none⟩ = some (.slice (some ⟨b2, o2, none⟩) x.2.1.length k3) ∧ w'.cell? ⟨bo, oo + j, none⟩ = some (i64 (q : Int))) ∧ Hid (Below w5.heap.size w5 w') from ⟨⟨(HC1.out w' hb).1, (HC1.out w' hb).2.1, HC9.out w' hb⟩, Lib.hid hb⟩))
          have HSN := Lib.hid (fun (w1 w' : World) (hb : Below w1.heap.size w1 w') (h : (w1.cell? ⟨b1, o1 + i * 3, none⟩ = some (i64 (x.1 : Int)) ∧ w1.cell? ⟨b1, o1 + i * 3 + 1, none⟩ = some (.slice (some ⟨b2, o2, none⟩) x.2.1.length k3) ∧ w1.cell? ⟨bo, oo + j, none⟩ = some (i64 (q : Int))) ∧ Hid (Below w5.heap.size w5 w1)) => HSF.out w' (h.2.out.trans (hb.mono h.2.out.size)))
          obtain ⟨mb, hmb⟩ : ∃ mb, decide ((p : Int) ∈ gq) = mb := ⟨_, rfl⟩
          have QL := Lib.hid (fun (w7 : World) (hb : Below w5.heap.size w5 w7) => ledYes (leadsG_any 0 w5.heap.size w7 _ g (Graph.move (Still.of_below hb) HGW.out) hb.size q gq hgq (p : Int)) mb (by rw [← hmb]; exact decide_eq_true_iff))
          have QH := Lib.hid (fun (w7 : World) (hb : Below w5.heap.size w5 w7) => has_any 0 w5.heap.size w7 _ (casts x.2.1) (Ints.move (Still.of_below hb) HI3.out) hb.size (q : Int))
          have HMB := Lib.hid hmb
          have HGD := Lib.hid hgd
          have HQC := Lib.hid hqc
          obtain ⟨n1, n2, n3⟩ := (HSF.out wr HBr.out).1
          clear hq hqc hgq hgd hmb
          by_cases hph : (p : Int) = (x.1 : Int)
          · have e9 : x.1 = p := by omega
            rw [e9] at n1
            clear hph e9
            go_wp2_with fail
            go_region
            go_wp2_with fail
            go_roundw
            case rel => exact ⟨j + 1, by omega, by go_num, Lib.hid HBr.out.drew⟩
            case measure => simp [intOf]; omega
          · have t0 : ((p : Int) == (x.1 : Int)) = false := by simpa using hph
            have t1 : ((p : Int) != (x.1 : Int)) = true := by rw [bne, t0]; rfl
            cases mb with
            | false =>
              clear hph
              go_wp2_with fail
              refine wp_region_two 14 (by kernel_rfl) (by kernel_rfl) rfl ?_
              simp only [List.take_succ_cons, List.take_zero, List.drop_succ_cons, List.drop_zero, List.length_cons, List.length_nil, Nat.reduceAdd, Nat.reduceSub]
              repeat still_step
              try refine wpStill_nil ?_
              go_wp2_with fail
              refine (QL.out wr.drew HBr.out.drew).mono ?_
              rintro e w6 ⟨rfl, hb6⟩
              have HU6 := Lib.hid (HBr.out.drew.trans (hb6.mono HBr.out.drew.size))
              clear hb6
              dsimp only
              rename_i hK9
              refine hK9 _ _ ?_
              show wpStill _ _ _ _ _ _
              repeat (with_reducible refine wpStill_step2 ?_; intro K J hJ hK; go_simp; refine hK _ ?_; have hj := hJ.out; subst hj; clear hK hJ K)
              with_reducible refine wpStill_nil ?_
              go_wp2_with fail
              go_roundw
              case rel => exact ⟨j + 1, by omega, by go_num, HU6⟩
              case measure => simp [intOf]; omega
            | true =>
              have HYS := Lib.hid (show decide ((q : Int) ∈ casts x.2.1) = true from decide_eq_true (casts_mem.2 (loop_enter HXM.out HPM.out (by omega) HQC.out (by rw [HGD.out]; exact of_decide_eq_true HMB.out))))
              rw [HYS.out] at QH
              clear hph
              go_wp2_with fail
              go_region_held3 (fun w' => (w'.cell? ⟨b1, o1 + i * 3, none⟩ = some (i64 (x.1 : Int)) ∧ w'.cell? ⟨b1, o1 + i * 3 + 1, none⟩ = some (.slice (some ⟨b2, o2, none⟩) x.2.1.length k3) ∧ w'.cell? ⟨bo, oo + j, none⟩ = some (i64 (q : Int))) ∧ Hid (Below w5.heap.size w5 w'))
                (first | exact HSF.out _ HBr.out | exact HSF.out _ HBr.out.drew | exact HSN.out _ _ hb (by assumption))
                (first | (go_at_call 20; (with_reducible refine (QL.out _ (Hid.out (And.right (by assumption)))).mono ?_); rintro e w' ⟨rfl, hb⟩) | (go_at_call 21; (with_reducible refine (QH.out _ (Hid.out (And.right (by assumption)))).mono ?_); rintro e w' ⟨rfl, hb⟩))
              rename_i hHeld
              have HU6 := hHeld.2
              clear hHeld
              go_wp2_with fail
              go_roundw
              case rel => exact ⟨j + 1, by omega, by go_num, HU6⟩
              case measure => simp [intOf]; omega
        · go_wp2_with fail
          go_roundw
          case rel => exact ⟨k + 1, by omega, by go_num, HBr⟩
          case measure => simp [intOf]; omega
      · go_wp2_with fail
        go_roundw
        case rel => exact ⟨i + 1, by omega, by go_num, HBr⟩
        case measure => simp [intOf]; omega
    · go_wp2_with fail
      refine (lcross_any 0 w5.heap.size wr _ g (Graph.move (Still.of_below HBr.out) HGW.out) HBr.out.size (by omega)).mono ?_
      rintro e w6 ⟨rfl, hb6⟩
      have HB6 := Lib.hid (HBr.out.trans (hb6.mono HBr.out.size))
      obtain ⟨cr, hcr⟩ : ∃ c, crossV g = c := ⟨_, rfl⟩
      rw [hcr]
      have HCR := Lib.hid hcr
      clear hb6 hcr
      cases cr with
      | true =>
        go_wp2_with fail
        go_ret
        exact ⟨rfl, HX5.out.trans (HB6.out.mono HX5.out.size)⟩
      | false =>
        go_wp2_with fail
        go_loopw [10] (fun kv wr => ∃ i : Nat, i ≤ (orderV g).length ∧ kv = .int .i64 i ∧ Hid (Below w5.heap.size w5 wr)) (fun kv _ => (orderV g).length - (intOf kv).toNat)
        case atStart => exact ⟨0, Nat.zero_le _, rfl, HB6⟩
        case round =>
        obtain ⟨i, hi, rfl, HBr⟩ := hrel
        by_cases hlt : i < (orderV g).length
        · go_wp2_with fail
          go_loopw [11] (fun kv wr => ∃ k : Nat, k ≤ i + 1 ∧ kv = .int .i64 k ∧ Hid (Below w5.heap.size w5 wr)) (fun kv _ => i + 1 - (intOf kv).toNat)
          case atStart => exact ⟨0, Nat.zero_le _, rfl, HBr⟩
          case round =>
          obtain ⟨k, hk, rfl, HBr⟩ := hrel
          by_cases hlk : k ≤ i
          · obtain ⟨u, hu, huc, hup⟩ := order_pt hlt
            obtain ⟨v, hv, hvc, hvp⟩ := order_pt (show k < (orderV g).length by omega)
            have hko : k < (orderV g).length := by omega
            obtain ⟨bo, oo, rfl⟩ := addr_of9 HO5.out (by omega)
            have HCU := Lib.hid (fun (w' : World) (hb : Below w5.heap.size w5 w') => (show w'.cell? ⟨bo, oo + i, none⟩ = some (i64 (u : Int)) from by
              obtain ⟨c9, _, rfl, n9⟩ := cell_of HO5.out hu hb
              exact n9 _ rfl))
            have HCV := Lib.hid (fun (w' : World) (hb : Below w5.heap.size w5 w') => (show w'.cell? ⟨bo, oo + k, none⟩ = some (i64 (v : Int)) from by
              obtain ⟨c9, _, rfl, n9⟩ := cell_of HO5.out hv hb
              exact n9 _ rfl))
            obtain ⟨gu, hgu⟩ : ∃ y, g[u]? = some y := ⟨_, List.getElem?_eq_getElem huc.last.1⟩
            have hgd : g.getD u [] = gu := by rw [List.getD_eq_getElem?_getD, hgu]; rfl
            obtain ⟨mb, hmb⟩ : ∃ mb, decide ((v : Int) ∈ gu) = mb := ⟨_, rfl⟩
            have QL := Lib.hid (ledYes (leadsG_any 0 w5.heap.size wr.drew _ g (Graph.move (Still.of_below HBr.out.drew) HGW.out) HBr.out.drew.size u gu hgu (v : Int)) mb (by rw [← hmb]; exact decide_eq_true_iff))
            have n1 := HCU.out wr HBr.out
            have n2 := HCV.out wr HBr.out
            have HINV := Lib.hid (show mb = true → inV L v u = true from fun e => by
              rw [← HLV.out]
              exact in_all HCR.out huc hvc (by rw [hgd]; exact of_decide_eq_true (hmb.trans e)) (by omega))
            clear hu hv hgu hgd hmb hup hvp huc hvc
            go_wp2_with fail
            go_still_tail 9, (by kernel_rfl)
            change wpList _ _ _ _ _ wr.drew
            go_wp2_with fail
            refine QL.out.mono ?_
            rintro e w7 ⟨rfl, hb7⟩
            have HB7 := Lib.hid (HBr.out.drew.trans (hb7.mono HBr.out.drew.size))
            clear hb7
            cases mb with
            | false =>
              go_wp2_with fail
              go_roundw
              case rel => exact ⟨k + 1, by omega, by go_num, HB7⟩
              case measure => simp [intOf]; omega
            | true =>
              have HIN := Lib.hid (HINV.out rfl)
              have HI0 := Lib.hid (show inV (L.take 0) v u = false from rfl)
              go_wp2_with fail
              go_loopw [12, 13] (fun bv kv wr => ∃ j : Nat, j ≤ L.length ∧ kv = .int .i64 j ∧ bv = .bool (inV (L.take j) v u) ∧ Hid (Below w5.heap.size w5 wr)) (fun _ kv _ => L.length - (intOf kv).toNat)
              case atStart => exact ⟨0, Nat.zero_le _, rfl, by rw [HI0.out], HB7⟩
              case round =>
              obtain ⟨j, hj, rfl, rfl, HBr⟩ := hrel
              by_cases hlj : j < L.length
              · obtain ⟨x, hx⟩ : ∃ x, L[j]? = some x := ⟨_, List.getElem?_eq_getElem hlj⟩
                obtain ⟨b1, o1, rfl⟩ := addr_ofL HL5.out (by omega)
                obtain ⟨A3, k3, A4, k4, i3, i4, c1⟩ := lread_at HL5.out hx
                have HSF := Lib.hid (fun (w' : World) (hb : Below w5.heap.size w5 w') => (show (w'.cell? ⟨b1, o1 + j * 3, none⟩ = some (i64 (x.1 : Int)) ∧ w'.cell? ⟨b1, o1 + j * 3 + 1, none⟩ = some (.slice A3 x.2.1.length k3) ∧ w'.cell? ⟨b1, o1 + j * 3 + 2, none⟩ = some (.slice A4 x.2.2.length k4) ∧ w'.cell? ⟨bo, oo + i, none⟩ = some (i64 (u : Int)) ∧ w'.cell? ⟨bo, oo + k, none⟩ = some (i64 (v : Int))) ∧ Hid (Below w5.heap.size w5 w') from ⟨⟨(c1 w' hb).1, (c1 w' hb).2.1, (c1 w' hb).2.2, HCU.out w' hb, HCV.out w' hb⟩, Lib.hid hb⟩))
                have HSN := Lib.hid (fun (w1 w' : World) (hb : Below w1.heap.size w1 w') (h : (w1.cell? ⟨b1, o1 + j * 3, none⟩ = some (i64 (x.1 : Int)) ∧ w1.cell? ⟨b1, o1 + j * 3 + 1, none⟩ = some (.slice A3 x.2.1.length k3) ∧ w1.cell? ⟨b1, o1 + j * 3 + 2, none⟩ = some (.slice A4 x.2.2.length k4) ∧ w1.cell? ⟨bo, oo + i, none⟩ = some (i64 (u : Int)) ∧ w1.cell? ⟨bo, oo + k, none⟩ = some (i64 (v : Int))) ∧ Hid (Below w5.heap.size w5 w1)) => HSF.out w' (h.2.out.trans (hb.mono h.2.out.size)))
                have hnx := in_next (v := v) (u := u) hx
                obtain ⟨b9, hb9⟩ : ∃ b, inV (L.take j) v u = b := ⟨_, rfl⟩
                obtain ⟨d1, hd1⟩ : ∃ b, decide (x.1 = v) = b := ⟨_, rfl⟩
                obtain ⟨d2, hd2⟩ : ∃ b, decide (u ∈ x.2.2) = b := ⟨_, rfl⟩
                obtain ⟨d3, hd3⟩ : ∃ b, decide (u ∈ x.2.1) = b := ⟨_, rfl⟩
                have t1 : ((x.1 : Int) == (v : Int)) = d1 := by
                  rw [← hd1, Bool.eq_iff_iff, decide_eq_true_iff, beq_iff_eq]
                  omega
                have e2 : decide ((u : Int) ∈ casts x.2.2) = d2 := by rw [← hd2, Bool.eq_iff_iff, decide_eq_true_iff, decide_eq_true_iff, casts_mem]
                have e3 : decide ((u : Int) ∈ casts x.2.1) = d3 := by rw [← hd3, Bool.eq_iff_iff, decide_eq_true_iff, decide_eq_true_iff, casts_mem]
                have QK := Lib.hid (fun (w7 : World) (hb : Below w5.heap.size w5 w7) => has_any 0 w5.heap.size w7 _ (casts x.2.2) (Ints.move (Still.of_below hb) i4) hb.size (u : Int))
                have QB := Lib.hid (fun (w7 : World) (hb : Below w5.heap.size w5 w7) => has_any 0 w5.heap.size w7 _ (casts x.2.1) (Ints.move (Still.of_below hb) i3) hb.size (u : Int))
                rw [e2] at QK
                rw [e3] at QB
                rw [hb9, hd1, hd2, hd3] at hnx
                have HNX := Lib.hid hnx
                rw [hb9]
                clear hx i3 i4 c1 hnx hb9 hd1 hd2 hd3 e2 e3
                obtain ⟨n1, n2, n3, n4, n5⟩ := (HSF.out wr HBr.out).1
                cases b9 with
                | true =>
                  go_wp2_with fail
                  go_region
                  go_wp2_with fail
                  go_roundw
                  case rel => exact ⟨j + 1, by omega, by go_num, by rw [HNX.out]; simp, Lib.hid HBr.out.drew⟩
                  case measure => simp [intOf]; omega
                | false =>
                  cases d1 with
                  | false =>
                    go_wp2_with fail
                    go_region
                    go_wp2_with fail
                    go_roundw
                    case rel => exact ⟨j + 1, by omega, by go_num, by rw [HNX.out]; simp, Lib.hid HBr.out.drew⟩
                    case measure => simp [intOf]; omega
                  | true =>
                    cases d2 with
                    | false =>
                      go_wp2_with fail
                      refine wp_region_two 22 (by kernel_rfl) (by kernel_rfl) rfl ?_
                      simp only [List.take_succ_cons, List.take_zero, List.drop_succ_cons, List.drop_zero, List.length_cons, List.length_nil, Nat.reduceAdd, Nat.reduceSub]
                      repeat still_step
                      try refine wpStill_nil ?_
                      go_wp2_with fail
                      refine (QK.out wr.drew HBr.out.drew).mono ?_
                      rintro e w6 ⟨rfl, hb6⟩
                      have HU6 := Lib.hid (HBr.out.drew.trans (hb6.mono HBr.out.drew.size))
                      clear hb6
                      dsimp only
                      rename_i hK9
                      refine hK9 _ _ ?_
                      show wpStill _ _ _ _ _ _
                      repeat (with_reducible refine wpStill_step2 ?_; intro K J hJ hK; go_simp; refine hK _ ?_; have hj := hJ.out; subst hj; clear hK hJ K)
                      with_reducible refine wpStill_nil ?_
                      go_wp2_with fail
                      go_roundw
                      case rel => exact ⟨j + 1, by omega, by go_num, by rw [HNX.out]; simp, HU6⟩
                      case measure => simp [intOf]; omega
                    | true =>
                      cases d3 with
                      | false =>
                        go_wp2_with fail
                        go_region_held3 (fun w' => (w'.cell? ⟨b1, o1 + j * 3, none⟩ = some (i64 (x.1 : Int)) ∧ w'.cell? ⟨b1, o1 + j * 3 + 1, none⟩ = some (.slice A3 x.2.1.length k3) ∧ w'.cell? ⟨b1, o1 + j * 3 + 2, none⟩ = some (.slice A4 x.2.2.length k4) ∧ w'.cell? ⟨bo, oo + i, none⟩ = some (i64 (u : Int)) ∧ w'.cell? ⟨bo, oo + k, none⟩ = some (i64 (v : Int))) ∧ Hid (Below w5.heap.size w5 w'))
                          (first | exact HSF.out _ HBr.out | exact HSF.out _ HBr.out.drew | exact HSN.out _ _ hb (by assumption))
                          (first | (go_at_call 21; (with_reducible refine (QK.out _ (Hid.out (And.right (by assumption)))).mono ?_); rintro e w' ⟨rfl, hb⟩) | (go_at_call 21; (with_reducible refine (QB.out _ (Hid.out (And.right (by assumption)))).mono ?_); rintro e w' ⟨rfl, hb⟩))
                        rename_i hHeld
                        have HU6 := hHeld.2
                        clear hHeld
                        go_wp2_with fail
                        go_roundw
                        case rel => exact ⟨j + 1, by omega, by go_num, by rw [HNX.out]; simp, HU6⟩
                        case measure => simp [intOf]; omega
                      | true =>
                        go_wp2_with fail
                        go_region_held3 (fun w' => (w'.cell? ⟨b1, o1 + j * 3, none⟩ = some (i64 (x.1 : Int)) ∧ w'.cell? ⟨b1, o1 + j * 3 + 1, none⟩ = some (.slice A3 x.2.1.length k3) ∧ w'.cell? ⟨b1, o1 + j * 3 + 2, none⟩ = some (.slice A4 x.2.2.length k4) ∧ w'.cell? ⟨bo, oo + i, none⟩ = some (i64 (u : Int)) ∧ w'.cell? ⟨bo, oo + k, none⟩ = some (i64 (v : Int))) ∧ Hid (Below w5.heap.size w5 w'))
                          (first | exact HSF.out _ HBr.out | exact HSF.out _ HBr.out.drew | exact HSN.out _ _ hb (by assumption))
                          (first | (go_at_call 21; (with_reducible refine (QK.out _ (Hid.out (And.right (by assumption)))).mono ?_); rintro e w' ⟨rfl, hb⟩) | (go_at_call 21; (with_reducible refine (QB.out _ (Hid.out (And.right (by assumption)))).mono ?_); rintro e w' ⟨rfl, hb⟩))
                        rename_i hHeld
                        have HU6 := hHeld.2
                        clear hHeld
                        go_wp2_with fail
                        go_roundw
                        case rel => exact ⟨j + 1, by omega, by go_num, by rw [HNX.out]; simp, HU6⟩
                        case measure => simp [intOf]; omega
              · have hje : j = L.length := by omega
                have e9 : inV (L.take j) v u = true := by rw [hje, List.take_length]; exact HIN.out
                rw [e9]
                clear hje e9
                go_wp2_with fail
                go_roundw
                case rel => exact ⟨k + 1, by omega, by go_num, HBr⟩
                case measure => simp [intOf]; omega
          · go_wp2_with fail
            go_roundw
            case rel => exact ⟨i + 1, by omega, by go_num, HBr⟩
            case measure => simp [intOf]; omega
        · go_wp2_with fail
          go_ret
          exact ⟨rfl, HX5.out.trans (HBr.out.mono HX5.out.size)⟩

set_option maxRecDepth 100000 in
theorem lifted (os : Os) (started : os.Started) (H : Type) (enc : TypeId × Value → H) :
    ReturnsInHanded {} Try.checked os 4 .any (Rows.loopsRoundSpec.pre6 enc Try.prog Try.f4 Rows.loopsRoundRow.domain false) (Rows.loopsRoundSpec.post enc Try.prog Try.f4 false true false false) := by
  refine returnsInHanded_of_change_sized (C := Try.checked) (by kernel_rfl) started (by kernel_rfl) Try.func4
    (ChangeSpec.witness6 (enc := enc) (C := Try.checked) false ⟨#[], #[.slice none 0 0], []⟩ 8 (by kernel_rfl) (by kernel_rfl) (by kernel_rfl) (by kernel_rfl)) ?_
  intro W base args ds gs before hval0 hW hcnd hsz0 _
  have hval : ∀ (j : Nat) t v, Try.f4.params[j]? = some t → args[j]? = some v → Value.okWide Try.prog W .any base t v := hval0
  have hW' := hW
  obtain ⟨p, q, hA0, hV, rfl, hfz, hnd⟩ := hW
  have hsz : (DataW.weightsEach Try.prog (Try.f4.params.toList ++ Rows.loopsRoundSpec.plain.varTypes Try.prog) (ds ++ gs)).all (· ≤ reachBytes) = true := hsz0
  have hA : DataW.TrodAll enc Try.prog W 0 (fun _ => true) true Try.f4.params.toList args.toList ds p := hA0
  rw [Try.params4] at hA hval hsz
  obtain ⟨v0, vs0, d0, ds0, p0, q0, hargs, rfl, rfl, h0, r0⟩ := trodAll_cons hA
  obtain ⟨rfl, rfl, rfl⟩ := trodAll_nil r0
  obtain rfl : args = #[v0] := by cases args; simp_all
  obtain ⟨rfl, rfl⟩ := trodVars_none hV
  obtain ⟨xs0, hG0⟩ := OpenG.open_graph hsz (j := 0) rfl rfl (hval 0 22 v0 rfl rfl) h0
  clear hA0 hval0
  simp only [List.append_nil] at hW'
  refine (walk v0 xs0 hG0).mono fun e W' ⟨he, hg⟩ => ?_
  subst he
  exact ⟨_, rfl, Shell.lawPost (by kernel_rfl) rfl (by kernel_rfl) rfl Try.underlying4 hW' rfl hg⟩

/-- The statement. -/
theorem proved : Rows.LoopsRoundSaid :=
  OpenClaim.holds_of_wide 4 Try.f4 rfl rfl rfl rfl rfl rfl rfl ⟨rfl, rfl, rfl, rfl, rfl⟩ rfl rfl rfl rfl rfl (by kernel_rfl) Try.func4 (by kernel_rfl)
    (of_decide_eq_true (by kernel_rfl)) (by unfold Func.isWrapper; first | (rw [if_pos (by decide +kernel)]; kernel_rfl) | (rw [if_neg (by decide +kernel)]; exact ⟨rfl, rfl⟩))
    (fun os started H enc _ => lifted os started H enc)
end Go.Proofs.Ytekjlnhdmningaa.loopsRound
