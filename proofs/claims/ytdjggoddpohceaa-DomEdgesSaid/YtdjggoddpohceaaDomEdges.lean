/-
  A point to which another one leads is dominated by all that dominate both ways to it: its nearest one dominates each point that leads to it and can be come to, or is what leads.
-/
import Derived.Test.YtdjggoddpohceaaRows
import Derived.Test.YtdjggoddpohceaaLaw10
import Derived.Test.YtdjggoddpohceaaOpenG
import Derived.Test.YtdjggoddpohceaaDomF
import Derived.Deep.RegionHeld3
import Derived.Test.YtdjggoddpohceaaShell
import Derived.ProofKit
import Derived.OpenShut
import Derived.SizedLaws
namespace Go.Proofs.Ytdjggoddpohceaa.domEdges
open Go.ChangeShapes Go.WideShapes Go.ChangeAt Go.RowKit
open Api Mem Fl9 Dm10 L09 L10
theorem dm_anc {g : List (List Int)} {near : List Int} (hf : Fix g near) (hu : Ups9 g near) {a b : Nat} (hb : Come g b) : dmV near (a : Int) near.length (b : Int) = true ↔ Anc near a b := by
  rw [dm_iff hf hu near.length b hb (by have := pos_lt hb; have := order_len g; rw [hf.len9]; omega)]
  constructor
  · rintro ⟨k, h1, h2⟩
    obtain rfl : a = k := by omega
    exact h2
  · exact fun h => ⟨a, rfl, h⟩
/-- does l have x among its first m? -/
def inV (l : List Int) (x : Int) (m : Nat) : Bool := (l.take m).any fun y => y == x
theorem inV_step {l : List Int} {x y : Int} {m : Nat} (h : l[m]? = some y) : inV l x (m + 1) = (inV l x m || (y == x)) := by
  unfold inV
  rw [take_nx h, List.any_append]
  simp
theorem inV_end {l : List Int} {x : Int} : inV l x l.length = decide (x ∈ l) := by
  unfold inV
  rw [List.take_of_length_le (Nat.le_refl _)]
  by_cases h : x ∈ l
  · rw [decide_eq_true h, List.any_eq_true]
    exact ⟨x, h, by simp⟩
  · rw [decide_eq_false h, ← Bool.not_eq_true, List.any_eq_true]
    rintro ⟨y, h1, h2⟩
    rw [beq_iff_eq] at h2
    exact h (h2 ▸ h1)
theorem fv_iff {g : List (List Int)} {a k : Nat} (hk : k < g.length) : (k : Int) ∈ fv g a g.length ↔ frB g a k = true := by
  unfold fv
  rw [List.mem_map]
  constructor
  · rintro ⟨p, hp, e⟩
    obtain rfl : p = k := by omega
    exact (List.mem_filter.1 hp).2
  · exact fun h => ⟨k, List.mem_filter.2 ⟨List.mem_range.2 hk, h⟩, rfl⟩
theorem cell_all {α : Type} {lo hi : Nat} {w : World} {b off n cap i : Nat} {P : List Value → α → Prop} {l : List α} {x : α} (h : Row lo hi w 1 P (.slice (some ⟨b, off, none⟩) n cap) l) (hx : l[i]? = some x) : ∃ cs, cs.length = 1 ∧ P cs x ∧ ∀ w', Below hi w w' → ∀ u, cs[0]? = some u → w'.cell? ⟨b, off + i, none⟩ = some u := by
  obtain ⟨b', off', hn, hm, ha, hc⟩ := h.get
  have hi := (List.getElem?_eq_some_iff.1 hx).1
  obtain ⟨e, h1, h2⟩ := ha (by omega)
  simp only [Option.some.injEq, Addr.mk.injEq, and_true] at e
  obtain ⟨rfl, rfl⟩ := e
  obtain ⟨cs, c1, c2, c3⟩ := hc i x hx
  refine ⟨cs, c1, c3, fun w' hb u hu => ?_⟩
  have := cells_later c2 hb h2 0 u hu
  simpa using this
/-- what the law asks of a step from i to k. -/
theorem edge_up {g : List (List Int)} {near : List Int} (hf : Fix g near) {i k c : Nat} (hi : Come g i) (hl : (k : Int) ∈ g.getD i []) (hk : k < g.length) (hk0 : k ≠ 0) (hc : near[k]? = some (c : Int)) : Anc near c i := hf.pred9 i k c hi hk0 hl hk hc
theorem edge_fr {g : List (List Int)} {i k : Nat} (hi : Come g i) (hl : (k : Int) ∈ g.getD i []) (hk : k < g.length) : frB g i k = true ↔ (i = k ∨ ¬ Dom g i k) := by
  rw [fr_iff]
  exact ⟨fun h => h.2.2, fun h => ⟨.step hi hl hk trivial, ⟨i, Dom.self hi, hl⟩, h⟩⟩
set_option maxRecDepth 100000 in
set_option maxHeartbeats 16000000 in
theorem walk (v : Value) (g : List (List Int)) {w : World} (hq : Graph 0 w.heap.size w v g ∧ ∀ l ∈ g, ∀ x ∈ l, NumM.In x) :
    Calls Try.prog 7 #[v] w fun e w' => e = .returned (.bool true) ∧ Below w.heap.size w w' := by
  obtain ⟨hg, hin⟩ := hq
  obtain ⟨A1, k1, rfl⟩ := Row.form hg
  have hgl : g.length ≤ 4611686018427387903 := by obtain ⟨_, _, _, h, _⟩ := Row.get hg; exact h
  have HG := Lib.hid hg
  have HIN := Lib.hid hin
  clear hg hin
  go_enter Try.func7, Try.ntmps7
  go_wp2_with fail
  refine (awake10_any w).mono ?_
  rintro e w1 ⟨rfl, hb1⟩
  have HX1 := Lib.hid hb1
  clear hb1
  go_wp2_with fail
  refine (fewG_any 0 w.heap.size w1 _ g (Graph.move (Still.of_below HX1.out) HG.out) HX1.out.size 60).mono ?_
  rintro e w2 ⟨b2, rfl, hfew, hb2⟩
  have HX2 := Lib.hid (HX1.out.trans (hb2.mono HX1.out.size))
  clear hb2
  cases b2 with
  | false =>
    clear hfew
    go_wp2_with fail
    refine (awake10_any w2).mono ?_
    rintro e w3 ⟨rfl, hb3⟩
    have HX3 := Lib.hid (HX2.out.trans (hb3.mono HX2.out.size))
    clear hb3
    go_wp2_with fail
    go_ret
    exact ⟨rfl, HX3.out⟩
  | true =>
    have hfw := hfew rfl
    have hfl : g.length ≤ 60 := by have := hfw.1; omega
    have HFW := Lib.hid hfw
    clear hfew hfw
    go_wp2_with fail
    refine (near_any 0 w.heap.size w2 _ g (Graph.move (Still.of_below HX2.out) HG.out) HX2.out.size (by omega)).mono ?_
    rintro e w3 ⟨vn, rfl, ho, hb, hfx, hup⟩
    have HX3 := Lib.hid (HX2.out.trans (hb.mono HX2.out.size))
    have HN := Lib.hid (ints_own (l := nearestV g) (hi := w3.heap.size) (by rw [nearest_len]; exact ho) (Nat.le_refl _) (by rw [nearest_len]; omega))
    have HFX := Lib.hid hfx
    have HUP := Lib.hid hup
    obtain ⟨An, cn, e1⟩ := Row.form HN.out
    rw [nearest_len] at e1
    subst e1
    obtain ⟨near, hne⟩ : ∃ near, nearestV g = near := ⟨_, rfl⟩
    have HNL := Lib.hid (show near.length = g.length by rw [← hne]; exact nearest_len g)
    rw [hne] at HN HFX HUP
    clear ho hb hfx hup hne
    go_wp2_with fail
    refine (come_any9 0 w.heap.size w3 _ g (Graph.move (Still.of_below HX3.out) HG.out) HX3.out.size (by omega)).mono ?_
    rintro e w4 ⟨vm, rfl, ho, hb⟩
    have HX4 := Lib.hid (HX3.out.trans (hb.mono HX3.out.size))
    have HU4 := Lib.hid hb
    have HM := Lib.hid (bools_own (l := comeV g) (hi := w4.heap.size) (by rw [come_len]; exact ho) (Nat.le_refl _) (by rw [come_len]; omega))
    obtain ⟨Am, cm, e4⟩ := any9 ho
    subst e4
    clear ho hb
    go_wp2_with fail
    refine (front_any 0 w.heap.size w4 _ g (Graph.move (Still.of_below HX4.out) HG.out) HX4.out.size (by omega)).mono ?_
    rintro e w5 ⟨vf, rfl, ho, hb⟩
    have HX5 := Lib.hid (HX4.out.trans (hb.mono HX4.out.size))
    have HU5 := Lib.hid (HU4.out.trans (hb.mono HU4.out.size))
    have HV5 := Lib.hid hb
    have HF := Lib.hid (ho.graph (hi := w5.heap.size) (Nat.le_refl _) (by rw [front_len]; omega) (fun l hl => by
      obtain ⟨i, _, rfl⟩ := List.mem_map.1 hl
      have := fv_len g i g.length
      omega))
    obtain ⟨Af, cf, e5⟩ := Row.form HF.out
    rw [front_len] at e5
    subst e5
    clear ho hb
    go_wp2_with fail
    go_loopw [6] (fun vi wr => ∃ i : Nat, i ≤ g.length ∧ vi = .int .i64 i ∧ Hid (Below w5.heap.size w5 wr)) (fun vi _ => g.length - (intOf vi).toNat)
    case atStart => exact ⟨0, Nat.zero_le _, rfl, Lib.hid (Below.refl _ _)⟩
    case round =>
    obtain ⟨i, hi9, rfl, HB⟩ := hrel
    by_cases hlt : i < g.length
    · go_wp2_with fail
      go_loopw [7] (fun vk wr => ∃ k : Nat, k ≤ g.length ∧ vk = .int .i64 k ∧ Hid (Below w5.heap.size w5 wr)) (fun vk _ => g.length - (intOf vk).toNat)
      case atStart => exact ⟨0, Nat.zero_le _, rfl, HB⟩
      case round =>
      obtain ⟨k, hk9, rfl, HB⟩ := hrel
      by_cases hlt2 : k < g.length
      · obtain ⟨bi, hbi⟩ : ∃ b, (comeV g)[i]? = some b := ⟨_, List.getElem?_eq_getElem (by rw [come_len]; exact hlt)⟩
        obtain ⟨bm, om, rfl⟩ := addr_of9 HM.out (by omega)
        obtain ⟨cs, _, rfl, n1⟩ := cell_of HM.out hbi (HV5.out.trans (HB.out.mono HV5.out.size))
        have m1 := n1 _ rfl
        clear n1
        cases bi with
        | false =>
          clear hbi
          go_wp2_with fail
          go_roundw
          case rel => exact ⟨k + 1, by omega, by go_num, HB⟩
          case measure => simp [intOf]; omega
        | true =>
          have HIC := Lib.hid (come_iff.1 hbi)
          obtain ⟨gi, hgi⟩ : ∃ x, g[i]? = some x := ⟨_, List.getElem?_eq_getElem hlt⟩
          have HXr := Lib.hid (HX5.out.trans (HB.out.mono HX5.out.size))
          have hgd : g.getD i [] = gi := by rw [List.getD_eq_getElem?_getD, hgi]; rfl
          obtain ⟨mb, hmb⟩ : ∃ mb, decide ((k : Int) ∈ gi) = mb := ⟨_, rfl⟩
          have QL := Lib.hid (yes10 (leadsG_any 0 w.heap.size wr _ g (Graph.move (Still.of_below HXr.out) HG.out) HXr.out.size i gi hgi (k : Int)) mb (by rw [← hmb]; exact decide_eq_true_iff))
          clear hbi hgi
          go_wp2_with fail
          refine QL.out.mono ?_
          rintro e w6 ⟨rfl, hb⟩
          have HB6 := Lib.hid (HB.out.trans (hb.mono HB.out.size))
          clear hb HB
          cases mb with
          | false =>
            clear hmb hgd
            go_wp2_with fail
            go_roundw
            case rel => exact ⟨k + 1, by omega, by go_num, HB6⟩
            case measure => simp [intOf]; omega
          | true =>
            have HLD := Lib.hid (show (k : Int) ∈ g.getD i [] by rw [hgd]; exact of_decide_eq_true hmb)
            clear hmb hgd
            by_cases hk0 : k = 0
            · subst hk0
              have hfa := front_at hlt
              have hfm := fv_iff (g := g) (a := i) (k := 0) hlt2
              rw [edge_fr HIC.out HLD.out hlt2] at hfm
              obtain ⟨fl, hfl⟩ : ∃ fl, fv g i g.length = fl := ⟨_, rfl⟩
              have hfll : fl.length ≤ 1000 := by have := fv_len g i g.length; rw [hfl] at this; omega
              rw [hfl] at hfa hfm
              have HFM := Lib.hid hfm
              obtain ⟨bf, of, rfl⟩ := addr_of9 HF.out (by omega)
              obtain ⟨cs, _, ⟨u9, rfl, kx⟩, n1⟩ := cell_all HF.out hfa
              obtain ⟨Ar, cr, rfl⟩ := Row.form kx
              have HCF := Lib.hid (fun (wr : World) (hb : Below w5.heap.size w5 wr) => n1 wr hb _ rfl)
              have HKX := Lib.hid kx
              have c1 := HCF.out w6 HB6.out
              have QE := Lib.hid (fun (wr : World) (hb : Below w5.heap.size w5 wr) => dominates_any _ _ wr _ near (Ints.move (Still.of_below (HU5.out.trans (hb.mono HU5.out.size))) HN.out) (HU5.out.trans (hb.mono HU5.out.size)).size (by have := HNL.out; omega) (i : Int) (0 : Int))
              have HKC := Lib.hid (Way.step HIC.out HLD.out hlt2 trivial : Come g 0)
              clear n1 hfa hfm hfl kx
              go_wp2_with fail
              go_loopw [8, 9] (fun vb vj wr => ∃ (j : Nat), j ≤ fl.length ∧ vj = .int .i64 j ∧ vb = .bool (inV fl (0 : Int) j) ∧ Hid (Below w5.heap.size w5 wr)) (fun _ vj _ => fl.length - (intOf vj).toNat)
              case atStart => exact ⟨0, Nat.zero_le _, rfl, rfl, HB6⟩
              case round =>
              obtain ⟨j, hj, rfl, rfl, HB⟩ := hrel
              have c1 := HCF.out wr HB.out
              obtain ⟨ib, hib⟩ : ∃ ib, inV fl (0 : Int) j = ib := ⟨_, rfl⟩
              rw [hib]
              by_cases hlt3 : j < fl.length
              · obtain ⟨y, hy⟩ : ∃ y, fl[j]? = some y := ⟨_, List.getElem?_eq_getElem hlt3⟩
                obtain ⟨br, or, rfl⟩ := addr_of9 HKX.out (by omega)
                obtain ⟨cs, _, rfl, n2⟩ := cell_of HKX.out hy HB.out
                have m3 := n2 _ rfl
                have his := inV_step (x := (0 : Int)) hy
                rw [hib] at his
                have HIS := Lib.hid his
                clear n2 hy his hib
                cases ib with
                | true =>
                  have HIS2 := Lib.hid (show inV fl (0 : Int) (j + 1) = true by rw [HIS.out]; rfl)
                  clear HIS
                  go_wp2_with fail
                  go_roundw
                  case rel => exact ⟨j + 1, by omega, by go_num, by rw [HIS2.out], HB⟩
                  case measure => simp [intOf]; omega
                | false =>
                  obtain ⟨yb, hyb⟩ : ∃ yb, (y == (0 : Int)) = yb := ⟨_, rfl⟩
                  have HIS2 := Lib.hid (show inV fl (0 : Int) (j + 1) = yb by rw [HIS.out, hyb]; rfl)
                  clear HIS
                  go_wp2_with fail
                  go_roundw
                  case rel => exact ⟨j + 1, by omega, by go_num, by rw [HIS2.out], HB⟩
                  case measure => simp [intOf]; omega
              · have hje : j = fl.length := by omega
                subst hje
                rw [inV_end] at hib
                by_cases hik : i = 0
                · have hbt : ib = true := by rw [← hib]; exact decide_eq_true (HFM.out.2 (.inl hik))
                  have t1 : ((i : Int) == (0 : Int)) = true := by rw [beq_iff_eq]; omega
                  subst hbt
                  clear hib hik
                  go_wp2_with fail
                  go_roundw
                  case rel => exact ⟨0 + 1, by omega, by go_num, HB⟩
                  case measure => simp [intOf]; omega
                · have t1 : ((i : Int) == (0 : Int)) = false := by rw [beq_eq_false_iff_ne]; omega
                  have hdd : dmV near (i : Int) near.length (0 : Int) = !ib := by
                    rw [← hib]
                    show dmV near (i : Int) near.length ((0 : Nat) : Int) = !decide (((0 : Nat) : Int) ∈ fl)
                    by_cases hd : Dom g i 0
                    · rw [(dm_anc HFX.out HUP.out HKC.out).2 ((HFX.out.dom HKC.out).2 hd), decide_eq_false (fun h => (HFM.out.1 h).elim hik (fun h => h hd))]; rfl
                    · rw [decide_eq_true (HFM.out.2 (.inr hd)), Bool.eq_false_iff.2 (fun h => hd ((HFX.out.dom HKC.out).1 ((dm_anc HFX.out HUP.out HKC.out).1 h)))]; rfl
                  have QD := Lib.hid (QE.out wr HB.out)
                  rw [hdd] at QD
                  clear hdd hib hik
                  go_wp2_with fail
                  refine QD.out.mono ?_
                  rintro e w8 ⟨rfl, hb⟩
                  have HB8 := Lib.hid (HB.out.trans (hb.mono HB.out.size))
                  clear hb QD
                  cases ib with
                  | true =>
                    go_wp2_with fail
                    go_roundw
                    case rel => exact ⟨0 + 1, by omega, by go_num, HB8⟩
                    case measure => simp [intOf]; omega
                  | false =>
                    go_wp2_with fail
                    go_roundw
                    case rel => exact ⟨0 + 1, by omega, by go_num, HB8⟩
                    case measure => simp [intOf]; omega
              
            · have t0 : ((k : Int) == 0) = false := by rw [beq_eq_false_iff_ne]; omega
              have t0n : ((k : Int) != 0) = true := by rw [bne, t0]; rfl
              obtain ⟨c, hc, _⟩ := HFX.out.up9 k hk0 (Way.step HIC.out HLD.out hlt2 trivial)
              have hnl := HNL.out
              obtain ⟨bn, on, rfl⟩ := addr_of9 HN.out (by omega)
              obtain ⟨cs, _, rfl, n1⟩ := cell_of HN.out hc (HU5.out.trans (HB6.out.mono HU5.out.size))
              have m2 := n1 _ rfl
              have hcd : dmV near (c : Int) near.length (i : Int) = true := (dm_anc HFX.out HUP.out HIC.out).2 (edge_up HFX.out HIC.out HLD.out hlt2 hk0 hc)
              have QD := Lib.hid (dominates_any _ _ w6 _ near (Ints.move (Still.of_below (HU5.out.trans (HB6.out.mono HU5.out.size))) HN.out) (HU5.out.trans (HB6.out.mono HU5.out.size)).size (by omega) (c : Int) (i : Int))
              rw [hcd] at QD
              clear n1 hc hcd hnl hk0
              go_wp2_with fail
              refine QD.out.mono ?_
              rintro e w7 ⟨rfl, hb⟩
              have HB7 := Lib.hid (HB6.out.trans (hb.mono HB6.out.size))
              clear hb HB6 QD
              have hfa := front_at hlt
              have hfm := fv_iff (g := g) (a := i) (k := k) hlt2
              rw [edge_fr HIC.out HLD.out hlt2] at hfm
              obtain ⟨fl, hfl⟩ : ∃ fl, fv g i g.length = fl := ⟨_, rfl⟩
              have hfll : fl.length ≤ 1000 := by have := fv_len g i g.length; rw [hfl] at this; omega
              rw [hfl] at hfa hfm
              have HFM := Lib.hid hfm
              obtain ⟨bf, of, rfl⟩ := addr_of9 HF.out (by omega)
              obtain ⟨cs, _, ⟨u9, rfl, kx⟩, n1⟩ := cell_all HF.out hfa
              obtain ⟨Ar, cr, rfl⟩ := Row.form kx
              have HCF := Lib.hid (fun (wr : World) (hb : Below w5.heap.size w5 wr) => n1 wr hb _ rfl)
              have HKX := Lib.hid kx
              have c1 := HCF.out w7 HB7.out
              have QE := Lib.hid (fun (wr : World) (hb : Below w5.heap.size w5 wr) => dominates_any _ _ wr _ near (Ints.move (Still.of_below (HU5.out.trans (hb.mono HU5.out.size))) HN.out) (HU5.out.trans (hb.mono HU5.out.size)).size (by have := HNL.out; omega) (i : Int) (k : Int))
              have HKC := Lib.hid (Way.step HIC.out HLD.out hlt2 trivial : Come g k)
              clear n1 hfa hfm hfl kx
              go_wp2_with fail
              go_loopw [8, 9] (fun vb vj wr => ∃ (j : Nat), j ≤ fl.length ∧ vj = .int .i64 j ∧ vb = .bool (inV fl (k : Int) j) ∧ Hid (Below w5.heap.size w5 wr)) (fun _ vj _ => fl.length - (intOf vj).toNat)
              case atStart => exact ⟨0, Nat.zero_le _, rfl, rfl, HB7⟩
              case round =>
              obtain ⟨j, hj, rfl, rfl, HB⟩ := hrel
              have c1 := HCF.out wr HB.out
              obtain ⟨ib, hib⟩ : ∃ ib, inV fl (k : Int) j = ib := ⟨_, rfl⟩
              rw [hib]
              by_cases hlt3 : j < fl.length
              · obtain ⟨y, hy⟩ : ∃ y, fl[j]? = some y := ⟨_, List.getElem?_eq_getElem hlt3⟩
                obtain ⟨br, or, rfl⟩ := addr_of9 HKX.out (by omega)
                obtain ⟨cs, _, rfl, n2⟩ := cell_of HKX.out hy HB.out
                have m3 := n2 _ rfl
                have his := inV_step (x := (k : Int)) hy
                rw [hib] at his
                have HIS := Lib.hid his
                clear n2 hy his hib
                cases ib with
                | true =>
                  have HIS2 := Lib.hid (show inV fl (k : Int) (j + 1) = true by rw [HIS.out]; rfl)
                  clear HIS
                  go_wp2_with fail
                  go_roundw
                  case rel => exact ⟨j + 1, by omega, by go_num, by rw [HIS2.out], HB⟩
                  case measure => simp [intOf]; omega
                | false =>
                  obtain ⟨yb, hyb⟩ : ∃ yb, (y == (k : Int)) = yb := ⟨_, rfl⟩
                  have HIS2 := Lib.hid (show inV fl (k : Int) (j + 1) = yb by rw [HIS.out, hyb]; rfl)
                  clear HIS
                  go_wp2_with fail
                  go_roundw
                  case rel => exact ⟨j + 1, by omega, by go_num, by rw [HIS2.out], HB⟩
                  case measure => simp [intOf]; omega
              · have hje : j = fl.length := by omega
                subst hje
                rw [inV_end] at hib
                by_cases hik : i = k
                · have hbt : ib = true := by rw [← hib]; exact decide_eq_true (HFM.out.2 (.inl hik))
                  have t1 : ((i : Int) == (k : Int)) = true := by rw [beq_iff_eq]; omega
                  subst hbt
                  clear hib hik
                  go_wp2_with fail
                  go_roundw
                  case rel => exact ⟨k + 1, by omega, by go_num, HB⟩
                  case measure => simp [intOf]; omega
                · have t1 : ((i : Int) == (k : Int)) = false := by rw [beq_eq_false_iff_ne]; omega
                  have hdd : dmV near (i : Int) near.length (k : Int) = !ib := by
                    rw [← hib]
                    show dmV near (i : Int) near.length ((k : Nat) : Int) = !decide (((k : Nat) : Int) ∈ fl)
                    by_cases hd : Dom g i k
                    · rw [(dm_anc HFX.out HUP.out HKC.out).2 ((HFX.out.dom HKC.out).2 hd), decide_eq_false (fun h => (HFM.out.1 h).elim hik (fun h => h hd))]; rfl
                    · rw [decide_eq_true (HFM.out.2 (.inr hd)), Bool.eq_false_iff.2 (fun h => hd ((HFX.out.dom HKC.out).1 ((dm_anc HFX.out HUP.out HKC.out).1 h)))]; rfl
                  have QD := Lib.hid (QE.out wr HB.out)
                  rw [hdd] at QD
                  clear hdd hib hik
                  go_wp2_with fail
                  refine QD.out.mono ?_
                  rintro e w8 ⟨rfl, hb⟩
                  have HB8 := Lib.hid (HB.out.trans (hb.mono HB.out.size))
                  clear hb QD
                  cases ib with
                  | true =>
                    go_wp2_with fail
                    go_roundw
                    case rel => exact ⟨k + 1, by omega, by go_num, HB8⟩
                    case measure => simp [intOf]; omega
                  | false =>
                    go_wp2_with fail
                    go_roundw
                    case rel => exact ⟨k + 1, by omega, by go_num, HB8⟩
                    case measure => simp [intOf]; omega
              
      · go_wp2_with fail
        go_roundw
        case rel => exact ⟨i + 1, by omega, by go_num, HB⟩
        case measure => simp [intOf]; omega
    · go_wp2_with fail
      go_ret
      exact ⟨rfl, HX5.out.trans (HB.out.mono HX5.out.size)⟩

set_option maxRecDepth 100000 in
theorem lifted (os : Os) (started : os.Started) (H : Type) (enc : TypeId × Value → H) :
    ReturnsInHanded {} Try.checked os 7 .any (Rows.domEdgesSpec.pre6 enc Try.prog Try.f7 Rows.domEdgesRow.domain false) (Rows.domEdgesSpec.post enc Try.prog Try.f7 false true false false) := by
  refine returnsInHanded_of_change_sized (C := Try.checked) (by kernel_rfl) started (by kernel_rfl) Try.func7
    (ChangeSpec.witness6 (enc := enc) (C := Try.checked) false ⟨#[], #[.slice none 0 0], []⟩ 8 (by kernel_rfl) (by kernel_rfl) (by kernel_rfl) (by kernel_rfl)) ?_
  intro W base args ds gs before hval0 hW hcnd hsz0 _
  have hval : ∀ (j : Nat) t v, Try.f7.params[j]? = some t → args[j]? = some v → Value.okWide Try.prog W .any base t v := hval0
  have hW' := hW
  obtain ⟨p, q, hA0, hV, rfl, hfz, hnd⟩ := hW
  have hsz : (DataW.weightsEach Try.prog (Try.f7.params.toList ++ Rows.domEdgesSpec.plain.varTypes Try.prog) (ds ++ gs)).all (· ≤ reachBytes) = true := hsz0
  have hA : DataW.TrodAll enc Try.prog W 0 (fun _ => true) true Try.f7.params.toList args.toList ds p := hA0
  rw [Try.params7] at hA hval hsz
  obtain ⟨v0, vs0, d0, ds0, p0, q0, hargs, rfl, rfl, h0, r0⟩ := trodAll_cons hA
  obtain ⟨rfl, rfl, rfl⟩ := trodAll_nil r0
  obtain rfl : args = #[v0] := by cases args; simp_all
  obtain ⟨rfl, rfl⟩ := trodVars_none hV
  obtain ⟨xs0, hG0⟩ := OpenG.open_graph hsz (j := 0) rfl rfl (hval 0 22 v0 rfl rfl) h0
  clear hA0 hval0
  simp only [List.append_nil] at hW'
  refine (walk v0 xs0 hG0).mono fun e W' ⟨he, hg⟩ => ?_
  subst he
  exact ⟨_, rfl, Shell.lawPost (by kernel_rfl) rfl (by kernel_rfl) rfl Try.underlying4 hW' rfl hg⟩

/-- The statement. -/
theorem proved : Rows.DomEdgesSaid :=
  OpenClaim.holds_of_wide 7 Try.f7 rfl rfl rfl rfl rfl rfl rfl ⟨rfl, rfl, rfl, rfl, rfl⟩ rfl rfl rfl rfl rfl (by kernel_rfl) Try.func7 (by kernel_rfl)
    (of_decide_eq_true (by kernel_rfl)) (by unfold Func.isWrapper; first | (rw [if_pos (by decide +kernel)]; kernel_rfl) | (rw [if_neg (by decide +kernel)]; exact ⟨rfl, rfl⟩))
    (fun os started H enc _ => lifted os started H enc)
end Go.Proofs.Ytdjggoddpohceaa.domEdges
