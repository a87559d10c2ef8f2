/-
  In the order that is told each point but the first stands behind one that leads to it, and each that can be come to stands there once.
-/
import Derived.Test.YtnonbkaanplcjaaRows
import Derived.Test.YtnonbkaanplcjaaLaw09
import Derived.Test.YtnonbkaanplcjaaOpenG
import Derived.Deep.RegionHeld3
import Derived.Test.YtnonbkaanplcjaaShell
import Derived.ProofKit
import Derived.OpenShut
import Derived.SizedLaws
namespace Go.Proofs.Ytnonbkaanplcjaa.flowOrder
open Go.ChangeShapes Go.WideShapes Go.ChangeAt Go.RowKit
open Api Mem Fl9 L09
theorem cell_own9 {w wr : World} {base : Nat} {A : Option Addr} {c k : Nat} {o : List Int} {x : Int} (h : w.ownsRow base 3 1 (.slice A o.length c) o.length (iC o)) (hb : Below w.heap.size w wr) (hx : o[k]? = some x) : ∃ b, A = some ⟨b, 0, none⟩ ∧ wr.cell? ⟨b, k, none⟩ = some (i64 x) := by
  have hk := (List.getElem?_eq_some_iff.1 hx).1
  obtain ⟨b, cap, e, _⟩ := form9 h (by omega)
  simp only [Value.slice.injEq, true_and] at e
  obtain ⟨rfl, rfl⟩ := e
  exact ⟨b, rfl, ((row_below9 h hb).cellAt k (by omega)).trans (by rw [List.getElem?_map, hx]; rfl)⟩
theorem cell_bool9 {w wr : World} {base g n c k : Nat} {m : List Bool} {b : Bool} (h : w.ownsRow base 4 1 (.slice (some ⟨g, 0, none⟩) n c) n (bC m)) (hb : Below w.heap.size w wr) (hx : m[k]? = some b) : wr.cell? ⟨g, k, none⟩ = some (.bool b) := by
  have hk := (List.getElem?_eq_some_iff.1 hx).1
  have hl := h.1
  simp at hl
  exact ((row_below9 h hb).cellAt k (by omega)).trans (by rw [List.getElem?_map, hx]; rfl)
/-- which points stand among the first k. -/
def SeenP (o : List Int) (n k : Nat) (s : List Bool) : Prop := s.length = n ∧ ∀ q, q < n → s[q]? = some (decide ((q : Int) ∈ o.take k))
theorem SeenP.start (o : List Int) (n : Nat) : SeenP o n 0 (List.replicate n false) := ⟨by simp, fun q hq => by rw [List.getElem?_replicate, if_pos hq]; simp⟩
theorem SeenP.next {o : List Int} {n k q : Nat} {s : List Bool} (h : SeenP o n k s) (hk : o[k]? = some (q : Int)) : SeenP o n (k + 1) (s.set q true) := by
  have e : o.take (k + 1) = o.take k ++ [(q : Int)] := by
    obtain ⟨h1, h2⟩ := List.getElem?_eq_some_iff.1 hk
    rw [List.take_succ_eq_append_getElem h1, h2]
  refine ⟨by simp [h.1], fun p hp => ?_⟩
  rw [e]
  by_cases e2 : q = p
  · subst e2
    rw [List.getElem?_set_self (by rw [h.1]; exact hp)]
    simp
  · rw [List.getElem?_set_ne e2, h.2 p hp]
    congr 1
    have : (p : Int) ∈ o.take k ++ [(q : Int)] ↔ (p : Int) ∈ o.take k := by
      rw [List.mem_append, List.mem_singleton]
      exact ⟨fun h => h.resolve_right (by omega), .inl⟩
    simp only [this]
/-- one that stands among the first k leads to x. -/
def LedP (g : List (List Int)) (o : List Int) (x : Int) (k : Nat) (b0 b : Bool) : Prop := b = true ↔ (b0 = true ∨ ∃ (j : Nat) (y : Int), j < k ∧ o[j]? = some y ∧ x ∈ g.getD y.toNat [])
def EndP (g : List (List Int)) (o : List Int) (x : Int) (k : Nat) (b0 : Bool) : Prop := b0 = true ∨ ∃ (j : Nat) (y : Int), j < k ∧ o[j]? = some y ∧ x ∈ g.getD y.toNat []
theorem LedP.start (g : List (List Int)) (o : List Int) (x : Int) (b0 : Bool) : LedP g o x 0 b0 b0 := ⟨.inl, fun h => h.elim id fun ⟨j, _, h, _⟩ => by omega⟩
theorem LedP.keep {g : List (List Int)} {o : List Int} {x : Int} {k : Nat} {b0 : Bool} (h : LedP g o x k b0 true) : LedP g o x (k + 1) b0 true := ⟨fun _ => (h.1 rfl).imp id fun ⟨j, y, h1, h2⟩ => ⟨j, y, by omega, h2⟩, fun _ => rfl⟩
theorem LedP.next {g : List (List Int)} {o : List Int} {x : Int} {k p : Nat} {b0 c : Bool} {gp : List Int} (h : LedP g o x k b0 false) (hk : o[k]? = some (p : Int)) (hg : g[p]? = some gp) (hc : c = true ↔ x ∈ gp) : LedP g o x (k + 1) b0 c := by
  have hd : g.getD p [] = gp := by rw [List.getD_eq_getElem?_getD, hg]; rfl
  constructor
  · intro e
    exact .inr ⟨k, p, by omega, hk, by rw [Int.toNat_natCast, hd]; exact hc.1 e⟩
  · rintro (e | ⟨j, y, h1, h2, h3⟩)
    · have := h.2 (.inl e)
      cases this
    · by_cases e : j = k
      · subst e
        rw [hk] at h2
        cases h2
        rw [Int.toNat_natCast, hd] at h3
        exact hc.2 h3
      · have := h.2 (.inr ⟨j, y, by omega, h2, h3⟩)
        cases this
set_option maxRecDepth 100000 in
set_option maxHeartbeats 16000000 in
theorem walk (v : Value) (g : List (List Int)) {w : World} (hq : Graph 0 w.heap.size w v g ∧ ∀ l ∈ g, ∀ x ∈ l, NumM.In x) :
    Calls Try.prog 5 #[v] w fun e w' => e = .returned (.bool true) ∧ Below w.heap.size w w' := by
  obtain ⟨hg, hin⟩ := hq
  obtain ⟨A1, k1, rfl⟩ := Row.form hg
  have hgl : g.length ≤ 4611686018427387903 := by obtain ⟨_, _, _, h, _⟩ := Row.get hg; exact h
  have HG := Lib.hid hg
  have HIN := Lib.hid hin
  clear hg hin
  go_enter Try.func5, Try.ntmps5
  go_wp2_with fail
  refine (L09.awake_any w).mono ?_
  rintro e w1 ⟨rfl, hb1⟩
  have HX1 := Lib.hid hb1
  clear hb1
  go_wp2_with fail
  refine (fewG_any 0 w.heap.size w1 _ g (Graph.move (Still.of_below HX1.out) HG.out) HX1.out.size 100).mono ?_
  rintro e w2 ⟨b2, rfl, hfew, hb2⟩
  have HX2 := Lib.hid (HX1.out.trans (hb2.mono HX1.out.size))
  clear hb2
  cases b2 with
  | false =>
    clear hfew
    go_wp2_with fail
    refine (L09.awake_any w2).mono ?_
    rintro e w3 ⟨rfl, hb3⟩
    have HX3 := Lib.hid (HX2.out.trans (hb3.mono HX2.out.size))
    clear hb3
    go_wp2_with fail
    go_ret
    exact ⟨rfl, HX3.out⟩
  | true =>
    have hfw := hfew rfl
    have hfl : g.length ≤ 100 := by have := hfw.1; omega
    have HFW := Lib.hid hfw
    clear hfew hfw
    have HN := Lib.hid (show g.length ≤ 1000 by omega)
    by_cases h0 : g.length = 0
    · have e0 : ((g.length : Int) == 0) = true := by rw [h0]; rfl
      clear h0
      go_wp2_with fail
      refine (L09.awake_any w2).mono ?_
      rintro e w3 ⟨rfl, hb3⟩
      have HX3 := Lib.hid (HX2.out.trans (hb3.mono HX2.out.size))
      clear hb3
      go_wp2_with fail
      go_ret
      exact ⟨rfl, HX3.out⟩
    · have e0 : ((g.length : Int) == 0) = false := by rw [beq_eq_false_iff_ne]; omega
      have HOK := Lib.hid (by have := start_ok h0; rw [← order_start, ← come_start] at this; exact this)
      have hpos : 0 < g.length := by omega
      clear h0
      go_wp2_with fail
      refine (order_any 0 w.heap.size w2 _ g (Graph.move (Still.of_below HX2.out) HG.out) HX2.out.size (by omega)).mono ?_
      rintro e w3 ⟨vo, rfl, ho, hb⟩
      obtain ⟨Ao, co, rfl⟩ := any9 ho
      have HX3 := Lib.hid (HX2.out.trans (hb.mono HX2.out.size))
      have HO := Lib.hid ho
      clear ho hb
      go_wp2_with fail
      refine (come_any9 0 w.heap.size w3 _ g (Graph.move (Still.of_below HX3.out) HG.out) HX3.out.size (by omega)).mono ?_
      rintro e w4 ⟨vm, rfl, hm, hb⟩
      obtain ⟨gm, cm, rfl, _, _, _⟩ := form9 hm (by omega)
      have HX4 := Lib.hid (HX3.out.trans (hb.mono HX3.out.size))
      have HO4 := Lib.hid (row_below9 HO.out hb)
      have HM4 := Lib.hid hm
      clear hm hb
      have hmm := fun (w : World) => run_row9 (P := Try.prog) (t := 36) Try.underlying36 info_bool9 rfl (by decide) g.length (by omega) w
      obtain ⟨W5, hW5⟩ : ∃ W, w4.alloc (.cells (List.replicate g.length (.bool false)).toArray 4) = W := ⟨_, rfl⟩
      have HS5 := Lib.hid (show Own W5 w4.heap.size 4 (bC (List.replicate g.length false)) by rw [← hW5, show bC (List.replicate g.length false) = List.replicate g.length (.bool false) from List.map_replicate]; exact made_as9 rfl _ _)
      have HU5 := Lib.hid (show Below w4.heap.size w4 W5 by rw [← hW5]; exact alloc_up _ _)
      have HW := Lib.hid (show w4.alloc (.cells (Array.replicate g.length (.bool false)) 4) = W5 by rw [← hW5]; simp)
      clear hW5
      have hol : (orderV g).length ≤ 1000 := by have := order_len g; omega
      obtain ⟨o, hoe⟩ : ∃ o, orderV g = o := ⟨_, rfl⟩
      obtain ⟨m, hme⟩ : ∃ m, comeV g = m := ⟨_, rfl⟩
      rw [hoe] at HO4 HOK hol
      rw [hme] at HM4 HOK
      rw [hoe]
      have HCO := Lib.hid (fun (wr : World) (hb : Below w4.heap.size w4 wr) (k : Nat) (x : Int) (hx : o[k]? = some x) => cell_own9 HO4.out hb hx)
      have HCM := Lib.hid (fun (wr : World) (hb : Below w4.heap.size w4 wr) (k : Nat) (b : Bool) (hx : m[k]? = some b) => cell_bool9 HM4.out hb hx)
      clear hoe hme HO4 HM4 HX3
      go_wp2_with fail
      rw [HW.out]
      go_loopw [6] (fun i wr => ∃ (k : Nat) (s : List Bool), k ≤ o.length ∧ i = .int .i64 k ∧ Hid (SeenP o g.length k s) ∧ Hid (Own wr w4.heap.size 4 (bC s)) ∧ Hid (Below w4.heap.size w4 wr)) (fun i _ => o.length - (intOf i).toNat)
      case atStart => exact ⟨0, _, Nat.zero_le _, rfl, Lib.hid (SeenP.start _ _), HS5, HU5⟩
      case round =>
      obtain ⟨k, s, hk, rfl, HSE, HS, HU⟩ := hrel
      by_cases hlt : k < o.length
      · obtain ⟨x, hx⟩ : ∃ x, o[k]? = some x := ⟨_, List.getElem?_eq_getElem hlt⟩
        obtain ⟨q, rfl, hq⟩ := HOK.out.point x (List.mem_of_getElem? hx)
        obtain ⟨bo, eo, c1⟩ := HCO.out wr HU.out k _ hx
        subst eo
        have HCO2 := Lib.hid (fun (wr : World) (hb : Below w4.heap.size w4 wr) (k : Nat) (x : Int) (hx : o[k]? = some x) => (show wr.cell? ⟨bo, k, none⟩ = some (i64 x) by obtain ⟨b9, e9, h9⟩ := HCO.out wr hb k x hx; cases e9; exact h9))
        have hmq := (HOK.out.mem q).1 (List.mem_of_getElem? hx)
        have c2 := HCM.out wr HU.out q true hmq
        have hnm : (q : Int) ∉ o.take k := fun h => by
          obtain ⟨i, hi⟩ := List.mem_iff_getElem?.1 h
          have hik := (List.getElem?_eq_some_iff.1 hi).1
          rw [List.length_take] at hik
          rw [List.getElem?_take_of_lt (by omega)] at hi
          have := nodup_at HOK.out.nd hi hx
          omega
        have c3 := (HS.out.cell q).trans (show (bC s)[q]? = some (.bool false) by rw [List.getElem?_map, HSE.out.2 q hq, decide_eq_false hnm]; rfl)
        have c3t := HS.out.thaw q
        have c3s := HS.out.lt
        have e1 : decide ((q : Int) < 0) = false := decide_eq_false (by omega)
        have e2 : decide ((g.length : Int) ≤ (q : Int)) = false := decide_eq_false (by omega)
        have e2n : decide (g.length ≤ q) = false := decide_eq_false (by omega)
        have HXK := Lib.hid hx
        have HNM := Lib.hid (decide_eq_false hnm)
        have hbk := HOK.out.back k _ hx
        clear hx hmq hnm
        rcases hbk with ⟨hk0, hq0⟩ | hex
        · have k0 : ((k : Int) == 0) = true := by rw [hk0]; rfl
          have q0 : ((q : Int) == 0) = true := by rw [hq0]; rfl
          have HFIN : Hid (EndP g o (q : Int) k true) := Lib.hid (.inl rfl)
          clear hk0 hq0
          go_wp2_with fail
          go_loopw [7, 8] (fun lv jv wr => ∃ (j : Nat) (b : Bool), j ≤ k ∧ jv = .int .i64 j ∧ lv = .bool b ∧ Hid (LedP g o (q : Int) j true b) ∧ Hid (Own wr w4.heap.size 4 (bC s)) ∧ Hid (Below w4.heap.size w4 wr)) (fun _ jv _ => k - (intOf jv).toNat)
          case atStart => exact ⟨0, true, Nat.zero_le _, rfl, rfl, Lib.hid (LedP.start _ _ _ _), HS, HU⟩
          case round =>
          obtain ⟨j, b, hj, rfl, rfl, HLED, HS, HU⟩ := hrel
          by_cases hlt2 : j < k
          · cases b with
            | true =>
              go_wp2_with fail
              go_region
              go_wp2_with fail
              go_roundw
              case rel => exact ⟨j + 1, true, by omega, by go_num, rfl, Lib.hid HLED.out.keep, Lib.hid HS.out.drew, Lib.hid HU.out.drew⟩
              case measure => simp [intOf]; omega
            | false =>
              obtain ⟨y, hy⟩ : ∃ y, o[j]? = some y := ⟨_, List.getElem?_eq_getElem (by omega)⟩
              obtain ⟨p, rfl, hp⟩ := HOK.out.point y (List.mem_of_getElem? hy)
              obtain ⟨bo2, eo2, d1⟩ := HCO.out wr HU.out j _ hy
              obtain ⟨bo3, eo3, d2⟩ := HCO.out wr HU.out k _ HXK.out
              simp only [Option.some.injEq, Addr.mk.injEq, and_true] at eo2 eo3
              subst eo2
              subst eo3
              obtain ⟨gp, hgp⟩ : ∃ x, g[p]? = some x := ⟨_, List.getElem?_eq_getElem hp⟩
              have HSF := Lib.hid (fun (w' : World) (ho : Own w' w4.heap.size 4 (bC s)) (hb : Below w4.heap.size w4 w') => (show (w'.cell? ⟨bo, j, none⟩ = some (i64 (p : Int)) ∧ w'.cell? ⟨bo, k, none⟩ = some (i64 (q : Int))) ∧ Hid (Own w' w4.heap.size 4 (bC s)) ∧ Hid (Below w4.heap.size w4 w') from ⟨⟨(HCO2.out w' hb j _ hy), (HCO2.out w' hb k _ HXK.out)⟩, Lib.hid ho, Lib.hid hb⟩))
              have HSN := Lib.hid (fun (w1 w' : World) (hb : Below w1.heap.size w1 w') (h : (w1.cell? ⟨bo, j, none⟩ = some (i64 (p : Int)) ∧ w1.cell? ⟨bo, k, none⟩ = some (i64 (q : Int))) ∧ Hid (Own w1 w4.heap.size 4 (bC s)) ∧ Hid (Below w4.heap.size w4 w1)) => HSF.out w' (h.2.1.out.below hb h.2.1.out.lt) (h.2.2.out.trans (hb.mono h.2.2.out.size)))
              by_cases hmem : (q : Int) ∈ gp
              · have H6 := Lib.hid (HLED.out.next hy hgp (c := true) ⟨fun _ => hmem, fun _ => rfl⟩)
                have QL := Lib.hid (fun (w5 : World) (hb : Below w4.heap.size w4 w5) => yes9 (leadsG_any 0 w.heap.size w5 _ g (Graph.move (Still.of_below (HX4.out.trans (hb.mono HX4.out.size))) HG.out) (HX4.out.trans (hb.mono HX4.out.size)).size p gp hgp (q : Int)) hmem)
                have hjl : j < o.length := by omega
                clear hy hgp hmem
                go_wp2_with fail
                go_region_held3 (fun w' => (w'.cell? ⟨bo, j, none⟩ = some (i64 (p : Int)) ∧ w'.cell? ⟨bo, k, none⟩ = some (i64 (q : Int))) ∧ Hid (Own w' w4.heap.size 4 (bC s)) ∧ Hid (Below w4.heap.size w4 w'))
                  (first | exact HSF.out _ HS.out HU.out | exact HSF.out _ HS.out.drew HU.out.drew | exact HSN.out _ _ hb (by assumption))
                  (first | (go_at_call 23; (with_reducible refine (QL.out _ (Hid.out (And.right (And.right (by assumption))))).mono ?_); rintro e w' ⟨rfl, hb⟩))
                rename_i hHeld
                have HS6 := hHeld.2.1
                have HU6 := hHeld.2.2
                clear hHeld
                go_wp2_with fail
                go_roundw
                case rel => exact ⟨j + 1, true, by omega, by go_num, rfl, H6, HS6, HU6⟩
                case measure => simp [intOf]; omega
              · have H6 := Lib.hid (HLED.out.next hy hgp (c := false) ⟨fun h => (by cases h), fun h => absurd h hmem⟩)
                have QL := Lib.hid (fun (w5 : World) (hb : Below w4.heap.size w4 w5) => not9 (leadsG_any 0 w.heap.size w5 _ g (Graph.move (Still.of_below (HX4.out.trans (hb.mono HX4.out.size))) HG.out) (HX4.out.trans (hb.mono HX4.out.size)).size p gp hgp (q : Int)) hmem)
                have hjl : j < o.length := by omega
                clear hy hgp hmem
                go_wp2_with fail
                go_region_held3 (fun w' => (w'.cell? ⟨bo, j, none⟩ = some (i64 (p : Int)) ∧ w'.cell? ⟨bo, k, none⟩ = some (i64 (q : Int))) ∧ Hid (Own w' w4.heap.size 4 (bC s)) ∧ Hid (Below w4.heap.size w4 w'))
                  (first | exact HSF.out _ HS.out HU.out | exact HSF.out _ HS.out.drew HU.out.drew | exact HSN.out _ _ hb (by assumption))
                  (first | (go_at_call 23; (with_reducible refine (QL.out _ (Hid.out (And.right (And.right (by assumption))))).mono ?_); rintro e w' ⟨rfl, hb⟩))
                rename_i hHeld
                have HS6 := hHeld.2.1
                have HU6 := hHeld.2.2
                clear hHeld
                go_wp2_with fail
                go_roundw
                case rel => exact ⟨j + 1, false, by omega, by go_num, rfl, H6, HS6, HU6⟩
                case measure => simp [intOf]; omega
          · have hje : j = k := by omega
            subst hje
            obtain rfl : b = true := HLED.out.2 HFIN.out
            obtain ⟨bo3, eo3, d2⟩ := HCO.out wr HU.out j _ HXK.out
            simp only [Option.some.injEq, Addr.mk.injEq, and_true] at eo3
            subst eo3
            have c4 := (HS.out.cell q).trans (show (bC s)[q]? = some (.bool false) by rw [List.getElem?_map, HSE.out.2 q hq, HNM.out]; rfl)
            have c4t := HS.out.thaw q
            have c4s := HS.out.lt
            have HS2 := Lib.hid (show Own (wr.setCell ⟨w4.heap.size, q, none⟩ (.bool true)) w4.heap.size 4 (bC (s.set q true)) by have := HS.out.store q (.bool true); simpa [bC, List.map_set] using this)
            have HU2 := Lib.hid (HU.out.setCell (p := ⟨w4.heap.size, q, none⟩) (Nat.le_refl _) (.bool true))
            have HSE2 := Lib.hid (HSE.out.next HXK.out)
            clear c1 c2 c3 c3t c3s
            go_wp2_with fail
            go_roundw
            case rel => exact ⟨j + 1, _, by omega, by go_num, HSE2, HS2, HU2⟩
            case measure => simp [intOf]; omega
        · have k0 : ((k : Int) == 0) = false := by rw [beq_eq_false_iff_ne]; obtain ⟨j, y, h, _⟩ := hex; omega
          have HFIN : Hid (EndP g o (q : Int) k false) := Lib.hid (.inr hex)
          clear hex
          go_wp2_with fail
          go_loopw [7, 8] (fun lv jv wr => ∃ (j : Nat) (b : Bool), j ≤ k ∧ jv = .int .i64 j ∧ lv = .bool b ∧ Hid (LedP g o (q : Int) j false b) ∧ Hid (Own wr w4.heap.size 4 (bC s)) ∧ Hid (Below w4.heap.size w4 wr)) (fun _ jv _ => k - (intOf jv).toNat)
          case atStart => exact ⟨0, false, Nat.zero_le _, rfl, rfl, Lib.hid (LedP.start _ _ _ _), HS, HU⟩
          case round =>
          obtain ⟨j, b, hj, rfl, rfl, HLED, HS, HU⟩ := hrel
          by_cases hlt2 : j < k
          · cases b with
            | true =>
              go_wp2_with fail
              go_region
              go_wp2_with fail
              go_roundw
              case rel => exact ⟨j + 1, true, by omega, by go_num, rfl, Lib.hid HLED.out.keep, Lib.hid HS.out.drew, Lib.hid HU.out.drew⟩
              case measure => simp [intOf]; omega
            | false =>
              obtain ⟨y, hy⟩ : ∃ y, o[j]? = some y := ⟨_, List.getElem?_eq_getElem (by omega)⟩
              obtain ⟨p, rfl, hp⟩ := HOK.out.point y (List.mem_of_getElem? hy)
              obtain ⟨bo2, eo2, d1⟩ := HCO.out wr HU.out j _ hy
              obtain ⟨bo3, eo3, d2⟩ := HCO.out wr HU.out k _ HXK.out
              simp only [Option.some.injEq, Addr.mk.injEq, and_true] at eo2 eo3
              subst eo2
              subst eo3
              obtain ⟨gp, hgp⟩ : ∃ x, g[p]? = some x := ⟨_, List.getElem?_eq_getElem hp⟩
              have HSF := Lib.hid (fun (w' : World) (ho : Own w' w4.heap.size 4 (bC s)) (hb : Below w4.heap.size w4 w') => (show (w'.cell? ⟨bo, j, none⟩ = some (i64 (p : Int)) ∧ w'.cell? ⟨bo, k, none⟩ = some (i64 (q : Int))) ∧ Hid (Own w' w4.heap.size 4 (bC s)) ∧ Hid (Below w4.heap.size w4 w') from ⟨⟨(HCO2.out w' hb j _ hy), (HCO2.out w' hb k _ HXK.out)⟩, Lib.hid ho, Lib.hid hb⟩))
              have HSN := Lib.hid (fun (w1 w' : World) (hb : Below w1.heap.size w1 w') (h : (w1.cell? ⟨bo, j, none⟩ = some (i64 (p : Int)) ∧ w1.cell? ⟨bo, k, none⟩ = some (i64 (q : Int))) ∧ Hid (Own w1 w4.heap.size 4 (bC s)) ∧ Hid (Below w4.heap.size w4 w1)) => HSF.out w' (h.2.1.out.below hb h.2.1.out.lt) (h.2.2.out.trans (hb.mono h.2.2.out.size)))
              by_cases hmem : (q : Int) ∈ gp
              · have H6 := Lib.hid (HLED.out.next hy hgp (c := true) ⟨fun _ => hmem, fun _ => rfl⟩)
                have QL := Lib.hid (fun (w5 : World) (hb : Below w4.heap.size w4 w5) => yes9 (leadsG_any 0 w.heap.size w5 _ g (Graph.move (Still.of_below (HX4.out.trans (hb.mono HX4.out.size))) HG.out) (HX4.out.trans (hb.mono HX4.out.size)).size p gp hgp (q : Int)) hmem)
                have hjl : j < o.length := by omega
                clear hy hgp hmem
                go_wp2_with fail
                go_region_held3 (fun w' => (w'.cell? ⟨bo, j, none⟩ = some (i64 (p : Int)) ∧ w'.cell? ⟨bo, k, none⟩ = some (i64 (q : Int))) ∧ Hid (Own w' w4.heap.size 4 (bC s)) ∧ Hid (Below w4.heap.size w4 w'))
                  (first | exact HSF.out _ HS.out HU.out | exact HSF.out _ HS.out.drew HU.out.drew | exact HSN.out _ _ hb (by assumption))
                  (first | (go_at_call 23; (with_reducible refine (QL.out _ (Hid.out (And.right (And.right (by assumption))))).mono ?_); rintro e w' ⟨rfl, hb⟩))
                rename_i hHeld
                have HS6 := hHeld.2.1
                have HU6 := hHeld.2.2
                clear hHeld
                go_wp2_with fail
                go_roundw
                case rel => exact ⟨j + 1, true, by omega, by go_num, rfl, H6, HS6, HU6⟩
                case measure => simp [intOf]; omega
              · have H6 := Lib.hid (HLED.out.next hy hgp (c := false) ⟨fun h => (by cases h), fun h => absurd h hmem⟩)
                have QL := Lib.hid (fun (w5 : World) (hb : Below w4.heap.size w4 w5) => not9 (leadsG_any 0 w.heap.size w5 _ g (Graph.move (Still.of_below (HX4.out.trans (hb.mono HX4.out.size))) HG.out) (HX4.out.trans (hb.mono HX4.out.size)).size p gp hgp (q : Int)) hmem)
                have hjl : j < o.length := by omega
                clear hy hgp hmem
                go_wp2_with fail
                go_region_held3 (fun w' => (w'.cell? ⟨bo, j, none⟩ = some (i64 (p : Int)) ∧ w'.cell? ⟨bo, k, none⟩ = some (i64 (q : Int))) ∧ Hid (Own w' w4.heap.size 4 (bC s)) ∧ Hid (Below w4.heap.size w4 w'))
                  (first | exact HSF.out _ HS.out HU.out | exact HSF.out _ HS.out.drew HU.out.drew | exact HSN.out _ _ hb (by assumption))
                  (first | (go_at_call 23; (with_reducible refine (QL.out _ (Hid.out (And.right (And.right (by assumption))))).mono ?_); rintro e w' ⟨rfl, hb⟩))
                rename_i hHeld
                have HS6 := hHeld.2.1
                have HU6 := hHeld.2.2
                clear hHeld
                go_wp2_with fail
                go_roundw
                case rel => exact ⟨j + 1, false, by omega, by go_num, rfl, H6, HS6, HU6⟩
                case measure => simp [intOf]; omega
          · have hje : j = k := by omega
            subst hje
            obtain rfl : b = true := HLED.out.2 HFIN.out
            obtain ⟨bo3, eo3, d2⟩ := HCO.out wr HU.out j _ HXK.out
            simp only [Option.some.injEq, Addr.mk.injEq, and_true] at eo3
            subst eo3
            have c4 := (HS.out.cell q).trans (show (bC s)[q]? = some (.bool false) by rw [List.getElem?_map, HSE.out.2 q hq, HNM.out]; rfl)
            have c4t := HS.out.thaw q
            have c4s := HS.out.lt
            have HS2 := Lib.hid (show Own (wr.setCell ⟨w4.heap.size, q, none⟩ (.bool true)) w4.heap.size 4 (bC (s.set q true)) by have := HS.out.store q (.bool true); simpa [bC, List.map_set] using this)
            have HU2 := Lib.hid (HU.out.setCell (p := ⟨w4.heap.size, q, none⟩) (Nat.le_refl _) (.bool true))
            have HSE2 := Lib.hid (HSE.out.next HXK.out)
            clear c1 c2 c3 c3t c3s
            go_wp2_with fail
            go_roundw
            case rel => exact ⟨j + 1, _, by omega, by go_num, HSE2, HS2, HU2⟩
            case measure => simp [intOf]; omega
      · have hke : k = o.length := by omega
        have hseen := HSE.out.2
        rw [hke, List.take_of_length_le (Nat.le_refl _)] at hseen
        have HSN : Hid (∀ (i : Nat) (b : Bool), m[i]? = some b → i < g.length → s[i]? = some b) := Lib.hid (fun i b hb hi => by
          rw [hseen i hi]
          congr 1
          cases b with
          | true => exact decide_eq_true ((HOK.out.mem i).2 hb)
          | false => exact decide_eq_false (fun h => by
              have := (HOK.out.mem i).1 h
              rw [hb] at this
              cases this))
        clear hseen hke HSE
        go_wp2_with fail
        go_loopw [9] (fun iv wr => ∃ i : Nat, i ≤ g.length ∧ iv = .int .i64 i ∧ Hid (Own wr w4.heap.size 4 (bC s)) ∧ Hid (Below w4.heap.size w4 wr)) (fun iv _ => g.length - (intOf iv).toNat)
        case atStart => exact ⟨0, Nat.zero_le _, rfl, HS, HU⟩
        case round =>
        obtain ⟨i, hi, rfl, HS, HU⟩ := hrel
        by_cases hlt3 : i < g.length
        · obtain ⟨b, hb⟩ : ∃ b, m[i]? = some b := ⟨_, List.getElem?_eq_getElem (by rw [HOK.out.len]; exact hlt3)⟩
          have c1 := HCM.out wr HU.out i b hb
          have c2 := (HS.out.cell i).trans (show (bC s)[i]? = some (.bool b) by rw [List.getElem?_map, HSN.out i b hb hlt3]; rfl)
          have HBI := Lib.hid hb
          clear hb
          cases b with
          | false =>
            go_wp2_with fail
            go_region
            go_wp2_with fail
            go_loopw [10] (fun kv wr => kv = .int .i64 0 ∧ Hid (Own wr w4.heap.size 4 (bC s)) ∧ Hid (Below w4.heap.size w4 wr)) (fun _ _ => 0)
            case atStart => exact ⟨rfl, Lib.hid HS.out.drew, Lib.hid HU.out.drew⟩
            case round =>
            obtain ⟨rfl, HS, HU⟩ := hrel
            have c1 := HCM.out wr HU.out i _ HBI.out
            go_wp2_with fail
            go_roundw
            case rel => exact ⟨i + 1, by omega, by go_num, HS, HU⟩
            case measure => simp [intOf]; omega
          | true =>
            obtain ⟨gi, hgi⟩ : ∃ x, g[i]? = some x := ⟨_, List.getElem?_eq_getElem hlt3⟩
            have HGI := Lib.hid hgi
            clear hgi
            go_wp2_with fail
            go_region
            go_wp2_with fail
            go_loopw [10] (fun kv wr => ∃ k : Nat, k ≤ g.length ∧ kv = .int .i64 k ∧ Hid (Own wr w4.heap.size 4 (bC s)) ∧ Hid (Below w4.heap.size w4 wr)) (fun kv _ => g.length - (intOf kv).toNat)
            case atStart => exact ⟨0, Nat.zero_le _, rfl, Lib.hid HS.out.drew, Lib.hid HU.out.drew⟩
            case round =>
            obtain ⟨k, hk, rfl, HS, HU⟩ := hrel
            have c1 := HCM.out wr HU.out i _ HBI.out
            by_cases hlt4 : k < g.length
            · have HXW := Lib.hid (HX4.out.trans (HU.out.mono HX4.out.size))
              by_cases hmem : (k : Int) ∈ gi
              · have hmk := HOK.out.lead i k HBI.out (by rw [List.getD_eq_getElem?_getD, HGI.out]; exact hmem) hlt4
                have QL := Lib.hid (yes9 (leadsG_any 0 w.heap.size wr _ g (Graph.move (Still.of_below HXW.out) HG.out) HXW.out.size i gi HGI.out (k : Int)) hmem)
                have HMK := Lib.hid hmk
                clear hmk hmem
                go_wp2_with fail
                refine QL.out.mono ?_
                rintro e w6 ⟨rfl, hb6⟩
                have HU6 := Lib.hid (HU.out.trans (hb6.mono HU.out.size))
                have HS6 := Lib.hid (HS.out.below hb6 HS.out.lt)
                have c3 := HCM.out w6 HU6.out k _ HMK.out
                clear hb6
                go_wp2_with fail
                go_roundw
                case rel => exact ⟨k + 1, by omega, by go_num, HS6, HU6⟩
                case measure => simp [intOf]; omega
              · have QL := Lib.hid (not9 (leadsG_any 0 w.heap.size wr _ g (Graph.move (Still.of_below HXW.out) HG.out) HXW.out.size i gi HGI.out (k : Int)) hmem)
                clear hmem
                go_wp2_with fail
                refine QL.out.mono ?_
                rintro e w6 ⟨rfl, hb6⟩
                have HU6 := Lib.hid (HU.out.trans (hb6.mono HU.out.size))
                have HS6 := Lib.hid (HS.out.below hb6 HS.out.lt)
                clear hb6
                go_wp2_with fail
                go_roundw
                case rel => exact ⟨k + 1, by omega, by go_num, HS6, HU6⟩
                case measure => simp [intOf]; omega
            · go_wp2_with fail
              go_roundw
              case rel => exact ⟨i + 1, by omega, by go_num, HS, HU⟩
              case measure => simp [intOf]; omega
        · go_wp2_with fail
          go_ret
          exact ⟨rfl, HX4.out.trans (HU.out.mono HX4.out.size)⟩

set_option maxRecDepth 100000 in
theorem lifted (os : Os) (started : os.Started) (H : Type) (enc : TypeId × Value → H) :
    ReturnsInHanded {} Try.checked os 5 .any (Rows.flowOrderSpec.pre6 enc Try.prog Try.f5 Rows.flowOrderRow.domain false) (Rows.flowOrderSpec.post enc Try.prog Try.f5 false true false false) := by
  refine returnsInHanded_of_change_sized (C := Try.checked) (by kernel_rfl) started (by kernel_rfl) Try.func5
    (ChangeSpec.witness6 (enc := enc) (C := Try.checked) false ⟨#[], #[.slice none 0 0], []⟩ 8 (by kernel_rfl) (by kernel_rfl) (by kernel_rfl) (by kernel_rfl)) ?_
  intro W base args ds gs before hval0 hW hcnd hsz0 _
  have hval : ∀ (j : Nat) t v, Try.f5.params[j]? = some t → args[j]? = some v → Value.okWide Try.prog W .any base t v := hval0
  have hW' := hW
  obtain ⟨p, q, hA0, hV, rfl, hfz, hnd⟩ := hW
  have hsz : (DataW.weightsEach Try.prog (Try.f5.params.toList ++ Rows.flowOrderSpec.plain.varTypes Try.prog) (ds ++ gs)).all (· ≤ reachBytes) = true := hsz0
  have hA : DataW.TrodAll enc Try.prog W 0 (fun _ => true) true Try.f5.params.toList args.toList ds p := hA0
  rw [Try.params5] at hA hval hsz
  obtain ⟨v0, vs0, d0, ds0, p0, q0, hargs, rfl, rfl, h0, r0⟩ := trodAll_cons hA
  obtain ⟨rfl, rfl, rfl⟩ := trodAll_nil r0
  obtain rfl : args = #[v0] := by cases args; simp_all
  obtain ⟨rfl, rfl⟩ := trodVars_none hV
  obtain ⟨xs0, hG0⟩ := OpenG.open_graph hsz (j := 0) rfl rfl (hval 0 29 v0 rfl rfl) h0
  clear hA0 hval0
  simp only [List.append_nil] at hW'
  refine (walk v0 xs0 hG0).mono fun e W' ⟨he, hg⟩ => ?_
  subst he
  exact ⟨_, rfl, Shell.lawPost (by kernel_rfl) rfl (by kernel_rfl) rfl Try.underlying4 hW' rfl hg⟩

/-- The statement. -/
theorem proved : Rows.FlowOrderSaid :=
  OpenClaim.holds_of_wide 5 Try.f5 rfl rfl rfl rfl rfl rfl rfl ⟨rfl, rfl, rfl, rfl, rfl⟩ rfl rfl rfl rfl rfl (by kernel_rfl) Try.func5 (by kernel_rfl)
    (of_decide_eq_true (by kernel_rfl)) (by unfold Func.isWrapper; first | (rw [if_pos (by decide +kernel)]; kernel_rfl) | (rw [if_neg (by decide +kernel)]; exact ⟨rfl, rfl⟩))
    (fun os started H enc _ => lifted os started H enc)
end Go.Proofs.Ytnonbkaanplcjaa.flowOrder
