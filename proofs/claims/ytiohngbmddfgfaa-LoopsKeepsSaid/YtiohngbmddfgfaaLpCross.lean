/-
  Layer 11: the document's Crossed walked.
-/
import Derived.Test.YtiohngbmddfgfaaLpWalk
import Derived.Test.YtiohngbmddfgfaaDomN
namespace Go.Proofs.Ytiohngbmddfgfaa.Lp11
open Go.RowKit Api Mem Fl9 Dm10

theorem tabOf_set {n i k : Nat} {f : Nat → Nat → Bool} {x : Bool} (hi : i < n) (hk : k < n) : (tabOf n f).set i (((List.range n).map (f i)).set k x) = tabOf n fun a b => if a = i ∧ b = k then x else f a b := by
  have _ := hi
  have _ := hk
  have _ := hi
  apply List.ext_getElem?
  intro a
  by_cases ha : a < n
  · rw [tabOf_at ha]
    by_cases e : i = a
    · subst e
      rw [List.getElem?_set_self (by rw [tabOf_len]; exact ha)]
      congr 1
      apply List.ext_getElem?
      intro b
      by_cases hb : b < n
      · rw [List.getElem?_map, List.getElem?_range hb]
        by_cases e2 : k = b
        · subst e2
          rw [List.getElem?_set_self (by simp; exact hb)]
          simp
        · rw [List.getElem?_set_ne e2, List.getElem?_map, List.getElem?_range hb]
          simp only [Option.map_some]
          rw [if_neg (fun h => e2 h.2.symm)]
      · rw [List.getElem?_eq_none (by simp; omega), List.getElem?_eq_none (by simp; omega)]
    · rw [List.getElem?_set_ne e, tabOf_at ha]
      congr 1
      apply List.map_congr_left
      intro b _
      rw [if_neg (fun h => e h.1.symm)]
  · rw [List.getElem?_eq_none (by rw [List.length_set, tabOf_len]; omega), List.getElem?_eq_none (by rw [tabOf_len]; omega)]
/-- the table of steps, less those back to heads as far as (i, k). -/
def mixF (g : List (List Int)) (i k : Nat) (a b : Nat) : Bool := if a < i ∨ (a = i ∧ b < k) then fwB g a b else stB g (-1) a b
def mixT (g : List (List Int)) (i k : Nat) : Tab := tabOf g.length (mixF g i k)
theorem tabOf_congr {n : Nat} {f h : Nat → Nat → Bool} (e : ∀ a b, a < n → b < n → f a b = h a b) : tabOf n f = tabOf n h := by
  unfold tabOf
  apply List.map_congr_left
  intro a ha
  apply List.map_congr_left
  intro b hb
  exact e a b (List.mem_range.1 ha) (List.mem_range.1 hb)
theorem mix_start (g : List (List Int)) : mixT g 0 0 = stepT g (-1) := tabOf_congr fun a b _ _ => by unfold mixF; rw [if_neg (by omega)]
theorem mix_end (g : List (List Int)) : mixT g g.length 0 = fwT g := tabOf_congr fun a b ha _ => by unfold mixF; rw [if_pos (.inl ha)]
theorem mix_row (g : List (List Int)) (i : Nat) : mixT g i g.length = mixT g (i + 1) 0 := tabOf_congr fun a b ha hb => by
  unfold mixF
  by_cases h : a < i ∨ (a = i ∧ b < g.length)
  · rw [if_pos h, if_pos (by omega)]
  · rw [if_neg h, if_neg (by omega)]
theorem mix_next {g : List (List Int)} {i k : Nat} (hi : i < g.length) (hk : k < g.length) : (mixT g i k).set i (((List.range g.length).map (mixF g i k i)).set k (stB g (-1) i k && !domB g k i)) = mixT g i (k + 1) := by
  unfold mixT
  rw [tabOf_set hi hk]
  apply tabOf_congr
  intro a b _ _
  unfold mixF
  by_cases e : a = i ∧ b = k
  · obtain ⟨rfl, rfl⟩ := e
    rw [if_pos ⟨rfl, rfl⟩, if_pos (by omega)]
    rfl
  · rw [if_neg e]
    by_cases h : a < i ∨ (a = i ∧ b < k)
    · rw [if_pos h, if_pos (by omega)]
    · rw [if_neg h, if_neg (by omega)]
set_option maxRecDepth 100000 in
set_option maxHeartbeats 8000000 in
theorem rcross_any (lo hi : Nat) (w : World) (v : Value) (g : List (List Int)) (hg : Graph lo hi w v g) (hh : hi ≤ w.heap.size) (hn : g.length ≤ 1000) (hs : ∀ l ∈ g, l.length ≤ 1000) :
    Calls Try.prog 12 #[v] w fun e w' => e = .returned (.bool (crossV g)) ∧ Below w.heap.size w w' := by
  obtain ⟨A1, k1, rfl⟩ := Row.form hg
  have QA := Lib.hid (all_any lo hi w _ g hg hh hn hs)
  have HG := Lib.hid hg
  clear hg hs
  go_enter Try.func12, Try.ntmps12
  go_wp2_with fail
  refine QA.out.mono ?_
  rintro e w1 ⟨vd, rfl, od, hb1⟩
  obtain ⟨Ad, cd, hvd⟩ := od.form
  rw [all_len] at hvd
  subst hvd
  have HD := Lib.hid (od.graph (Nat.le_refl _) (by rw [all_len]; omega) (fun l hl => by obtain ⟨i, _, rfl⟩ := List.mem_map.1 hl; rw [rowB_len]; omega))
  have HB1 := Lib.hid hb1
  have hs1 := hb1.size
  clear od hb1
  have QS := Lib.hid (steps_any lo hi w1 _ g (Graph.move (Still.of_below (HB1.out.mono hh)) HG.out) (Nat.le_trans hh hs1) hn (-1))
  go_wp2_with fail
  refine QS.out.mono ?_
  rintro e w2 ⟨vs9, rfl, os, hb2⟩
  obtain ⟨As, cs9, hvs9⟩ := os.form
  have hl9 : (stepT g (-1)).length = g.length := tabOf_len _ _
  rw [hl9] at hvs9
  subst hvs9
  obtain ⟨vs, hvs, hap⟩ := os
  rw [hl9] at hvs
  have HVS := Lib.hid hvs
  have HAP := Lib.hid hap
  have HB2 := Lib.hid hb2
  clear hvs hap hb2 hl9
  go_wp2_with fail
  go_loopw [5] (fun iv wr => ∃ i : Nat, i ≤ g.length ∧ iv = .int .i64 i ∧ Hid (Hold.Apart wr w1.heap.size (outB (.slice As g.length cs9) vs :: innBs vs (mixT g i 0))) ∧ Hid (Below w1.heap.size w1 wr)) (fun iv _ => g.length - (intOf iv).toNat)
  case atStart => exact ⟨0, Nat.zero_le _, rfl, by rw [mix_start]; exact HAP, HB2⟩
  case round =>
  obtain ⟨i, hi9, rfl, HAP, HBr⟩ := hrel
  by_cases hlt : i < g.length
  · go_wp2_with fail
    go_loopw [6] (fun kv wr => ∃ k : Nat, k ≤ g.length ∧ kv = .int .i64 k ∧ Hid (Hold.Apart wr w1.heap.size (outB (.slice As g.length cs9) vs :: innBs vs (mixT g i k))) ∧ Hid (Below w1.heap.size w1 wr)) (fun kv _ => g.length - (intOf kv).toNat)
    case atStart => exact ⟨0, Nat.zero_le _, rfl, HAP, HBr⟩
    case round =>
    obtain ⟨k, hk, rfl, HAP, HBr⟩ := hrel
    by_cases hlt2 : k < g.length
    · obtain ⟨li, hli⟩ : ∃ l, (List.range g.length).map (mixF g i k i) = l := ⟨_, rfl⟩
      have hxi : (mixT g i k)[i]? = some li := by rw [← hli]; exact tabOf_at hlt
      have ei : li.length = g.length := by rw [← hli]; simp
      obtain ⟨x1, hx1⟩ : ∃ x, stB g (-1) i k = x := ⟨_, rfl⟩
      have h1 : li[k]? = some x1 := by
        rw [← hli, List.getElem?_map, List.getElem?_range hlt2, ← hx1]
        simp only [Option.map_some]
        unfold mixF
        rw [if_neg (by omega)]
      have hput := mix_next hlt hlt2
      rw [hli, hx1] at hput
      obtain ⟨x2, hx2⟩ : ∃ x, domB g k i = x := ⟨_, rfl⟩
      rw [hx2] at hput
      obtain ⟨bd, od, bd2, od2, cd2, rfl, d1, d2⟩ := cell_bb HD.out HBr.out (all_at hlt2) (rowB_at hlt)
      rw [hx2] at d2
      rw [rowB_len] at d1
      obtain ⟨ui, hui⟩ : ∃ u, vs[i]? = some u := ⟨_, List.getElem?_eq_getElem (by have := HVS.out; omega)⟩
      obtain ⟨g0, cap, e9, c1⟩ := bcell HAP.out hui
      rw [HVS.out] at e9
      simp only [Value.slice.injEq, true_and] at e9
      obtain ⟨rfl, rfl⟩ := e9
      obtain ⟨bi, ci, rfl, ri⟩ := bread HAP.out hui hxi (by omega)
      obtain ⟨hs3, hs4, hs5, hs6⟩ := bstore (j := k) HAP.out hui hxi (by omega)
      have d3 := ri k x1 h1
      have HAP2 := Lib.hid (hs6 (x1 && !x2))
      rw [hput] at HAP2
      rw [ei] at c1
      clear hs6 ri hui hxi ei h1 hput hli hx1 hx2
      cases x1 with
      | false =>
        go_wp2_with fail
        go_region
        go_wp2_with fail
        go_roundw
        case rel => exact ⟨k + 1, by omega, by go_num, Lib.hid (by first | exact HAP2.out | exact ⟨HAP2.out.1, HAP2.out.2⟩), Lib.hid (by first | exact (HBr.out.setCell hs3 _).drew | exact (HBr.out.drew.setCell hs3 _))⟩
        case measure => simp [intOf]; omega
      | true =>
        cases x2 with
        | false =>
          go_wp2_with fail
          go_region
          go_wp2_with fail
          go_roundw
          case rel => exact ⟨k + 1, by omega, by go_num, Lib.hid (by first | exact HAP2.out | exact ⟨HAP2.out.1, HAP2.out.2⟩), Lib.hid (by first | exact (HBr.out.setCell hs3 _).drew | exact (HBr.out.drew.setCell hs3 _))⟩
          case measure => simp [intOf]; omega
        | true =>
          go_wp2_with fail
          go_region
          go_wp2_with fail
          go_roundw
          case rel => exact ⟨k + 1, by omega, by go_num, Lib.hid (by first | exact HAP2.out | exact ⟨HAP2.out.1, HAP2.out.2⟩), Lib.hid (by first | exact (HBr.out.setCell hs3 _).drew | exact (HBr.out.drew.setCell hs3 _))⟩
          case measure => simp [intOf]; omega
    · have hke : k = g.length := by omega
      rw [hke, mix_row] at HAP
      clear hke
      go_wp2_with fail
      go_roundw
      case rel => exact ⟨i + 1, by omega, by go_num, HAP, HBr⟩
      case measure => simp [intOf]; omega
  · have hie : i = g.length := by omega
    rw [hie, mix_end] at HAP
    clear hie
    have hfl : (fwT g).length = g.length := tabOf_len _ _
    have hfs : ∀ l ∈ fwT g, l.length = (fwT g).length := fun l hl => by
      obtain ⟨i, _, rfl⟩ := List.mem_map.1 hl
      rw [hfl]; simp
    have HFB := Lib.hid (BOwn.graph (hi := wr.heap.size) (L := fwT g) ⟨vs, by rw [HVS.out, hfl], HAP.out⟩ (Nat.le_refl _) (by rw [hfl]; omega) (fun l hl => by rw [hfs l hl, hfl]; omega))
    have QW := Lib.hid (ways_any _ _ wr _ (fwT g) HFB.out (Nat.le_refl _) (by rw [hfl]; exact hn) hfs)
    rw [hfl] at QW
    have hs9 := HBr.out.size
    clear hfl hfs
    go_wp2_with fail
    refine QW.out.mono ?_
    rintro e w5 ⟨vw, rfl, ow, hb5⟩
    obtain ⟨Z, hZ⟩ : ∃ Z, waysT g.length (fwT g) g.length = Z := ⟨_, rfl⟩
    have hsq : Sq g.length Z := by rw [← hZ]; exact (ways_gr (fun _ _ => True) g.length (fwT g) g.length (Nat.le_refl _)).sq (tabOf_sq _ _)
    rw [hZ] at ow
    obtain ⟨Aw, cw, hvw⟩ := ow.form
    rw [hsq.1] at hvw
    subst hvw
    have HW5 := Lib.hid (ow.graph (hi := w5.heap.size) (Nat.le_refl _) (by rw [hsq.1]; omega) (fun l hl => by
      obtain ⟨i, hi⟩ := List.mem_iff_getElem?.1 hl
      have hi2 := (List.getElem?_eq_some_iff.1 hi).1
      have := hsq.2 i (by rw [← hsq.1]; exact hi2)
      rw [List.getD_eq_getElem?_getD, hi] at this
      simp only [Option.getD_some] at this
      omega))
    have HSQ := Lib.hid hsq
    have HZ := Lib.hid hZ
    have HB5 := Lib.hid (HB1.out.trans ((HBr.out.trans (hb5.mono hs9)).mono hs1))
    clear ow hb5 hsq hZ
    go_wp2_with fail
    go_loopw [8] (fun iv wr => ∃ i : Nat, i ≤ g.length ∧ iv = .int .i64 i ∧ Hid (∀ j, j < i → tb Z j j = false) ∧ Hid (wr = w5)) (fun iv _ => g.length - (intOf iv).toNat)
    case atStart => exact ⟨0, Nat.zero_le _, rfl, Lib.hid (fun j h => by omega), Lib.hid rfl⟩
    case round =>
    obtain ⟨i, hi8, rfl, HJ, HE⟩ := hrel
    obtain rfl := HE.out
    by_cases hlt : i < g.length
    · obtain ⟨l, hl⟩ : ∃ l, Z[i]? = some l := ⟨_, List.getElem?_eq_getElem (by rw [HSQ.out.1]; exact hlt)⟩
      have hll := HSQ.out.2 i hlt
      rw [List.getD_eq_getElem?_getD, hl] at hll
      simp only [Option.getD_some] at hll
      obtain ⟨x, hx⟩ : ∃ x, l[i]? = some x := ⟨_, List.getElem?_eq_getElem (by omega)⟩
      have htb : tb Z i i = x := by
        unfold tb
        rw [List.getD_eq_getElem?_getD (l := Z), hl]
        simp only [Option.getD_some]
        rw [List.getD_eq_getElem?_getD, hx]
        rfl
      obtain ⟨b, o, b2, o2, c2, rfl, m1, m2⟩ := cell_bb HW5.out (Below.refl _ _) hl hx
      rw [hll] at m1
      have HTB := Lib.hid htb
      clear hl hx htb hll
      cases x with
      | true =>
        have HC := Lib.hid (show crossV g = true by
          unfold crossV
          rw [List.any_eq_true]
          exact ⟨i, List.mem_range.2 hlt, by rw [HZ.out]; exact HTB.out⟩)
        go_wp2_with fail
        go_ret
        exact ⟨by rw [HC.out]; rfl, HB5.out⟩
      | false =>
        have HJ2 := Lib.hid (show ∀ j, j < i + 1 → tb Z j j = false from fun j hj => by
          by_cases e : j = i
          · rw [e]; exact HTB.out
          · exact HJ.out j (by omega))
        go_wp2_with fail
        go_roundw
        case rel => exact ⟨i + 1, by omega, by go_num, HJ2, Lib.hid (by first | rfl | trivial)⟩
        case measure => simp [intOf]; omega
    · have HC := Lib.hid (show crossV g = false by
        unfold crossV
        rw [← Bool.not_eq_true, List.any_eq_true]
        rintro ⟨j, hj, h⟩
        rw [HZ.out, HJ.out j (by have := List.mem_range.1 hj; omega)] at h
        cases h)
      go_wp2_with fail
      go_ret
      exact ⟨by rw [HC.out]; rfl, HB5.out⟩
end Go.Proofs.Ytiohngbmddfgfaa.Lp11
