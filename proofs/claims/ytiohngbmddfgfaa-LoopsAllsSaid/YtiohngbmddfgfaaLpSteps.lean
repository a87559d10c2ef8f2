/-
  Layer 11: the document's steps and ways walked.
-/
import Derived.Test.YtiohngbmddfgfaaDomA
import Derived.Test.YtiohngbmddfgfaaLpDoc
namespace Go.Proofs.Ytiohngbmddfgfaa.Lp11
open Go.RowKit Api Mem Fl9 Dm10

theorem rowT_len (n : Nat) (f : Nat → Nat → Bool) (i : Nat) : ((List.range n).map (f i)).length = n := by simp
/-- a row filled up to k. -/
def fillT (n : Nat) (f : Nat → Nat → Bool) (i k : Nat) : List Bool := ((List.range n).map (f i)).take k ++ List.replicate (n - k) false
theorem fillT_len {n i k : Nat} {f : Nat → Nat → Bool} (h : k ≤ n) : (fillT n f i k).length = n := by simp [fillT]; omega
theorem fillT_next {n i k : Nat} {f : Nat → Nat → Bool} (h : k < n) : (fillT n f i k).set k (f i k) = fillT n f i (k + 1) := by
  have h1 : ((List.range n).map (f i))[k]? = some (f i k) := by rw [List.getElem?_map, List.getElem?_range h]; rfl
  unfold fillT
  rw [take_nx h1, List.set_append_right _ _ (by simp; omega), List.append_assoc]
  congr 1
  rw [List.length_take, List.length_map, List.length_range, show k - min k n = 0 by omega, show n - k = (n - (k + 1)) + 1 by omega, List.replicate_succ, List.set_cons_zero]
  rfl
theorem fillT_zero (n : Nat) (f : Nat → Nat → Bool) (i : Nat) : fillT n f i 0 = List.replicate n false := by simp [fillT]
theorem fillT_end (n : Nat) (f : Nat → Nat → Bool) (i : Nat) : fillT n f i n = (List.range n).map (f i) := by simp [fillT, List.take_of_length_le]
theorem tabOf_len (n : Nat) (f : Nat → Nat → Bool) : (tabOf n f).length = n := by simp [tabOf]
theorem tabOf_at {n i : Nat} {f : Nat → Nat → Bool} (h : i < n) : (tabOf n f)[i]? = some ((List.range n).map (f i)) := by unfold tabOf; rw [List.getElem?_map, List.getElem?_range h]; rfl
/-- what a table's maker answers. -/
def TabP (T : Tab) (w : World) (e : Ending) (w' : World) : Prop := ∃ v, e = .returned v ∧ BOwn w' w.heap.size v T ∧ Below w.heap.size w w'
theorem leadsYes {P : Program} {f : FuncId} {args : Array Value} {p : Prop} {w w0 : World} (h : Calls P f args w (BP9 p w0)) (b : Bool) (hb : b = true ↔ p) : Calls P f args w fun e w' => e = .returned (.bool b) ∧ Below w0.heap.size w0 w' := h.mono (by
  rintro e w' ⟨c, rfl, hc, hw⟩
  obtain rfl : c = b := by
    cases c with
    | true => exact (hb.2 (hc.1 rfl)).symm
    | false => cases b with
      | false => rfl
      | true => exact hc.2 (hb.1 rfl)
  exact ⟨rfl, hw⟩)
set_option maxRecDepth 100000 in
set_option maxHeartbeats 8000000 in
theorem steps_any (lo hi : Nat) (w : World) (v : Value) (g : List (List Int)) (hg : Graph lo hi w v g) (hh : hi ≤ w.heap.size) (hn : g.length ≤ 1000) (less : Int) :
    Calls Try.prog 22 #[v, i64 less] w (TabP (stepT g less) w) := by
  obtain ⟨A1, k1, rfl⟩ := Row.form hg
  obtain ⟨ir, hr1, hr2, hr3, hr4⟩ := info_parts info_rowB
  have HIR : Hid (Try.prog.info? 49 = some ir ∧ ir.zero = some (.slice none 0 0) ∧ ir.size = 1 ∧ ir.bytes = 24) := Lib.hid ⟨hr1, hr2, hr3, hr4⟩
  have hmm := fun (w : World) => run_row9 (P := Try.prog) (t := 49) Try.underlying49 info_bool9 rfl (by decide) g.length (by omega) w
  have QC := Lib.hid (rcomeG_any lo hi w _ g hg hh hn)
  have HG := Lib.hid hg
  clear hg hr1 hr2 hr3 hr4
  go_enter Try.func22, Try.ntmps22
  go_wp2_with fail
  refine QC.out.mono ?_
  rintro e w1 ⟨vm, rfl, om, hb1⟩
  obtain ⟨Am, cm, rfl⟩ := any9 om
  have HM := Lib.hid om
  have HB1 := Lib.hid hb1
  have hs1 := hb1.size
  have hcl := come_len g
  have HB1' := Lib.hid fun (wr : World) (h : Below w1.heap.size w1 wr) => HB1.out.trans (h.mono hs1)
  clear om hb1
  go_wp2_with fail
  go_loopw [6, 7] (fun vo iv wr => ∃ i : Nat, i ≤ g.length ∧ iv = .int .i64 i ∧ Hid (BOwn wr w1.heap.size vo ((stepT g less).take i)) ∧ Hid (Below w1.heap.size w1 wr)) (fun _ iv _ => g.length - (intOf iv).toNat)
  case atStart => exact ⟨0, Nat.zero_le _, rfl, Lib.hid ⟨[], rfl, (Hold.Apart.nil w1 w1.heap.size).empty 49 1⟩, Lib.hid (Below.refl _ _)⟩
  case round =>
  obtain ⟨i, hi9, rfl, HBO, HBr⟩ := hrel
  by_cases hlt : i < g.length
  · have hti : ((stepT g less).take i).length = i := by rw [List.length_take]; unfold stepT; rw [tabOf_len]; omega
    obtain ⟨Ao, co, hvo⟩ := HBO.out.form
    rw [hti] at hvo
    subst hvo
    obtain ⟨vs, hvs, hap⟩ := HBO.out
    rw [hti] at hvs
    have HVS := Lib.hid hvs
    have HTI := Lib.hid hti
    have HNX := Lib.hid (take_nx (tabOf_at (f := stB g less) hlt))
    obtain ⟨w2, hw2⟩ : ∃ w2, w2 = wr := ⟨_, rfl⟩
    subst hw2
    have HB2 := HBr
    have HAP2 := Lib.hid hap
    have hs2 := HB2.out.size
    obtain ⟨W3, hW3⟩ : ∃ W, w2.alloc (.cells (List.replicate g.length (.bool false)).toArray 4) = W := ⟨_, rfl⟩
    have HL3 := Lib.hid (show Own W3 w2.heap.size 4 (bC (List.replicate g.length false)) by rw [← hW3, show bC (List.replicate g.length false) = List.replicate g.length (.bool false) from List.map_replicate]; exact Own.made w2 _ _)
    have HU3 := Lib.hid (show Below w2.heap.size w2 W3 by rw [← hW3]; exact (Below.refl _ _).alloc (Nat.le_refl _) _)
    have HW3 := Lib.hid (show w2.alloc (.cells (Array.replicate g.length (.bool false)) 4) = W3 by rw [← hW3]; simp)
    clear hvs hap HBO hti hW3
    go_wp2_with fail
    rw [HW3.out]
    go_loopw [9] (fun kv wr => ∃ k : Nat, k ≤ g.length ∧ kv = .int .i64 k ∧ Hid (Own wr w2.heap.size 4 (bC (fillT g.length (stB g less) i k))) ∧ Hid (Below w2.heap.size w2 wr)) (fun kv _ => g.length - (intOf kv).toNat)
    case atStart => exact ⟨0, Nat.zero_le _, rfl, by rw [fillT_zero]; exact HL3, HU3⟩
    case round =>
    obtain ⟨k, hk, rfl, HL, HU⟩ := hrel
    by_cases hlt2 : k < g.length
    · obtain ⟨ci, hci⟩ : ∃ b, (comeV g)[i]? = some b := ⟨_, List.getElem?_eq_getElem (by omega)⟩
      obtain ⟨ck, hck⟩ : ∃ b, (comeV g)[k]? = some b := ⟨_, List.getElem?_eq_getElem (by omega)⟩
      have hst : stB g less i k = (ci && (ck && (decide ((i : Int) ≠ less) && (decide ((k : Int) ≠ less) && decide ((k : Int) ∈ g.getD i []))))) := by
        unfold stB
        rw [List.getD_eq_getElem?_getD, List.getD_eq_getElem?_getD, hci, hck]
        rfl
      obtain ⟨gm, cpm, em, _⟩ := form9 HM.out (by omega)
      simp only [Value.slice.injEq, true_and] at em
      obtain ⟨rfl, rfl⟩ := em
      have hM2 := row_below9 HM.out (HB2.out.trans (HU.out.mono hs2))
      have c1 := (hM2.cellAt i (by omega)).trans (show (bC (comeV g))[i]? = some (.bool ci) by rw [List.getElem?_map, hci]; rfl)
      have c2 := (hM2.cellAt k (by omega)).trans (show (bC (comeV g))[k]? = some (.bool ck) by rw [List.getElem?_map, hck]; rfl)
      obtain ⟨y, hy⟩ : ∃ y, (fillT g.length (stB g less) i k)[k]? = some y := ⟨_, List.getElem?_eq_getElem (by rw [fillT_len hk]; exact hlt2)⟩
      have c4 := (HL.out.cell k).trans (show (bC (fillT g.length (stB g less) i k))[k]? = some (.bool y) by rw [List.getElem?_map, hy]; rfl)
      have c4t := HL.out.thaw k
      have c4s := HL.out.lt
      clear hci hck hM2 hy
      cases ci with
      | false =>
        have HST := Lib.hid (hst.trans (Bool.false_and _))
        clear hst
        have HL2 := Lib.hid (show Own (wr.setCell ⟨w2.heap.size, k, none⟩ (.bool false)) w2.heap.size 4 (bC (fillT g.length (stB g less) i (k + 1))) by have := HL.out.store k (.bool false); rw [← fillT_next hlt2, show stB g less i k = false by rw [HST.out]]; simpa [bC, List.map_set] using this)
        have HU2 := Lib.hid (HU.out.setCell (p := ⟨w2.heap.size, k, none⟩) (Nat.le_refl _) (.bool false))
        go_wp2_with fail
        go_roundw
        case rel => exact ⟨k + 1, by omega, by go_num, HL2, HU2⟩
        case measure => simp [intOf]; omega
      | true =>
        cases ck with
        | false =>
          have HST := Lib.hid (hst.trans (by rw [Bool.true_and, Bool.false_and] : _ = false))
          clear hst
          have HL2 := Lib.hid (show Own (wr.setCell ⟨w2.heap.size, k, none⟩ (.bool false)) w2.heap.size 4 (bC (fillT g.length (stB g less) i (k + 1))) by have := HL.out.store k (.bool false); rw [← fillT_next hlt2, show stB g less i k = false by rw [HST.out]]; simpa [bC, List.map_set] using this)
          have HU2 := Lib.hid (HU.out.setCell (p := ⟨w2.heap.size, k, none⟩) (Nat.le_refl _) (.bool false))
          go_wp2_with fail
          go_roundw
          case rel => exact ⟨k + 1, by omega, by go_num, HL2, HU2⟩
          case measure => simp [intOf]; omega
        | true =>
          rw [Bool.true_and, Bool.true_and] at hst
          by_cases h1 : (i : Int) = less
          · have HST := Lib.hid (show stB g less i k = false by rw [hst, decide_eq_false (fun h => h h1)]; rfl)
            have t1 : ((i : Int) == less) = true := by simpa using h1
            have t1n : ((i : Int) != less) = false := by rw [bne, t1]; rfl
            clear hst h1
            have HL2 := Lib.hid (show Own (wr.setCell ⟨w2.heap.size, k, none⟩ (.bool false)) w2.heap.size 4 (bC (fillT g.length (stB g less) i (k + 1))) by have := HL.out.store k (.bool false); rw [← fillT_next hlt2, show stB g less i k = false by rw [HST.out]]; simpa [bC, List.map_set] using this)
            have HU2 := Lib.hid (HU.out.setCell (p := ⟨w2.heap.size, k, none⟩) (Nat.le_refl _) (.bool false))
            go_wp2_with fail
            go_roundw
            case rel => exact ⟨k + 1, by omega, by go_num, HL2, HU2⟩
            case measure => simp [intOf]; omega
          · have t1 : ((i : Int) == less) = false := by simpa using h1
            have t1n : ((i : Int) != less) = true := by rw [bne, t1]; rfl
            rw [decide_eq_true h1, Bool.true_and] at hst
            clear h1
            by_cases h2 : (k : Int) = less
            · have HST := Lib.hid (show stB g less i k = false by rw [hst, decide_eq_false (fun h => h h2)]; rfl)
              have t2 : ((k : Int) == less) = true := by simpa using h2
              have t2n : ((k : Int) != less) = false := by rw [bne, t2]; rfl
              clear hst h2
              have HL2 := Lib.hid (show Own (wr.setCell ⟨w2.heap.size, k, none⟩ (.bool false)) w2.heap.size 4 (bC (fillT g.length (stB g less) i (k + 1))) by have := HL.out.store k (.bool false); rw [← fillT_next hlt2, show stB g less i k = false by rw [HST.out]]; simpa [bC, List.map_set] using this)
              have HU2 := Lib.hid (HU.out.setCell (p := ⟨w2.heap.size, k, none⟩) (Nat.le_refl _) (.bool false))
              go_wp2_with fail
              go_roundw
              case rel => exact ⟨k + 1, by omega, by go_num, HL2, HU2⟩
              case measure => simp [intOf]; omega
            · have t2 : ((k : Int) == less) = false := by simpa using h2
              have t2n : ((k : Int) != less) = true := by rw [bne, t2]; rfl
              rw [decide_eq_true h2, Bool.true_and] at hst
              clear h2
              obtain ⟨gi, hgi⟩ : ∃ x, g[i]? = some x := ⟨_, List.getElem?_eq_getElem hlt⟩
              have hgd : g.getD i [] = gi := by rw [List.getD_eq_getElem?_getD, hgi]; rfl
              have HXr := Lib.hid (HB1'.out wr (HB2.out.trans (HU.out.mono hs2)))
              obtain ⟨mb, hmb⟩ : ∃ mb, decide ((k : Int) ∈ gi) = mb := ⟨_, rfl⟩
              have QL := Lib.hid (leadsYes (leadsG_any lo hi wr _ g (Graph.move (Still.of_below (HXr.out.mono hh)) HG.out) (Nat.le_trans hh HXr.out.size) i gi hgi (k : Int)) mb (by rw [← hmb]; exact decide_eq_true_iff))
              rw [hgd, hmb] at hst
              have HST := Lib.hid hst
              clear hst hmb hgd hgi
              go_wp2_with fail
              refine QL.out.mono ?_
              rintro e w6 ⟨rfl, hb6⟩
              have HL6 := Lib.hid (HL.out.below hb6 c4s)
              have HU6 := Lib.hid (HU.out.trans (hb6.mono HU.out.size))
              clear c4 c4t c4s hb6
              have c4 := (HL6.out.cell k).trans (show (bC (fillT g.length (stB g less) i k))[k]? = some (.bool ((fillT g.length (stB g less) i k).getD k false)) by
                rw [List.getElem?_map, List.getD_eq_getElem?_getD, List.getElem?_eq_getElem (by rw [fillT_len hk]; exact hlt2)]; rfl)
              have c4t := HL6.out.thaw k
              have c4s := HL6.out.lt
              have HL2 := Lib.hid (show Own (w6.setCell ⟨w2.heap.size, k, none⟩ (.bool mb)) w2.heap.size 4 (bC (fillT g.length (stB g less) i (k + 1))) by have := HL6.out.store k (.bool mb); rw [← fillT_next hlt2, HST.out]; simpa [bC, List.map_set] using this)
              have HU2 := Lib.hid (HU6.out.setCell (p := ⟨w2.heap.size, k, none⟩) (Nat.le_refl _) (.bool mb))
              go_wp2_with fail
              go_roundw
              case rel => exact ⟨k + 1, by omega, by go_num, HL2, HU2⟩
              case measure => simp [intOf]; omega
    · have hke : k = g.length := by omega
      rw [hke, fillT_end] at HL
      clear hke
      have hrl := rowT_len g.length (stB g less) i
      have HRW := Lib.hid (show wr.ownsRow w2.heap.size 4 1 (.slice (some ⟨w2.heap.size, 0, none⟩) g.length g.length) ((List.range g.length).map (stB g less i)).length (bC ((List.range g.length).map (stB g less i))) by rw [hrl]; exact HL.out.row (Nat.le_refl _) (Nat.le_refl _) (by unfold maxLen; omega) (by simp) (List.take_of_length_le (by simp)))
      have HA2 := Lib.hid ((HAP2.out.join HU.out (one_apart (r := innB (.slice (some ⟨w2.heap.size, 0, none⟩) g.length g.length) ((List.range g.length).map (stB g less i))) HRW.out) hs2).perm (List.Perm.swap _ _ _))
      have hs3 := Nat.le_trans hs2 HU.out.size
      clear hrl
      obtain ⟨row, hrow⟩ : ∃ row, (List.range g.length).map (stB g less i) = row := ⟨_, rfl⟩
      rw [hrow] at HA2 HNX
      clear hrow HRW HL
      go_wp2_with (at_builtin; refine Hold.wpList_grow (R := innB (.slice (some ⟨w2.heap.size, 0, none⟩) g.length g.length) row :: innBs vs ((stepT g less).take i)) rfl _ _ 46 rfl w1.heap.size (outB (.slice Ao i co) vs) ir _ 24 Try.underlying46 HIR.out.1 HIR.out.2.1 HIR.out.2.2.1 HIR.out.2.2.2 rfl Nat.one_pos rfl HA2.out [.slice (some ⟨w2.heap.size, 0, none⟩) g.length g.length] _ rfl rfl rfl (by intro u hu; rw [List.mem_singleton] at hu; subst hu; rfl) (by show vs.length + 1 ≤ _; have := HVS.out; omega) (by show (vs.length + 1) * 24 ≤ _; have := HVS.out; omega) hs3 ?_; intro v7 w7 hA7 hB7; have HG7 := Lib.hid (BOwn.snoc (by rw [HVS.out, HTI.out]) hA7); have HB7 := Lib.hid ((HB2.out.trans (HU.out.mono hs2)).trans hB7); clear hA7 hB7)
      rw [show (stepT g less).take i ++ [row] = (stepT g less).take (i + 1) from HNX.out.symm] at HG7
      go_roundw
      case rel => exact ⟨i + 1, by omega, by go_num, HG7, HB7⟩
      case measure => simp [intOf]; omega
  · have hke : i = g.length := by omega
    rw [hke, List.take_of_length_le (by unfold stepT; rw [tabOf_len]; exact Nat.le_refl _)] at HBO
    clear hke
    go_wp2_with fail
    go_ret
    refine ⟨_, rfl, ?_, HB1.out.trans (HBr.out.mono hs1)⟩
    obtain ⟨vs, hvs, hap⟩ := HBO.out
    exact ⟨vs, hvs, hap.lower hs1⟩
end Go.Proofs.Ytiohngbmddfgfaa.Lp11
