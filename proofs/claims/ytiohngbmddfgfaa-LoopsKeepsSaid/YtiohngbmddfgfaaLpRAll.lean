/-
  Layer 11: the document's All walked.
-/
import Derived.Test.YtiohngbmddfgfaaLpCross
import Derived.Test.YtiohngbmddfgfaaLpAll
namespace Go.Proofs.Ytiohngbmddfgfaa.Lp11
open Go.RowKit Api Mem Fl9 Dm10

theorem info_rloop : (Try.prog.info? 35).map (fun i => (i.zero, i.size, i.bytes)) = some (some (.agg #[.int .i64 0, .slice none 0 0, .slice none 0 0]), 3, 56) := by kernel_rfl
theorem info_in11 : (Try.prog.info? 3).map (fun i => (i.zero, i.size, i.bytes)) = some (some (.int .i64 0), 1, 8) := by kernel_rfl
/-- a loop's box: head, body, back. -/
abbrev box3 (b : Nat) (x y z : Value) : Hold.Rec := ⟨35, 3, .slice (some ⟨b, 0, none⟩) 1 1, 1, [x, y, z]⟩
/-- who leads back to a head, of the points below i. -/
def backK (g : List (List Int)) (h i : Nat) : List Nat := (List.range i).filter fun i => backB g h i
theorem backK_succ (g : List (List Int)) (h i : Nat) : backK g h (i + 1) = backK g h i ++ if backB g h i = true then [i] else [] := by
  unfold backK
  rw [List.range_succ, List.filter_append]
  congr 1
  by_cases e : backB g h i = true
  · rw [if_pos e, List.filter_cons_of_pos e]; rfl
  · rw [if_neg e, List.filter_cons_of_neg e]; rfl
theorem backK_all (g : List (List Int)) (h : Nat) : backK g h g.length = backL g h := rfl
theorem backK_len (g : List (List Int)) (h i : Nat) : (backK g h i).length ≤ i := by
  unfold backK
  have := List.length_filter_le (fun i => backB g h i) (List.range i)
  rwa [List.length_range] at this
def bodyK (g : List (List Int)) (h i : Nat) : List Nat := (List.range i).filter fun i => bodyB g h i
theorem bodyK_succ (g : List (List Int)) (h i : Nat) : bodyK g h (i + 1) = bodyK g h i ++ if bodyB g h i = true then [i] else [] := by
  unfold bodyK
  rw [List.range_succ, List.filter_append]
  congr 1
  by_cases e : bodyB g h i = true
  · rw [if_pos e, List.filter_cons_of_pos e]; rfl
  · rw [if_neg e, List.filter_cons_of_neg e]; rfl
theorem bodyK_all (g : List (List Int)) (h : Nat) : bodyK g h g.length = bodyL g h := rfl
theorem bodyK_len (g : List (List Int)) (h i : Nat) : (bodyK g h i).length ≤ i := by
  unfold bodyK
  have := List.length_filter_le (fun i => bodyB g h i) (List.range i)
  rwa [List.length_range] at this
/-- is i in the loop, by the first k of those that lead back? -/
def inK (g : List (List Int)) (h i k : Nat) : Bool := decide (i = h) || ((backL g h).take k).any fun b => (decide (b = i) && decide (b ≠ h)) || (decide (i ≠ h) && tb (waysT g.length (stepT g (h : Int)) g.length) i b)
theorem inK_zero (g : List (List Int)) (h i : Nat) : inK g h i 0 = decide (i = h) := by simp [inK]
theorem inK_all (g : List (List Int)) (h i : Nat) : inK g h i (backL g h).length = bodyB g h i := by unfold inK bodyB; rw [List.take_length]
theorem inK_succ {g : List (List Int)} {h i k b : Nat} (hb : (backL g h)[k]? = some b) : inK g h i (k + 1) = (inK g h i k || ((decide (b = i) && decide (b ≠ h)) || (decide (i ≠ h) && tb (waysT g.length (stepT g (h : Int)) g.length) i b))) := by
  unfold inK
  rw [take_nx hb, List.any_append, List.any_cons, List.any_nil, Bool.or_false, Bool.or_assoc]
theorem inK_true {g : List (List Int)} {h i k b : Nat} (hb : (backL g h)[k]? = some b) (e : inK g h i k = true) : inK g h i (k + 1) = true := by rw [inK_succ hb, e, Bool.true_or]
theorem inK_own {g : List (List Int)} {h i k b : Nat} (hb : (backL g h)[k]? = some b) (e : inK g h i k = false) (hbi : b = i) : inK g h i (k + 1) = true := by
  have hih : i ≠ h := fun h1 => by unfold inK at e; rw [decide_eq_true h1, Bool.true_or] at e; cases e
  rw [inK_succ hb, decide_eq_true hbi, decide_eq_true (show b ≠ h from hbi ▸ hih)]
  simp
theorem inK_other {g : List (List Int)} {h i k b : Nat} (hb : (backL g h)[k]? = some b) (e : inK g h i k = false) (hbi : b ≠ i) : inK g h i (k + 1) = tb (waysT g.length (stepT g (h : Int)) g.length) i b := by
  have hih : i ≠ h := fun h1 => by unfold inK at e; rw [decide_eq_true h1, Bool.true_or] at e; cases e
  rw [inK_succ hb, e, decide_eq_false hbi, decide_eq_true hih]
  simp
theorem inK_ne {g : List (List Int)} {h i k : Nat} (e : inK g h i k = false) : i ≠ h := fun h1 => by unfold inK at e; rw [decide_eq_true h1, Bool.true_or] at e; cases e
theorem eqB (i k : Nat) : ((i : Int) == (k : Int)) = decide (i = k) := by
  by_cases e : i = k
  · subst e; simp
  · rw [decide_eq_false e]
    have h9 : (i : Int) ≠ (k : Int) := by omega
    simpa using h9
theorem snocC {w : World} {base : Nat} {v : Value} {l : List Nat} {x : Nat} {R : List Hold.Rec} (h : Hold.Apart w base (⟨3, 1, v, (casts l).length + 1, iC (casts l) ++ [i64 (x : Int)]⟩ :: R)) : Hold.Apart w base (innR v (casts (l ++ [x])) :: R) := by
  have := snoc9 (l := casts l) h
  rwa [show casts l ++ [(x : Int)] = casts (l ++ [x]) by simp [casts]] at this
/-- what the document's All answers. -/
def RAllP (g : List (List Int)) (w : World) (e : Ending) (w' : World) : Prop := ∃ v, e = .returned v ∧ LOwn 35 w' w.heap.size v (loopsV g) ∧ Below w.heap.size w w'
set_option maxRecDepth 100000 in
set_option maxHeartbeats 16000000 in
theorem rall_any (lo hi : Nat) (w : World) (v : Value) (g : List (List Int)) (hg : Graph lo hi w v g) (hh : hi ≤ w.heap.size) (hn : g.length ≤ 1000) (hs : ∀ l ∈ g, l.length ≤ 1000) :
    Calls Try.prog 10 #[v] w (RAllP g w) := by
  obtain ⟨A1, k1, rfl⟩ := Row.form hg
  obtain ⟨il, hl1, hl2, hl3, hl4⟩ := info_parts info_rloop
  have HIL : Hid (Try.prog.info? 35 = some il ∧ il.zero = some (.agg #[.int .i64 0, .slice none 0 0, .slice none 0 0]) ∧ il.size = 3 ∧ il.bytes = 56) := Lib.hid ⟨hl1, hl2, hl3, hl4⟩
  obtain ⟨ii, hi1, hi2, hi3, hi4⟩ := info_parts info_in11
  have HII : Hid (Try.prog.info? 3 = some ii ∧ ii.zero = some (.int .i64 0) ∧ ii.size = 1 ∧ ii.bytes = 8) := Lib.hid ⟨hi1, hi2, hi3, hi4⟩
  have QA := Lib.hid (all_any lo hi w _ g hg hh hn hs)
  have HG := Lib.hid hg
  clear hg hs hl1 hl2 hl3 hl4 hi1 hi2 hi3 hi4
  go_enter Try.func10, Try.ntmps10
  go_wp2_with fail
  refine QA.out.mono ?_
  rintro e w1 ⟨vd, rfl, od, hb1⟩
  obtain ⟨Ad, cd, hvd⟩ := od.form
  rw [all_len] at hvd
  subst hvd
  have HD := Lib.hid (od.graph (Nat.le_refl _) (by rw [all_len]; omega) (fun l hl => by obtain ⟨i, _, rfl⟩ := List.mem_map.1 hl; rw [rowB_len]; omega))
  have HB1 := Lib.hid hb1
  have hs1 := hb1.size
  clear od hb1
  have QS := Lib.hid (steps_any lo hi w1 _ g (Graph.move (Still.of_below (HB1.out.mono hh)) HG.out) (Nat.le_trans hh hs1) hn (-1))
  go_wp2_with fail
  refine QS.out.mono ?_
  rintro e w2 ⟨vs9, rfl, os, hb2⟩
  obtain ⟨As, cs9, hvs9⟩ := os.form
  have hl9 : (stepT g (-1)).length = g.length := tabOf_len _ _
  rw [hl9] at hvs9
  subst hvs9
  have HS := Lib.hid (os.graph (hi := w2.heap.size) (Nat.le_refl _) (by rw [hl9]; omega) (fun l hl => by obtain ⟨i, _, rfl⟩ := List.mem_map.1 hl; simp; omega))
  have HB2 := Lib.hid hb2
  have hs2 := hb2.size
  clear os hb2 hl9
  go_wp2_with fail
  go_loopw [5, 6] (fun va kv wr => ∃ (k : Nat) (vs : List (Value × Value)), k ≤ g.length ∧ kv = .int .i64 k ∧ Hid (vs.length = (lpsV g k).length) ∧ Hid (Hold.Apart wr w2.heap.size (outL 35 va vs (lpsV g k) :: innL vs (lpsV g k))) ∧ Hid (Below w2.heap.size w2 wr)) (fun _ kv _ => g.length - (intOf kv).toNat)
  case atStart => exact ⟨0, [], Nat.zero_le _, rfl, Lib.hid rfl, Lib.hid ((Hold.Apart.nil w2 w2.heap.size).empty 35 3), Lib.hid (Below.refl _ _)⟩
  case round =>
  obtain ⟨k, vs, hk, rfl, HVS, HA, HBr⟩ := hrel
  obtain ⟨Aa, ca, hva⟩ := HA.out.head.form
  simp only at hva
  subst hva
  by_cases hlt : k < g.length
  · obtain ⟨wo, hwo⟩ : ∃ wo, wo = wr := ⟨_, rfl⟩
    subst hwo
    obtain ⟨W3, hW3⟩ : ∃ W, wo.alloc (.cells #[i64 (k : Int), Value.slice none 0 0, Value.slice none 0 0] 35) = W := ⟨_, rfl⟩
    have hob : Mem.Own W3 wo.heap.size 35 [i64 (k : Int), Value.slice none 0 0, Value.slice none 0 0] := by rw [← hW3]; exact Own.made wo _ _
    have hbb : Below wo.heap.size wo W3 := by rw [← hW3]; exact up11 wo _
    have hbx : W3.ownsRow wo.heap.size 35 3 (.slice (some ⟨wo.heap.size, 0, none⟩) 1 1) 1 [i64 (k : Int), Value.slice none 0 0, Value.slice none 0 0] := ⟨rfl, .inr ⟨wo.heap.size, 1, _, rfl, Nat.le_refl _, hob, Nat.le_refl _, by unfold maxLen; omega, rfl, rfl⟩⟩
    have HA3 := Lib.hid (show Hold.Apart W3 wo.heap.size (innR (.slice none 0 0) (casts (backK g k 0)) :: [box3 wo.heap.size (i64 (k : Int)) (.slice none 0 0) (.slice none 0 0)]) from (one_apart (r := box3 wo.heap.size (i64 (k : Int)) (.slice none 0 0) (.slice none 0 0)) hbx).empty 3 1)
    have HB3 := Lib.hid hbb
    have HW3 := Lib.hid hW3
    have hso := HBr.out.size
    clear hob hbb hbx hW3
    go_wp2_with fail
    rw [HW3.out]
    go_loopw [8] (fun iv wr => ∃ (i : Nat) (vb : Value), i ≤ g.length ∧ iv = .int .i64 i ∧ Hid (Hold.Apart wr wo.heap.size [innR vb (casts (backK g k i)), box3 wo.heap.size (i64 (k : Int)) (.slice none 0 0) vb]) ∧ Hid (Below wo.heap.size wo wr)) (fun iv _ => g.length - (intOf iv).toNat)
    case atStart => exact ⟨0, .slice none 0 0, Nat.zero_le _, rfl, HA3, HB3⟩
    case round =>
    obtain ⟨i, vb, hi9, rfl, HAI, HBi⟩ := hrel
    obtain ⟨Ab, cb, hvb⟩ := HAI.out.head.form
    simp only at hvb
    subst hvb
    have hbx := HAI.out.1 (box3 wo.heap.size (i64 (k : Int)) (.slice none 0 0) (.slice Ab (casts (backK g k i)).length cb)) (by simp)
    have x2 := Hold.Rec.on.cell hbx rfl (j := 2) (u := .slice Ab (casts (backK g k i)).length cb) rfl
    have hbkl : (casts (backK g k i)).length ≤ i := by rw [casts_len]; exact backK_len g k i
    have hsi := HBi.out.size
    clear hbx
    by_cases hli : i < g.length
    · obtain ⟨b1, hb1e⟩ : ∃ x, stB g (-1) i k = x := ⟨_, rfl⟩
      obtain ⟨b2, hb2e⟩ : ∃ x, domB g k i = x := ⟨_, rfl⟩
      have hbb : backB g k i = (b1 && b2) := by unfold backB; rw [hb1e, hb2e]
      have HSx := Lib.hid (HBr.out.trans (HBi.out.mono hso))
      have HDx := Lib.hid (HB2.out.trans (HSx.out.mono hs2))
      obtain ⟨p1, q1, p2, q2, r2, rfl, d1, d2⟩ := cell_bb HS.out HSx.out (tabOf_at (f := stB g (-1)) hli) (show ((List.range g.length).map (stB g (-1) i))[k]? = some b1 by rw [List.getElem?_map, List.getElem?_range hlt, ← hb1e]; rfl)
      obtain ⟨p3, q3, p4, q4, r4, rfl, d3, d4⟩ := cell_bb HD.out HDx.out (all_at hlt) (rowB_at hli)
      rw [List.length_map, List.length_range] at d1
      rw [rowB_len] at d3
      rw [hb2e] at d4
      have HBK := Lib.hid (backK_succ g k i)
      rw [hbb] at HBK
      clear hb1e hb2e hbb
      have skip : (b1 && b2) = false → Hid (backK g k (i + 1) = backK g k i) := fun e => Lib.hid (by rw [HBK.out, e]; simp)
      cases b1 with
      | false =>
        have HSK := skip rfl
        clear skip
        go_wp2_with fail
        go_roundw
        case rel => exact ⟨i + 1, _, by omega, by go_num, by rw [HSK.out]; exact HAI, HBi⟩
        case measure => simp [intOf]; omega
      | true =>
        cases b2 with
        | false =>
          have HSK := skip rfl
          clear skip
          go_wp2_with fail
          go_roundw
          case rel => exact ⟨i + 1, _, by omega, by go_num, by rw [HSK.out]; exact HAI, HBi⟩
          case measure => simp [intOf]; omega
        | true =>
          have HBN := Lib.hid (show backK g k (i + 1) = backK g k i ++ [i] by rw [HBK.out]; rfl)
          clear skip
          go_wp2_with (at_builtin; refine Hold.wpList_grow (R := [box3 wo.heap.size (i64 (k : Int)) (.slice none 0 0) (.slice Ab (casts (backK g k i)).length cb)]) rfl _ _ 31 rfl wo.heap.size (innR (.slice Ab (casts (backK g k i)).length cb) (casts (backK g k i))) ii _ 8 Try.underlying31 HII.out.1 HII.out.2.1 HII.out.2.2.1 HII.out.2.2.2 rfl Nat.one_pos rfl HAI.out [i64 (i : Int)] _ rfl rfl rfl (by intro u hu; rw [List.mem_singleton] at hu; subst hu; rfl) (by show (casts (backK g k i)).length + 1 ≤ _; omega) (by show ((casts (backK g k i)).length + 1) * 8 ≤ _; omega) hsi ?_; intro v7 w7 hA7 hB7; obtain ⟨A7, c7, e7⟩ := hA7.head.form; simp only at e7; subst e7; have HA7 := Lib.hid (snocC hA7); have HB7 := Lib.hid (HBi.out.trans hB7); have hbx7 := HA7.out.1 (box3 wo.heap.size (i64 (k : Int)) (.slice none 0 0) (.slice Ab (casts (backK g k i)).length cb)) (by simp); have y2 := Hold.Rec.on.cell hbx7 rfl (j := 2) (u := .slice Ab (casts (backK g k i)).length cb) rfl; have y2t := Hold.Rec.on.thaw hbx7 rfl 2; have y2s : wo.heap.size < w7.heap.size := World.block_lt_of_cell? w7 _ y2; clear hA7 hB7 hbx7)
          have HA8 := Lib.hid (show Hold.Apart (w7.setCell ⟨wo.heap.size, 2, none⟩ (.slice A7 ((casts (backK g k i)).length + 1) c7)) wo.heap.size [innR (.slice A7 ((casts (backK g k i)).length + 1) c7) (casts (backK g k (i + 1))), box3 wo.heap.size (i64 (k : Int)) (.slice none 0 0) (.slice A7 ((casts (backK g k i)).length + 1) c7)] from by
            rw [HBN.out]
            exact ((HA7.out.perm (List.Perm.swap _ _ _)).store (q := 2) (u := (.slice A7 ((casts (backK g k i)).length + 1) c7)) rfl).perm (List.Perm.swap _ _ _))
          have HB8 := Lib.hid (HB7.out.setCell (p := ⟨wo.heap.size, 2, none⟩) (Nat.le_refl _) (.slice A7 ((casts (backK g k i)).length + 1) c7))
          go_roundw
          case rel => exact ⟨i + 1, _, by omega, by go_num, HA8, HB8⟩
          case measure => simp [intOf]; omega
    · have hie : i = g.length := by omega
      rw [hie, backK_all] at HAI x2
      rw [hie, backK_all] at hbkl
      clear hie
      have HMV : Hid (Below w2.heap.size w2 wr) := Lib.hid (HBr.out.trans (HBi.out.mono hso))
      by_cases he : backL g k = []
      · have HL0 := Lib.hid (show lpsV g (k + 1) = lpsV g k by rw [lps_succ, he]; simp)
        have hln : (casts (backL g k)).length = 0 := by rw [he]; rfl
        have HA6 := Lib.hid (HA.out.below HBi.out)
        rw [hln] at x2
        clear he hln
        go_wp2_with fail
        go_roundw
        case rel => exact ⟨k + 1, vs, by omega, by go_num, by rw [HL0.out]; exact HVS, by rw [HL0.out]; exact HA6, HMV⟩
        case measure => simp [intOf]; omega
      · have hlp : 0 < (casts (backL g k)).length := by rw [casts_len]; exact List.length_pos_iff.2 he
        have HE := Lib.hid he
        clear he
        have QT := Lib.hid (steps_any lo hi wr _ g (Graph.move (Still.of_below ((HB1.out.trans (HB2.out.mono hs1 |>.trans (HMV.out.mono (Nat.le_trans hs1 hs2)))).mono hh)) HG.out) (Nat.le_trans hh (Nat.le_trans hs1 (Nat.le_trans hs2 HMV.out.size))) hn (k : Int))
        go_wp2_with fail
        refine QT.out.mono ?_
        rintro e w4 ⟨vt, rfl, ot, hb4⟩
        obtain ⟨At, ct, hvt⟩ := ot.form
        have hl9 : (stepT g (k : Int)).length = g.length := tabOf_len _ _
        rw [hl9] at hvt
        subst hvt
        have hfs : ∀ l ∈ stepT g (k : Int), l.length = (stepT g (k : Int)).length := fun l hl => by
          obtain ⟨i, _, rfl⟩ := List.mem_map.1 hl
          rw [hl9]; simp
        have HFB := Lib.hid (ot.graph (hi := w4.heap.size) (Nat.le_refl _) (by rw [hl9]; omega) (fun l hl => by rw [hfs l hl, hl9]; omega))
        have QW := Lib.hid (ways_any _ _ w4 _ (stepT g (k : Int)) HFB.out (Nat.le_refl _) (by rw [hl9]; exact hn) hfs)
        rw [hl9] at QW
        have HAI4 := Lib.hid (HAI.out.below hb4)
        have HB4 := Lib.hid (HBi.out.trans (hb4.mono hsi))
        have hs4 := HB4.out.size
        clear ot hb4 hl9 hfs
        go_wp2_with fail
        refine QW.out.mono ?_
        rintro e w5 ⟨vw, rfl, ow, hb5⟩
        obtain ⟨Z, hZ⟩ : ∃ Z, waysT g.length (stepT g (k : Int)) g.length = Z := ⟨_, rfl⟩
        have hsq : Sq g.length Z := by rw [← hZ]; exact (ways_gr (fun _ _ => True) g.length (stepT g (k : Int)) g.length (Nat.le_refl _)).sq (tabOf_sq _ _)
        rw [hZ] at ow
        obtain ⟨Aw, cw, hvw⟩ := ow.form
        rw [hsq.1] at hvw
        subst hvw
        obtain ⟨vsz, hvsz, hapz⟩ := ow
        have hA5 := ((HAI4.out.join hb5 hapz hs4).perm (show (outB (.slice Aw g.length cw) vsz :: innBs vsz Z ++ [innR (.slice Ab (casts (backL g k)).length cb) (casts (backL g k)), box3 wo.heap.size (i64 (k : Int)) (.slice none 0 0) (.slice Ab (casts (backL g k)).length cb)]).Perm (innR (.slice Ab (casts (backL g k)).length cb) (casts (backL g k)) :: box3 wo.heap.size (i64 (k : Int)) (.slice none 0 0) (.slice Ab (casts (backL g k)).length cb) :: outB (.slice Aw g.length cw) vsz :: innBs vsz Z) from List.perm_append_comm)).empty 3 1
        have HA5 := Lib.hid (show Hold.Apart w5 wo.heap.size (innR (.slice none 0 0) (casts (bodyK g k 0)) :: innR (.slice Ab (casts (backL g k)).length cb) (casts (backL g k)) :: box3 wo.heap.size (i64 (k : Int)) (.slice none 0 0) (.slice Ab (casts (backL g k)).length cb) :: outB (.slice Aw g.length cw) vsz :: innBs vsz Z) from hA5)
        have HVZ := Lib.hid (hvsz.trans hsq.1)
        have HSQ := Lib.hid hsq
        have HZ := Lib.hid hZ
        have HB5 := Lib.hid (HB4.out.trans (hb5.mono hs4))
        clear hb5 hsq hZ hvsz hapz hA5 x2
        go_wp2_with fail
        go_loopw [10] (fun iv wr => ∃ (i : Nat) (vy : Value), i ≤ g.length ∧ iv = .int .i64 i ∧ Hid (Hold.Apart wr wo.heap.size (innR vy (casts (bodyK g k i)) :: innR (.slice Ab (casts (backL g k)).length cb) (casts (backL g k)) :: box3 wo.heap.size (i64 (k : Int)) vy (.slice Ab (casts (backL g k)).length cb) :: outB (.slice Aw g.length cw) vsz :: innBs vsz Z)) ∧ Hid (Below wo.heap.size wo wr)) (fun iv _ => g.length - (intOf iv).toNat)
        case atStart => exact ⟨0, .slice none 0 0, Nat.zero_le _, rfl, HA5, HB5⟩
        case round =>
        obtain ⟨i, vy, hi9, rfl, HAY, HBY⟩ := hrel
        obtain ⟨Ay, cy, hvy⟩ := HAY.out.head.form
        simp only at hvy
        subst hvy
        by_cases hli : i < g.length
        · obtain ⟨bi, hbi⟩ : ∃ x, decide (i = k) = x := ⟨_, rfl⟩
          have ebi : ((i : Int) == (k : Int)) = bi := by rw [← hbi]; exact eqB i k
          have HIN := Lib.hid (show inK g k i 0 = bi by rw [inK_zero]; exact hbi)
          clear hbi
          go_wp2_with fail
          go_loopw [11, 12] (fun bv jv wr => ∃ (j : Nat), j ≤ (casts (backL g k)).length ∧ jv = .int .i64 j ∧ bv = .bool (inK g k i j) ∧ Hid (Hold.Apart wr wo.heap.size (innR (.slice Ay (casts (bodyK g k i)).length cy) (casts (bodyK g k i)) :: innR (.slice Ab (casts (backL g k)).length cb) (casts (backL g k)) :: box3 wo.heap.size (i64 (k : Int)) (.slice Ay (casts (bodyK g k i)).length cy) (.slice Ab (casts (backL g k)).length cb) :: outB (.slice Aw g.length cw) vsz :: innBs vsz Z)) ∧ Hid (Below wo.heap.size wo wr)) (fun _ jv _ => (casts (backL g k)).length - (intOf jv).toNat)
          case atStart => exact ⟨0, Nat.zero_le _, rfl, by rw [HIN.out], HAY, HBY⟩
          case round =>
          obtain ⟨j, hj9, rfl, rfl, HAY, HBY⟩ := hrel
          have hbx := HAY.out.1 (box3 wo.heap.size (i64 (k : Int)) (.slice Ay (casts (bodyK g k i)).length cy) (.slice Ab (casts (backL g k)).length cb)) (by simp)
          have x2 := Hold.Rec.on.cell hbx rfl (j := 2) (u := .slice Ab (casts (backL g k)).length cb) rfl
          have x1 := Hold.Rec.on.cell hbx rfl (j := 1) (u := .slice Ay (casts (bodyK g k i)).length cy) rfl
          clear hbx
          by_cases hlj : j < (casts (backL g k)).length
          · obtain ⟨gb, cb9, eb9, _, _, _⟩ := form9 (HAY.out.perm (List.Perm.swap _ _ _)).head hlp
            simp only [Value.slice.injEq, true_and] at eb9
            obtain ⟨rfl, rfl⟩ := eb9
            obtain ⟨b, hb⟩ : ∃ b, (backL g k)[j]? = some b := ⟨_, List.getElem?_eq_getElem (by rw [← casts_len]; exact hlj)⟩
            have x3 := Hold.Rec.on.cell (HAY.out.perm (List.Perm.swap _ _ _)).head rfl (j := j) (u := i64 (b : Int)) (by show (iC (casts (backL g k)))[j]? = some _; rw [List.getElem?_map]; unfold casts; rw [List.getElem?_map, hb]; rfl)
            have hbn : b < g.length := (backL_mem.1 (List.mem_of_getElem? hb)).1.last.1
            have HBJ := Lib.hid hb
            clear hb
            obtain ⟨ci, hci⟩ : ∃ x, inK g k i j = x := ⟨_, rfl⟩
            rw [hci]
            have HCI := Lib.hid hci
            clear hci
            cases ci with
            | true =>
              have HN := Lib.hid (inK_true HBJ.out HCI.out)
              go_wp2_with fail
              go_roundw
              case rel => exact ⟨j + 1, by omega, by go_num, by rw [HN.out], Lib.hid (by first | exact HAY.out | exact ⟨HAY.out.1, HAY.out.2⟩), Lib.hid (by first | exact HBY.out | exact HBY.out.drew)⟩
              case measure => simp [intOf]; omega
            | false =>
              have hik : i ≠ k := inK_ne HCI.out
              have f1 : ((i : Int) != (k : Int)) = true := by have h9 : (i : Int) ≠ (k : Int) := (by omega); simpa using h9
              by_cases hbi : b = i
              · have HN := Lib.hid (inK_own HBJ.out HCI.out hbi)
                have f2 : ((b : Int) == (i : Int)) = true := by rw [hbi]; simp
                have f3 : ((b : Int) != (k : Int)) = true := by have h9 : (b : Int) ≠ (k : Int) := (by omega); simpa using h9
                clear hbi
                go_wp2_with fail
                go_roundw
                case rel => exact ⟨j + 1, by omega, by go_num, by rw [HN.out], Lib.hid (by first | exact HAY.out | exact ⟨HAY.out.1, HAY.out.2⟩), Lib.hid (by first | exact HBY.out | exact HBY.out.drew)⟩
                case measure => simp [intOf]; omega
              · have hin := inK_other HBJ.out HCI.out hbi
                rw [HZ.out] at hin
                have f2 : ((b : Int) == (i : Int)) = false := by have h9 : (b : Int) ≠ (i : Int) := (by omega); simpa using h9
                obtain ⟨l, hl⟩ : ∃ l, Z[i]? = some l := ⟨_, List.getElem?_eq_getElem (by rw [HSQ.out.1]; exact hli)⟩
                have hll := HSQ.out.2 i hli
                rw [List.getD_eq_getElem?_getD, hl] at hll
                simp only [Option.getD_some] at hll
                obtain ⟨x, hx⟩ : ∃ x, l[b]? = some x := ⟨_, List.getElem?_eq_getElem (by omega)⟩
                have HN := Lib.hid (show inK g k i (j + 1) = x by
                  rw [hin]
                  unfold tb
                  rw [List.getD_eq_getElem?_getD (l := Z), hl]
                  simp only [Option.getD_some]
                  rw [List.getD_eq_getElem?_getD, hx]
                  rfl)
                have hapz := HAY.out.tail.tail.tail
                obtain ⟨ui, hui⟩ : ∃ u, vsz[i]? = some u := ⟨_, List.getElem?_eq_getElem (by have := HVZ.out; omega)⟩
                obtain ⟨g0, cap, e9, m1⟩ := bcell hapz hui
                rw [HVZ.out] at e9
                simp only [Value.slice.injEq, true_and] at e9
                obtain ⟨rfl, rfl⟩ := e9
                obtain ⟨b7, c7, rfl, ri⟩ := bread hapz hui hl (by omega)
                have m2 := ri b x hx
                rw [hll] at m1
                clear ri hui hapz hl hx hin hll hbi
                cases x with
                | true =>
                  go_wp2_with fail
                  go_roundw
                  case rel => exact ⟨j + 1, by omega, by go_num, by rw [HN.out], Lib.hid (by first | exact HAY.out | exact ⟨HAY.out.1, HAY.out.2⟩), Lib.hid (by first | exact HBY.out | exact HBY.out.drew)⟩
                  case measure => simp [intOf]; omega
                | false =>
                  go_wp2_with fail
                  go_roundw
                  case rel => exact ⟨j + 1, by omega, by go_num, by rw [HN.out], Lib.hid (by first | exact HAY.out | exact ⟨HAY.out.1, HAY.out.2⟩), Lib.hid (by first | exact HBY.out | exact HBY.out.drew)⟩
                  case measure => simp [intOf]; omega
          · have hje : j = (casts (backL g k)).length := by omega
            have HIK := Lib.hid (show inK g k i j = bodyB g k i by rw [hje, casts_len, inK_all])
            rw [HIK.out]
            obtain ⟨ci, hci⟩ : ∃ x, bodyB g k i = x := ⟨_, rfl⟩
            rw [hci]
            have HCI := Lib.hid hci
            clear hci hje
            have hbyl : (casts (bodyK g k i)).length ≤ i := by rw [casts_len]; exact bodyK_len g k i
            have hsy := HBY.out.size
            cases ci with
            | false =>
              have HSK := Lib.hid (show bodyK g k (i + 1) = bodyK g k i by rw [bodyK_succ, HCI.out]; simp)
              go_wp2_with fail
              go_roundw
              case rel => exact ⟨i + 1, _, by omega, by go_num, by rw [HSK.out]; exact HAY, HBY⟩
              case measure => simp [intOf]; omega
            | true =>
              have HSN := Lib.hid (show bodyK g k (i + 1) = bodyK g k i ++ [i] by rw [bodyK_succ, HCI.out]; rfl)
              go_wp2_with (at_builtin; refine Hold.wpList_grow (R := innR (.slice Ab (casts (backL g k)).length cb) (casts (backL g k)) :: box3 wo.heap.size (i64 (k : Int)) (.slice Ay (casts (bodyK g k i)).length cy) (.slice Ab (casts (backL g k)).length cb) :: outB (.slice Aw g.length cw) vsz :: innBs vsz Z) rfl _ _ 31 rfl wo.heap.size (innR (.slice Ay (casts (bodyK g k i)).length cy) (casts (bodyK g k i))) ii _ 8 Try.underlying31 HII.out.1 HII.out.2.1 HII.out.2.2.1 HII.out.2.2.2 rfl Nat.one_pos rfl HAY.out [i64 (i : Int)] _ rfl rfl rfl (by intro u hu; rw [List.mem_singleton] at hu; subst hu; rfl) (by show (casts (bodyK g k i)).length + 1 ≤ _; omega) (by show ((casts (bodyK g k i)).length + 1) * 8 ≤ _; omega) hsy ?_; intro v7 w7 hA7 hB7; obtain ⟨A7, c7, e7⟩ := hA7.head.form; simp only at e7; subst e7; have HA7 := Lib.hid (snocC hA7); have HB7 := Lib.hid (HBY.out.trans hB7); have hbx7 := HA7.out.1 (box3 wo.heap.size (i64 (k : Int)) (.slice Ay (casts (bodyK g k i)).length cy) (.slice Ab (casts (backL g k)).length cb)) (by simp); have y1 := Hold.Rec.on.cell hbx7 rfl (j := 1) (u := .slice Ay (casts (bodyK g k i)).length cy) rfl; have y1t := Hold.Rec.on.thaw hbx7 rfl 1; have y1s : wo.heap.size < w7.heap.size := World.block_lt_of_cell? w7 _ y1; clear hA7 hB7 hbx7)
              have HA8 := Lib.hid (show Hold.Apart (w7.setCell ⟨wo.heap.size, 1, none⟩ (.slice A7 ((casts (bodyK g k i)).length + 1) c7)) wo.heap.size (innR (.slice A7 ((casts (bodyK g k i)).length + 1) c7) (casts (bodyK g k (i + 1))) :: innR (.slice Ab (casts (backL g k)).length cb) (casts (backL g k)) :: box3 wo.heap.size (i64 (k : Int)) (.slice A7 ((casts (bodyK g k i)).length + 1) c7) (.slice Ab (casts (backL g k)).length cb) :: outB (.slice Aw g.length cw) vsz :: innBs vsz Z) from by
                rw [HSN.out]
                exact (((HA7.out.perm perm3).store (q := 1) (u := .slice A7 ((casts (bodyK g k i)).length + 1) c7) rfl).perm perm3).perm perm3)
              have HB8 := Lib.hid (HB7.out.setCell (p := ⟨wo.heap.size, 1, none⟩) (Nat.le_refl _) (.slice A7 ((casts (bodyK g k i)).length + 1) c7))
              go_roundw
              case rel => exact ⟨i + 1, _, by omega, by go_num, HA8, HB8⟩
              case measure => simp [intOf]; omega
        · have hie : i = g.length := by omega
          rw [hie, bodyK_all] at HAY
          clear hie
          have hbx := HAY.out.1 (box3 wo.heap.size (i64 (k : Int)) (.slice Ay (casts (bodyL g k)).length cy) (.slice Ab (casts (backL g k)).length cb)) (by simp)
          have x0 := Hold.Rec.on.cell hbx rfl (j := 0) (u := i64 (k : Int)) rfl
          have x1 := Hold.Rec.on.cell hbx rfl (j := 1) (u := .slice Ay (casts (bodyL g k)).length cy) rfl
          have x2 := Hold.Rec.on.cell hbx rfl (j := 2) (u := .slice Ab (casts (backL g k)).length cb) rfl
          have HAF := Lib.hid ((HA.out.join HBY.out (HAY.out.sub (R' := [innR (.slice Ay (casts (bodyL g k)).length cy) (casts (bodyL g k)), innR (.slice Ab (casts (backL g k)).length cb) (casts (backL g k))]) (.cons_cons _ (.cons_cons _ (List.nil_sublist _)))) hso).perm perm3)
          have hsy := (HBr.out.trans (HBY.out.mono hso)).size
          have hll := lps_len g k
          have HBW := Lib.hid (HBr.out.trans (HBY.out.mono hso))
          clear hbx
          go_wp2_with (at_builtin; refine Hold.wpList_grow (R := innR (.slice Ay (casts (bodyL g k)).length cy) (casts (bodyL g k)) :: innR (.slice Ab (casts (backL g k)).length cb) (casts (backL g k)) :: innL vs (lpsV g k)) rfl _ _ 26 rfl w2.heap.size (outL 35 (.slice Aa (lpsV g k).length ca) vs (lpsV g k)) il _ 56 Try.underlying26 HIL.out.1 HIL.out.2.1 HIL.out.2.2.1 HIL.out.2.2.2 rfl (by show 0 < 3; omega) rfl HAF.out [i64 (k : Int), .slice Ay (casts (bodyL g k)).length cy, .slice Ab (casts (backL g k)).length cb] _ rfl rfl rfl (by intro u hu; simp only [List.mem_cons, List.not_mem_nil, or_false] at hu; rcases hu with rfl | rfl | rfl <;> rfl) (by show (lpsV g k).length + 1 ≤ _; omega) (by show ((lpsV g k).length + 1) * 56 ≤ _; omega) hsy ?_; intro v8 w8 hA8 hB8; obtain ⟨A8, c8, e8⟩ := hA8.head.form; simp only at e8; subst e8; have HA8 := Lib.hid hA8; have HB8 := Lib.hid (HBW.out.trans hB8); clear hA8 hB8)
          have HLS := Lib.hid (show lpsV g (k + 1) = lpsV g k ++ [(k, bodyL g k, backL g k)] by
            rw [lps_succ, if_neg (by rw [List.isEmpty_iff]; exact HE.out)])
          go_roundw
          case rel =>
            refine ⟨k + 1, vs ++ [(.slice Ay (casts (bodyL g k)).length cy, .slice Ab (casts (backL g k)).length cb)], by omega, by go_num, Lib.hid ?_, Lib.hid ?_, HB8⟩
            · rw [HLS.out, List.length_append, List.length_append, HVS.out]; rfl
            · have h9 := HA8.out
              rw [HLS.out, innL_snoc HVS.out, ← outL_snoc HVS.out]
              exact h9.perm (List.Perm.cons _ (List.perm_append_comm (l₁ := [innR (.slice Ay (casts (bodyL g k)).length cy) (casts (bodyL g k)), innR (.slice Ab (casts (backL g k)).length cb) (casts (backL g k))]) (l₂ := innL vs (lpsV g k))))
          case measure => simp [intOf]; omega
  · have hke : k = g.length := by omega
    have hs := HBr.out.size
    have hI1 := HVS.out
    have HFIN := Lib.hid (show LOwn 35 wr w2.heap.size (.slice Aa (lpsV g k).length ca) (loopsV g) from ⟨vs, by rw [← lps_all, ← hke]; exact hI1, by
      rw [← lps_all, ← hke]
      exact HA.out⟩)
    clear hke hI1
    go_wp2_with fail
    go_ret
    obtain ⟨vs2, h1, h2⟩ := HFIN.out
    exact ⟨_, rfl, ⟨vs2, h1, h2.lower (Nat.le_trans hs1 hs2)⟩, (HB1.out.trans (HB2.out.mono hs1)).trans (HBr.out.mono (Nat.le_trans hs1 hs2))⟩
set_option maxRecDepth 100000 in
set_option maxHeartbeats 8000000 in
theorem few11_any (lo hi : Nat) (w : World) (v : Value) (g : List (List Int)) (hg : Graph lo hi w v g) (hh : hi ≤ w.heap.size) :
    Calls Try.prog 6 #[v] w (TP9 (FewG g 18) w) := by
  have QF := Lib.hid (fewG_any lo hi w v g hg hh 18)
  obtain ⟨A1, k1, rfl⟩ := Row.form hg
  clear hg
  go_enter Try.func6, Try.ntmps6
  go_wp2_with fail
  refine QF.out.mono ?_
  rintro e w2 ⟨b, rfl, hf, hb⟩
  have HF := Lib.hid hf
  have HB := Lib.hid hb
  clear hf hb
  go_wp2_with fail
  go_ret
  exact ⟨b, rfl, HF.out, HB.out⟩
end Go.Proofs.Ytiohngbmddfgfaa.Lp11
