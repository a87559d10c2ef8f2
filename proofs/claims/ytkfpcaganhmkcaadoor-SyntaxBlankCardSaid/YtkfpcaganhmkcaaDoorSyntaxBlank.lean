/-
  blanks, empty lines and remarks change no program; a fault is told of the line in which it stands then. No condition.
-/
import Derived.Test.YtkfpcaganhmkcaaDoorNums
import Derived.Test.YtkfpcaganhmkcaaDoorLinesUse
import Derived.Test.YtkfpcaganhmkcaaDoorRight5
import Derived.Test.YtkfpcaganhmkcaaDoorRef04
import Derived.Test.YtkfpcaganhmkcaaDoorRef04J
import Derived.Test.YtkfpcaganhmkcaaDoorCallsS
import Derived.Test.YtkfpcaganhmkcaaDoorShell
import Derived.ProofKit
import Derived.OpenShut
import Derived.SizedLaws
import Derived.Test.YtkfpcaganhmkcaaDoorLaidS
import Derived.Test.YtkfpcaganhmkcaaDoorTie
import Derived.Test.YtkfpcaganhmkcaaDoorCards
import Derived.LaidMore
import Derived.Stop.Joined
import Derived.SevenTiedAt
namespace Go.Proofs.YtkfpcaganhmkcaaDoor.syntaxBlank
open Go.ChangeShapes Go.WideShapes Go.ChangeAt Go.RowKit
open Api Mem
open LinesM hiding Wd
theorem split_ref (s : ByteArray) (out : List Ln) (n y : Nat) (h : splitV s.data.toList = (out, n, y)) (hs : s.size ≤ maxLen) (w : World) :
    Calls Tryd.prog 18 #[.string s] w fun e w' => ∃ v xs, e = .returned (.tuple #[v, .int .i64 (n : Int), .int .i64 (y : Int)]) ∧ xs.map line = lns out ∧ xs.length ≤ 4194306 ∧ OwnLins 70 9 w.heap.size w'.heap.size w' v xs ∧ Below w.heap.size w w' := by
  have := R04.split_any s w hs
  rw [h] at this
  exact this
theorem join_ref (lo hi : Nat) (v : Value) (xs : List ML) (w : World) (h : Lins lo hi w v xs) (hh : hi ≤ w.heap.size) (hT : (joinV (wordsOf xs)).length ≤ 1099511627776) :
    Calls Tryd.prog 19 #[v] w fun e w' => ∃ s : ByteArray, e = .returned (.string s) ∧ s.data.toList = joinV (wordsOf xs) ∧ Below w.heap.size w w' := by
  refine (R04.join_any lo hi w v xs h hh hT).mono ?_
  rintro e w' ⟨rfl, hb⟩
  exact ⟨_, rfl, rfl, hb⟩
set_option maxRecDepth 100000 in
set_option maxHeartbeats 8000000 in
theorem walk_a (s : ByteArray) (hs : s.size ≤ maxLen) (k : Nat) (why : Int) (hx : Rd5.textE s.data.toList = .error (k, why)) (a : List Ln) (m1 y1 : Nat) (h1 : splitV s.data.toList = (a, m1, y1)) (hy : y1 ≠ 0) (w : World) (hL : Rd5.LaidS w) :
    Calls Tryd.prog 5 #[.string s] w fun e w' => e = .returned (.bool true) ∧ Below w.heap.size w w' := by
  have Q := Lib.hid (Rd5.pars_any s w hs hL)
  have Q1 := Lib.hid fun w => split_ref s a m1 y1 h1 hs w
  have HX := Lib.hid hx
  have HL := Lib.hid hL
  have e0 : (why == 0) = false := by
    have := Rd5.textE_errs hx
    simpa using this
  have e2 : ((y1 : Int) != 0) = true := by simp; omega

  clear hx hL h1
  go_enter Tryd.func5, Tryd.ntmps5
  go_wp2_with fail
  refine (Q.out).mono ?_; rintro e w1 hP
  obtain ⟨rfl, hb1⟩ := Rd5.parsP_err hP HX.out
  have HB1 := Lib.hid hb1
  clear hP hb1
  go_wp2_with fail
  refine (Q1.out _).mono ?_; rintro e w2 ⟨v1, xs, rfl, hxs, hxn, hown, hb2⟩
  have HZ := Lib.hid ((Own.made w1 38 [.bool false, .slice none 0 0, .slice none 0 0, .slice none 0 0, .slice none 0 0]).below hb2 (by simp))
  have HB12 := Lib.hid (Rd5.z_below hb2)
  have HS2 := Lib.hid (Rd5.z_size hb2)
  have HB2 := Lib.hid (HB1.out.trans (HB12.out.mono HB1.out.size))
  have HXS := Lib.hid hxs
  have HXN := Lib.hid hxn
  have HOW := Lib.hid hown
  clear hxs hxn hown hb2
  go_wp2_with fail
  refine (Rd5.awake_any _ (HL.out.below HB2.out (Nat.le_refl _))).mono ?_; rintro e w4 ⟨rfl, hb4⟩
  have HB4 := Lib.hid (HB2.out.trans (hb4.mono HB2.out.size))
  have HOW4 := Lib.hid (HOW.out.below hb4)
  have HZ4 := Lib.hid (HZ.out.below hb4 HS2.out)
  have HS4 := Lib.hid (Nat.lt_of_lt_of_le HS2.out hb4.size)
  have HB14 := Lib.hid (HB12.out.trans (hb4.mono HB12.out.size))
  clear hb4
  go_wp2_with fail
  refine (Rd5.awake_any _ (HL.out.below HB4.out (Nat.le_refl _))).mono ?_; rintro e w5 ⟨rfl, hb5⟩
  have HB5 := Lib.hid (HB4.out.trans (hb5.mono HB4.out.size))
  clear hb5
  go_wp2_with fail
  go_ret
  exact ⟨rfl, HB5.out⟩
set_option maxRecDepth 100000 in
set_option maxHeartbeats 8000000 in
theorem walk_b (s : ByteArray) (hs : s.size ≤ maxLen) (k : Nat) (why : Int) (hx : Rd5.textE s.data.toList = .error (k, why)) (a : List Ln) (m1 y1 : Nat) (h1 : splitV s.data.toList = (a, m1, y1)) (hy : y1 = 0) (hl : 30000 < s.size) (w : World) (hL : Rd5.LaidS w) :
    Calls Tryd.prog 5 #[.string s] w fun e w' => e = .returned (.bool true) ∧ Below w.heap.size w w' := by
  have Q := Lib.hid (Rd5.pars_any s w hs hL)
  have Q1 := Lib.hid fun w => split_ref s a m1 y1 h1 hs w
  have HX := Lib.hid hx
  have HL := Lib.hid hL
  have e0 : (why == 0) = false := by
    have := Rd5.textE_errs hx
    simpa using this
  have e2 : decide ((30000 : Int) < (s.size : Int)) = true := decide_eq_true (by omega)
  subst hy

  clear hx hL h1
  go_enter Tryd.func5, Tryd.ntmps5
  go_wp2_with fail
  refine (Q.out).mono ?_; rintro e w1 hP
  obtain ⟨rfl, hb1⟩ := Rd5.parsP_err hP HX.out
  have HB1 := Lib.hid hb1
  clear hP hb1
  go_wp2_with fail
  refine (Q1.out _).mono ?_; rintro e w2 ⟨v1, xs, rfl, hxs, hxn, hown, hb2⟩
  have HZ := Lib.hid ((Own.made w1 38 [.bool false, .slice none 0 0, .slice none 0 0, .slice none 0 0, .slice none 0 0]).below hb2 (by simp))
  have HB12 := Lib.hid (Rd5.z_below hb2)
  have HS2 := Lib.hid (Rd5.z_size hb2)
  have HB2 := Lib.hid (HB1.out.trans (HB12.out.mono HB1.out.size))
  have HXS := Lib.hid hxs
  have HXN := Lib.hid hxn
  have HOW := Lib.hid hown
  clear hxs hxn hown hb2
  go_wp2_with fail
  refine (Rd5.awake_any _ (HL.out.below HB2.out (Nat.le_refl _))).mono ?_; rintro e w4 ⟨rfl, hb4⟩
  have HB4 := Lib.hid (HB2.out.trans (hb4.mono HB2.out.size))
  have HOW4 := Lib.hid (HOW.out.below hb4)
  have HZ4 := Lib.hid (HZ.out.below hb4 HS2.out)
  have HS4 := Lib.hid (Nat.lt_of_lt_of_le HS2.out hb4.size)
  have HB14 := Lib.hid (HB12.out.trans (hb4.mono HB12.out.size))
  clear hb4
  go_wp2_with fail
  refine (Rd5.awake_any _ (HL.out.below HB4.out (Nat.le_refl _))).mono ?_; rintro e w5 ⟨rfl, hb5⟩
  have HB5 := Lib.hid (HB4.out.trans (hb5.mono HB4.out.size))
  clear hb5
  go_wp2_with fail
  go_ret
  exact ⟨rfl, HB5.out⟩
set_option maxRecDepth 100000 in
set_option maxHeartbeats 8000000 in
theorem walk_c (s : ByteArray) (hs : s.size ≤ maxLen) (p : Prog) (hx : Rd5.textE s.data.toList = .ok p) (a : List Ln) (m1 y1 : Nat) (h1 : splitV s.data.toList = (a, m1, y1)) (hy : y1 = 0) (hl : 30000 < s.size) (w : World) (hL : Rd5.LaidS w) :
    Calls Tryd.prog 5 #[.string s] w fun e w' => e = .returned (.bool true) ∧ Below w.heap.size w w' := by
  have Q := Lib.hid (Rd5.pars_any s w hs hL)
  have Q1 := Lib.hid fun w => split_ref s a m1 y1 h1 hs w
  have HX := Lib.hid hx
  have HL := Lib.hid hL
  have e2 : decide ((30000 : Int) < (s.size : Int)) = true := decide_eq_true (by omega)
  subst hy

  clear hx hL h1
  go_enter Tryd.func5, Tryd.ntmps5
  go_wp2_with fail
  refine (Q.out).mono ?_; rintro e w1 hP
  obtain ⟨cs, rfl, hpc, hb1⟩ := Rd5.parsP_ok hP HX.out
  have HPC := Lib.hid hpc
  obtain ⟨u1, u2, u3, u4, rfl, j1, j2, j3, j4⟩ := hpc
  obtain ⟨A1, c1, rfl⟩ := j1.form
  obtain ⟨A2, c2, rfl⟩ := j2.form
  obtain ⟨A3, c3, rfl⟩ := j3.form
  obtain ⟨A4, c4, rfl⟩ := j4.form
  clear j1 j2 j3 j4
  have HB1 := Lib.hid hb1
  clear hP hb1
  go_wp2_with fail
  refine (Q1.out _).mono ?_; rintro e w2 ⟨v1, xs, rfl, hxs, hxn, hown, hb2⟩
  have HZ := Lib.hid ((Own.made w1 38 [.bool p.ssa, .slice A1 p.classes.length c1, .slice A2 p.globals.length c2, .slice A3 p.externs.length c3, .slice A4 p.funcs.length c4]).below hb2 (by simp))
  have HB12 := Lib.hid (Rd5.z_below hb2)
  have HS2 := Lib.hid (Rd5.z_size hb2)
  have HB2 := Lib.hid (HB1.out.trans (HB12.out.mono HB1.out.size))
  have HXS := Lib.hid hxs
  have HXN := Lib.hid hxn
  have HOW := Lib.hid hown
  clear hxs hxn hown hb2
  go_wp2_with fail
  refine (Rd5.awake_any _ (HL.out.below HB2.out (Nat.le_refl _))).mono ?_; rintro e w4 ⟨rfl, hb4⟩
  have HB4 := Lib.hid (HB2.out.trans (hb4.mono HB2.out.size))
  have HOW4 := Lib.hid (HOW.out.below hb4)
  have HZ4 := Lib.hid (HZ.out.below hb4 HS2.out)
  have HS4 := Lib.hid (Nat.lt_of_lt_of_le HS2.out hb4.size)
  have HB14 := Lib.hid (HB12.out.trans (hb4.mono HB12.out.size))
  clear hb4
  go_wp2_with fail
  refine (Rd5.awake_any _ (HL.out.below HB4.out (Nat.le_refl _))).mono ?_; rintro e w5 ⟨rfl, hb5⟩
  have HB5 := Lib.hid (HB4.out.trans (hb5.mono HB4.out.size))
  clear hb5
  go_wp2_with fail
  go_ret
  exact ⟨rfl, HB5.out⟩
set_option maxRecDepth 100000 in
set_option maxHeartbeats 8000000 in
theorem walk_d (s : ByteArray) (hs : s.size ≤ maxLen) (p : Prog) (hx : Rd5.textE s.data.toList = .ok p) (a : List Ln) (m1 y1 : Nat) (h1 : splitV s.data.toList = (a, m1, y1)) (hy : y1 = 0) (hl : s.size ≤ 30000) (w : World) (hL : Rd5.LaidS w) :
    Calls Tryd.prog 5 #[.string s] w fun e w' => e = .returned (.bool true) ∧ Below w.heap.size w w' := by
  have Q := Lib.hid (Rd5.pars_any s w hs hL)
  have Q1 := Lib.hid fun w => split_ref s a m1 y1 h1 hs w
  have HX := Lib.hid hx
  have HL := Lib.hid hL
  have e2 : decide ((30000 : Int) < (s.size : Int)) = false := decide_eq_false (by omega)
  subst hy
  obtain ⟨hT60, hT61, hok, herr⟩ := Rd5.blank_same h1 (by rw [size_list]; exact hl)
  have HRI := Lib.hid ((split_props h1).1 rfl).2
  have H60 := Lib.hid hT60
  have H61 := Lib.hid hT61
  have HOK := Lib.hid (hok p hx)
  clear hT60 hT61 hok herr

  clear hx hL h1
  go_enter Tryd.func5, Tryd.ntmps5
  go_wp2_with fail
  refine (Q.out).mono ?_; rintro e w1 hP
  obtain ⟨cs, rfl, hpc, hb1⟩ := Rd5.parsP_ok hP HX.out
  have HPC := Lib.hid hpc
  obtain ⟨u1, u2, u3, u4, rfl, j1, j2, j3, j4⟩ := hpc
  obtain ⟨A1, c1, rfl⟩ := j1.form
  obtain ⟨A2, c2, rfl⟩ := j2.form
  obtain ⟨A3, c3, rfl⟩ := j3.form
  obtain ⟨A4, c4, rfl⟩ := j4.form
  clear j1 j2 j3 j4
  have HB1 := Lib.hid hb1
  clear hP hb1
  go_wp2_with fail
  refine (Q1.out _).mono ?_; rintro e w2 ⟨v1, xs, rfl, hxs, hxn, hown, hb2⟩
  have HZ := Lib.hid ((Own.made w1 38 [.bool p.ssa, .slice A1 p.classes.length c1, .slice A2 p.globals.length c2, .slice A3 p.externs.length c3, .slice A4 p.funcs.length c4]).below hb2 (by simp))
  have HB12 := Lib.hid (Rd5.z_below hb2)
  have HS2 := Lib.hid (Rd5.z_size hb2)
  have HB2 := Lib.hid (HB1.out.trans (HB12.out.mono HB1.out.size))
  have HXS := Lib.hid hxs
  have HXN := Lib.hid hxn
  have HOW := Lib.hid hown
  clear hxs hxn hown hb2
  go_wp2_with fail
  refine (Rd5.awake_any _ (HL.out.below HB2.out (Nat.le_refl _))).mono ?_; rintro e w4 ⟨rfl, hb4⟩
  have HB4 := Lib.hid (HB2.out.trans (hb4.mono HB2.out.size))
  have HOW4 := Lib.hid (HOW.out.below hb4)
  have HZ4 := Lib.hid (HZ.out.below hb4 HS2.out)
  have HS4 := Lib.hid (Nat.lt_of_lt_of_le HS2.out hb4.size)
  have HB14 := Lib.hid (HB12.out.trans (hb4.mono HB12.out.size))
  clear hb4
  go_wp2_with fail
  obtain ⟨A, cap, rfl, hc1, hc2⟩ := HOW4.out.form
  have HLEN := Lib.hid (of_lns HXS.out).1
  have HLI := Lib.hid (HOW4.out.lins (by have := HXN.out; omega))
  go_loopw [9, 10] (fun v9 i wr => ∃ (q : Nat) (z : ByteArray), q ≤ xs.length ∧ v9 = .string z ∧ i = .int .i64 q ∧ Hid (z.data.toList = Rd5.blankV ((a.take q).map fun x => x.2)) ∧ Hid (Below w4.heap.size w4 wr)) (fun _ i _ => xs.length - (intOf i).toNat)
  case atStart => exact ⟨0, ⟨#[]⟩, Nat.zero_le _, rfl, rfl, Lib.hid (by simp [Rd5.blankV]), Lib.hid (Below.refl _ _)⟩
  case round =>
  obtain ⟨q, z, hq, rfl, rfl, HT, HBr⟩ := hrel
  have HBF := Lib.hid (HB4.out.trans (HBr.out.mono HB4.out.size))
  have HLS := Lib.hid (HL.out.below HBF.out (Nat.le_refl _))
  by_cases hlt : q < xs.length
  · obtain ⟨⟨N, u, ws⟩, hx⟩ : ∃ x, xs[q]? = some x := ⟨_, List.getElem?_eq_getElem hlt⟩
    obtain ⟨o1, o2, o3⟩ := (of_lns HXS.out).2 q _ hx
    have hA : ∃ g, A = some ⟨g, 0, none⟩ := by
      rcases HOW4.out.1.2 with ⟨e1, e2⟩ | ⟨g, cap, cur, e1, _⟩
      · exfalso; omega
      · simp only [Value.slice.injEq] at e1
        exact ⟨g, e1.1⟩
    obtain ⟨g, rfl⟩ := hA
    obtain ⟨hb1, hb2, q1, q2, q3⟩ := (HLI.out.below HBr.out).one (c := cap - q) rfl hx
    simp only at o1 o2 q1 q2
    have hjl : Rd5.blankV ((a.take (q + 1)).map fun x => x.2) = Rd5.blankV ((a.take q).map fun x => x.2) ++ (Rd5.ahead5 ++ joinV (wordsOf [(N, u, ws)])) := by
      obtain ⟨y, hy⟩ : ∃ y, a[q]? = some y := ⟨_, List.getElem?_eq_getElem o3⟩
      rw [LinesM.take_next hy, List.map_append]
      rw [List.getD_eq_getElem?_getD, hy, Option.getD_some] at o2
      rw [o2]
      unfold Rd5.blankV
      rw [List.flatMap_append]
      simp [joinV, wordsOf]
    have hj60 : (Rd5.blankV ((a.take (q + 1)).map fun x => x.2)).length ≤ 700000 := by
      have h1 : a.map (fun x => x.2) = ((a.take (q + 1)).map fun x => x.2) ++ ((a.drop (q + 1)).map fun x => x.2) := by
        rw [← List.map_append, List.take_append_drop]
      have h2 := H60.out
      rw [h1] at h2
      unfold Rd5.blankV at h2 ⊢
      rw [List.flatMap_append, List.length_append] at h2
      omega
    have hsum := congrArg List.length hjl
    rw [List.length_append, List.length_append, ← HT.out, size_list] at hsum
    have QJ := Lib.hid (join_ref _ _ _ _ wr q3 HBr.out.size (by omega))
    have HJL := Lib.hid hjl
    have HSUM := Lib.hid hsum
    have HJ6 := Lib.hid hj60
    have g1 : q + 1 ≤ xs.length := hlt
    have g3 : ¬ 9223372036854775807 < z.size + 9 := by omega
    have hzero : (0 : Nat) + q * 2 = q * 2 := by omega
    rw [hzero] at q1 QJ
    clear hx o1 o2 o3 q2 q3 hjl hsum hj60 hzero
    go_wp2_with fail
    refine (QJ.out).mono ?_; rintro e w5 ⟨sj, rfl, hsj, hb5⟩
    have hz2 : (z ++ ⟨#[10, 59, 120, 32, 61, 32, 10, 32, 32]⟩ ++ sj : ByteArray).data.toList = Rd5.blankV ((a.take (q + 1)).map fun x => x.2) := by rw [HJL.out, ← HT.out, ← hsj]; simp [ByteArray.data_append, Rd5.ahead5]
    have g2 : ¬ 9223372036854775807 < z.size + 9 + sj.size := by
      have h1 := HSUM.out
      have h2 := HJ6.out
      rw [← hsj, size_list] at h1
      omega
    have HZ2 := Lib.hid hz2
    have HB5 := Lib.hid (HBr.out.trans (hb5.mono HBr.out.size))
    clear hz2 hb5 hsj
    go_wp2
    go_roundw
    case rel => exact ⟨q + 1, _, by omega, rfl, by go_num, HZ2, HB5⟩
    case measure => simp [intOf]; omega
  · obtain rfl : q = xs.length := by omega
    have hza : z.data.toList = Rd5.blankV (a.map fun x => x.2) := by rw [HT.out, HLEN.out, List.take_length]
    have hz60 : z.size ≤ 700000 := by
      have h2 := H60.out
      rw [← hza, size_list] at h2
      exact h2
    have QP := Lib.hid (Rd5.pars_any z wr (by unfold maxLen; omega) HLS.out)
    have HZA := Lib.hid hza
    clear hza
    go_wp2_with fail
    refine (QP.out).mono ?_; rintro e w6 hP
    obtain ⟨cs, rfl, hqc, hb6⟩ := Rd5.parsP_ok hP (by rw [HZA.out]; exact HOK.out)
    have HQC := Lib.hid hqc
    obtain ⟨t1, t2, t3, t4, rfl, j1, j2, j3, j4⟩ := hqc
    obtain ⟨B1, d1, rfl⟩ := j1.form
    obtain ⟨B2, d2, rfl⟩ := j2.form
    obtain ⟨B3, d3, rfl⟩ := j3.form
    obtain ⟨B4, d4, rfl⟩ := j4.form
    have HB46 := Lib.hid (HBr.out.trans (hb6.mono HBr.out.size))
    have HB6 := Lib.hid (HBF.out.trans (hb6.mono HBF.out.size))
    have HB16 := Lib.hid (HB14.out.trans (HB46.out.mono HB14.out.size))
    have HPC6 := Lib.hid (HPC.out.move (Still.of_below HB16.out))
    have HZ6 := Lib.hid (HZ4.out.below HB46.out HS4.out)
    have HS6 := Lib.hid (Nat.lt_of_lt_of_le HS4.out HB46.out.size)
    obtain ⟨⟨y0, y1, y2, y3, y4⟩, _⟩ := Rd5.res_cells HZ6.out
    have y0 := Rd5.al_cell (x := .cells #[.bool p.ssa, .slice B1 p.classes.length d1, .slice B2 p.globals.length d2, .slice B3 p.externs.length d3, .slice B4 p.funcs.length d4] 38) y0
    have y1 := Rd5.al_cell (x := .cells #[.bool p.ssa, .slice B1 p.classes.length d1, .slice B2 p.globals.length d2, .slice B3 p.externs.length d3, .slice B4 p.funcs.length d4] 38) y1
    have y2 := Rd5.al_cell (x := .cells #[.bool p.ssa, .slice B1 p.classes.length d1, .slice B2 p.globals.length d2, .slice B3 p.externs.length d3, .slice B4 p.funcs.length d4] 38) y2
    have y3 := Rd5.al_cell (x := .cells #[.bool p.ssa, .slice B1 p.classes.length d1, .slice B2 p.globals.length d2, .slice B3 p.externs.length d3, .slice B4 p.funcs.length d4] 38) y3
    have y4 := Rd5.al_cell (x := .cells #[.bool p.ssa, .slice B1 p.classes.length d1, .slice B2 p.globals.length d2, .slice B3 p.externs.length d3, .slice B4 p.funcs.length d4] 38) y4
    have l0 := HS6.out
    clear j1 j2 j3 j4 hP hb6
    go_wp2_with fail
    obtain ⟨W7, hW7⟩ : ∃ W7, w6.alloc (.cells #[.bool p.ssa, .slice B1 p.classes.length d1, .slice B2 p.globals.length d2, .slice B3 p.externs.length d3, .slice B4 p.funcs.length d4] 38) = W7 := ⟨_, rfl⟩
    rw [hW7]
    have hb7 : Below w6.heap.size w6 W7 := by rw [← hW7]; exact (Below.refl _ _).alloc (Nat.le_refl _) _
    have HB7 := Lib.hid (HB6.out.trans (hb7.mono HB6.out.size))
    refine (R06.same_any _ _ _ _ W7 _ _ p (HPC6.out.move (Still.of_below (hb7.mono HB16.out.size))) (HQC.out.move (Still.of_below hb7)) (Nat.le_trans HB16.out.size hb7.size) hb7.size).mono ?_; rintro e w8 ⟨rfl, hb8⟩
    have HB8 := Lib.hid (HB7.out.trans (hb8.mono HB7.out.size))
    clear hb7 hb8 hW7
    go_wp2_with fail
    go_ret
    exact ⟨rfl, HB8.out⟩
set_option maxRecDepth 100000 in
set_option maxHeartbeats 8000000 in
theorem walk_e (s : ByteArray) (hs : s.size ≤ maxLen) (k : Nat) (why : Int) (hx : Rd5.textE s.data.toList = .error (k, why)) (a : List Ln) (m1 y1 : Nat) (h1 : splitV s.data.toList = (a, m1, y1)) (hy : y1 = 0) (hl : s.size ≤ 30000) (w : World) (hL : Rd5.LaidS w) :
    Calls Tryd.prog 5 #[.string s] w fun e w' => e = .returned (.bool true) ∧ Below w.heap.size w w' := by
  have Q := Lib.hid (Rd5.pars_any s w hs hL)
  have Q1 := Lib.hid fun w => split_ref s a m1 y1 h1 hs w
  have HX := Lib.hid hx
  have HL := Lib.hid hL
  have e0 : (why == 0) = false := by
    have := Rd5.textE_errs hx
    simpa using this
  have e2 : decide ((30000 : Int) < (s.size : Int)) = false := decide_eq_false (by omega)
  subst hy
  obtain ⟨hT60, hT61, hok, herr⟩ := Rd5.blank_same h1 (by rw [size_list]; exact hl)
  have HRI := Lib.hid ((split_props h1).1 rfl).2
  have H60 := Lib.hid hT60
  have H61 := Lib.hid hT61
  obtain ⟨ln, hln, hK⟩ := herr k why hx
  have hK2 : ∃ K, (∀ (i : Nat) (x : Ln), a[i]? = some x → (x.1 = k ↔ i = K)) ∧ ln = if K < a.length then 3 * (K + 1) else 0 := by
    have hR := HRI.out
    rcases hK with ⟨rfl, rfl⟩ | ⟨K, h1, h2, rfl⟩
    · refine ⟨a.length, fun i x hx => ⟨fun h => ?_, fun h => ?_⟩, by rw [if_neg (by omega)]⟩
      · have := Rd5.rise_get hR i x hx; omega
      · have := (List.getElem?_eq_some_iff.1 hx).1; omega
    · refine ⟨K, fun i x hx => ?_, by rw [if_pos h1]⟩
      obtain ⟨y, hy⟩ : ∃ y, a[K]? = some y := ⟨_, List.getElem?_eq_getElem h1⟩
      rw [List.getD_eq_getElem?_getD, hy, Option.getD_some] at h2
      constructor
      · intro h
        rcases Nat.lt_trichotomy i K with hlt | he | hgt
        · have := Rd5.rise_lt hR i K x y hx hy hlt; omega
        · exact he
        · have := Rd5.rise_lt hR K i y x hy hx hgt; omega
      · rintro rfl
        rw [hy] at hx
        injection hx with hx
        subst hx
        exact h2.symm
  obtain ⟨K, hK3, hK4⟩ := hK2
  have HOK := Lib.hid hln
  have HK3 := Lib.hid hK3
  have HK4 := Lib.hid hK4
  clear hT60 hT61 hok herr hln hK hK3 hK4

  clear hx hL h1
  go_enter Tryd.func5, Tryd.ntmps5
  go_wp2_with fail
  refine (Q.out).mono ?_; rintro e w1 hP
  obtain ⟨rfl, hb1⟩ := Rd5.parsP_err hP HX.out
  have HB1 := Lib.hid hb1
  clear hP hb1
  go_wp2_with fail
  refine (Q1.out _).mono ?_; rintro e w2 ⟨v1, xs, rfl, hxs, hxn, hown, hb2⟩
  have HZ := Lib.hid ((Own.made w1 38 [.bool false, .slice none 0 0, .slice none 0 0, .slice none 0 0, .slice none 0 0]).below hb2 (by simp))
  have HB12 := Lib.hid (Rd5.z_below hb2)
  have HS2 := Lib.hid (Rd5.z_size hb2)
  have HB2 := Lib.hid (HB1.out.trans (HB12.out.mono HB1.out.size))
  have HXS := Lib.hid hxs
  have HXN := Lib.hid hxn
  have HOW := Lib.hid hown
  clear hxs hxn hown hb2
  go_wp2_with fail
  refine (Rd5.awake_any _ (HL.out.below HB2.out (Nat.le_refl _))).mono ?_; rintro e w4 ⟨rfl, hb4⟩
  have HB4 := Lib.hid (HB2.out.trans (hb4.mono HB2.out.size))
  have HOW4 := Lib.hid (HOW.out.below hb4)
  have HZ4 := Lib.hid (HZ.out.below hb4 HS2.out)
  have HS4 := Lib.hid (Nat.lt_of_lt_of_le HS2.out hb4.size)
  have HB14 := Lib.hid (HB12.out.trans (hb4.mono HB12.out.size))
  clear hb4
  go_wp2_with fail
  obtain ⟨A, cap, rfl, hc1, hc2⟩ := HOW4.out.form
  have HLEN := Lib.hid (of_lns HXS.out).1
  have HLI := Lib.hid (HOW4.out.lins (by have := HXN.out; omega))
  go_loopw [9, 10] (fun v9 i wr => ∃ (q : Nat) (z : ByteArray), q ≤ xs.length ∧ v9 = .string z ∧ i = .int .i64 q ∧ Hid (z.data.toList = Rd5.blankV ((a.take q).map fun x => x.2)) ∧ Hid (Below w4.heap.size w4 wr)) (fun _ i _ => xs.length - (intOf i).toNat)
  case atStart => exact ⟨0, ⟨#[]⟩, Nat.zero_le _, rfl, rfl, Lib.hid (by simp [Rd5.blankV]), Lib.hid (Below.refl _ _)⟩
  case round =>
  obtain ⟨q, z, hq, rfl, rfl, HT, HBr⟩ := hrel
  have HBF := Lib.hid (HB4.out.trans (HBr.out.mono HB4.out.size))
  have HLS := Lib.hid (HL.out.below HBF.out (Nat.le_refl _))
  by_cases hlt : q < xs.length
  · obtain ⟨⟨N, u, ws⟩, hx⟩ : ∃ x, xs[q]? = some x := ⟨_, List.getElem?_eq_getElem hlt⟩
    obtain ⟨o1, o2, o3⟩ := (of_lns HXS.out).2 q _ hx
    have hA : ∃ g, A = some ⟨g, 0, none⟩ := by
      rcases HOW4.out.1.2 with ⟨e1, e2⟩ | ⟨g, cap, cur, e1, _⟩
      · exfalso; omega
      · simp only [Value.slice.injEq] at e1
        exact ⟨g, e1.1⟩
    obtain ⟨g, rfl⟩ := hA
    obtain ⟨hb1, hb2, q1, q2, q3⟩ := (HLI.out.below HBr.out).one (c := cap - q) rfl hx
    simp only at o1 o2 q1 q2
    have hjl : Rd5.blankV ((a.take (q + 1)).map fun x => x.2) = Rd5.blankV ((a.take q).map fun x => x.2) ++ (Rd5.ahead5 ++ joinV (wordsOf [(N, u, ws)])) := by
      obtain ⟨y, hy⟩ : ∃ y, a[q]? = some y := ⟨_, List.getElem?_eq_getElem o3⟩
      rw [LinesM.take_next hy, List.map_append]
      rw [List.getD_eq_getElem?_getD, hy, Option.getD_some] at o2
      rw [o2]
      unfold Rd5.blankV
      rw [List.flatMap_append]
      simp [joinV, wordsOf]
    have hj60 : (Rd5.blankV ((a.take (q + 1)).map fun x => x.2)).length ≤ 700000 := by
      have h1 : a.map (fun x => x.2) = ((a.take (q + 1)).map fun x => x.2) ++ ((a.drop (q + 1)).map fun x => x.2) := by
        rw [← List.map_append, List.take_append_drop]
      have h2 := H60.out
      rw [h1] at h2
      unfold Rd5.blankV at h2 ⊢
      rw [List.flatMap_append, List.length_append] at h2
      omega
    have hsum := congrArg List.length hjl
    rw [List.length_append, List.length_append, ← HT.out, size_list] at hsum
    have QJ := Lib.hid (join_ref _ _ _ _ wr q3 HBr.out.size (by omega))
    have HJL := Lib.hid hjl
    have HSUM := Lib.hid hsum
    have HJ6 := Lib.hid hj60
    have g1 : q + 1 ≤ xs.length := hlt
    have g3 : ¬ 9223372036854775807 < z.size + 9 := by omega
    have hzero : (0 : Nat) + q * 2 = q * 2 := by omega
    rw [hzero] at q1 QJ
    clear hx o1 o2 o3 q2 q3 hjl hsum hj60 hzero
    go_wp2_with fail
    refine (QJ.out).mono ?_; rintro e w5 ⟨sj, rfl, hsj, hb5⟩
    have hz2 : (z ++ ⟨#[10, 59, 120, 32, 61, 32, 10, 32, 32]⟩ ++ sj : ByteArray).data.toList = Rd5.blankV ((a.take (q + 1)).map fun x => x.2) := by rw [HJL.out, ← HT.out, ← hsj]; simp [ByteArray.data_append, Rd5.ahead5]
    have g2 : ¬ 9223372036854775807 < z.size + 9 + sj.size := by
      have h1 := HSUM.out
      have h2 := HJ6.out
      rw [← hsj, size_list] at h1
      omega
    have HZ2 := Lib.hid hz2
    have HB5 := Lib.hid (HBr.out.trans (hb5.mono HBr.out.size))
    clear hz2 hb5 hsj
    go_wp2
    go_roundw
    case rel => exact ⟨q + 1, _, by omega, rfl, by go_num, HZ2, HB5⟩
    case measure => simp [intOf]; omega
  · obtain rfl : q = xs.length := by omega
    have hza : z.data.toList = Rd5.blankV (a.map fun x => x.2) := by rw [HT.out, HLEN.out, List.take_length]
    have hz60 : z.size ≤ 700000 := by
      have h2 := H60.out
      rw [← hza, size_list] at h2
      exact h2
    have QP := Lib.hid (Rd5.pars_any z wr (by unfold maxLen; omega) HLS.out)
    have HZA := Lib.hid hza
    clear hza
    go_wp2_with fail
    refine (QP.out).mono ?_; rintro e w6 hP
    obtain ⟨rfl, hb6⟩ := Rd5.parsP_err hP (by rw [HZA.out]; exact HOK.out)
    have HB46 := Lib.hid (HBr.out.trans (hb6.mono HBr.out.size))
    have HB6 := Lib.hid (HBF.out.trans (hb6.mono HBF.out.size))
    have HLI6 := Lib.hid (HLI.out.below HB46.out)
    clear hP hb6
    go_wp2_with fail
    obtain ⟨W7, hW7⟩ : ∃ W7, w6.alloc (.cells #[.bool false, .slice none 0 0, .slice none 0 0, .slice none 0 0, .slice none 0 0] 38) = W7 := ⟨_, rfl⟩
    rw [hW7]
    have hb7 : Below w6.heap.size w6 W7 := by rw [← hW7]; exact (Below.refl _ _).alloc (Nat.le_refl _) _
    have HB7 := Lib.hid (HB6.out.trans (hb7.mono HB6.out.size))
    have HLI7 := Lib.hid (HLI6.out.below (hb7.mono HB46.out.size))
    clear hb7 hW7 HLI6
    go_loopw [14, 15] (fun v14 i wr => ∃ q : Nat, q ≤ xs.length ∧ i = .int .i64 q ∧ v14 = .int .i64 ((if K < q then 3 * (K + 1) else 0 : Nat) : Int) ∧ wr = W7) (fun _ i _ => xs.length - (intOf i).toNat)
    case atStart => exact ⟨0, Nat.zero_le _, rfl, by rw [if_neg (by omega)]; rfl, rfl⟩
    case round =>
    obtain ⟨q, hq, rfl, rfl, rfl⟩ := hrel
    by_cases hlt2 : q < xs.length
    · obtain ⟨⟨N, u, ws⟩, hx⟩ : ∃ x, xs[q]? = some x := ⟨_, List.getElem?_eq_getElem hlt2⟩
      obtain ⟨o1, o2, o3⟩ := (of_lns HXS.out).2 q _ hx
      have hA : ∃ g, A = some ⟨g, 0, none⟩ := by
        rcases HOW4.out.1.2 with ⟨e1, e2⟩ | ⟨g, cap, cur, e1, _⟩
        · exfalso; omega
        · simp only [Value.slice.injEq] at e1
          exact ⟨g, e1.1⟩
      obtain ⟨g, rfl⟩ := hA
      obtain ⟨hb1, hb2, q1, q2, q3⟩ := (HLI7.out).one (c := cap) rfl hx
      simp only at o1 o2 q1 q2
      have hzero : (0 : Nat) + q * 2 = q * 2 := by omega
      rw [hzero] at q1
      obtain ⟨y, hy⟩ : ∃ y, a[q]? = some y := ⟨_, List.getElem?_eq_getElem o3⟩
      rw [List.getD_eq_getElem?_getD, hy, Option.getD_some] at o1
      have hyk := HK3.out q y hy
      have hq6 : q ≤ 60001 := by have := H61.out; omega
      by_cases hqK : q = K
      · have e4 : (N == (k : Int)) = true := by rw [o1, hyk.2 hqK]; simp
        subst hqK
        clear hx o1 o2 o3 q2 q3 hzero hy hyk
        go_wp2
        go_roundw
        case rel => exact ⟨q + 1, by omega, by go_num, by rw [if_pos (by omega)]; go_num, trivial⟩
        case measure => simp [intOf]; omega
      · have e4 : (N == (k : Int)) = false := beq_false_of_ne (by rw [o1]; intro h; exact hqK (hyk.1 (by omega)))
        have hif : (if K < q + 1 then 3 * (K + 1) else 0) = if K < q then 3 * (K + 1) else 0 := by
          by_cases h : K < q
          · rw [if_pos h, if_pos (by omega)]
          · rw [if_neg h, if_neg (by omega)]
        have HIF := Lib.hid hif
        clear hx o1 o2 o3 q2 q3 hzero hy hyk hif
        go_wp2
        go_roundw
        case rel => exact ⟨q + 1, by omega, by go_num, by rw [HIF.out], trivial⟩
        case measure => simp [intOf]; omega
    · obtain rfl : q = xs.length := by omega
      have hfin : (if K < xs.length then 3 * (K + 1) else 0) = ln := by rw [HK4.out, HLEN.out]
      rw [hfin]
      have e4 : (why == why) = true := by simp
      have e5 : ((ln : Int) == (ln : Int)) = true := by simp
      clear hfin
      go_wp2
      go_ret
      exact ⟨rfl, HB7.out⟩
theorem walk (s : ByteArray) (hs : s.size ≤ maxLen) (w : World) (hL : Rd5.LaidS w) :
    Calls Tryd.prog 5 #[.string s] w fun e w' => e = .returned (.bool true) ∧ Below w.heap.size w w' := by
  rcases h1 : splitV s.data.toList with ⟨a, m1, y1⟩
  rcases hx : Rd5.textE s.data.toList with ⟨k, why⟩ | p
  · by_cases hy : y1 = 0
    · by_cases hl : s.size ≤ 30000
      · exact walk_e s hs k why hx a m1 y1 h1 hy hl w hL
      · exact walk_b s hs k why hx a m1 y1 h1 hy (by omega) w hL
    · exact walk_a s hs k why hx a m1 y1 h1 hy w hL
  · have hy : y1 = 0 := by
      unfold Rd5.textE at hx
      rw [h1] at hx
      simp only at hx
      split at hx
      · cases hx
      · omega
    by_cases hl : s.size ≤ 30000
    · exact walk_d s hs p hx a m1 y1 h1 hy hl w hL
    · exact walk_c s hs p hx a m1 y1 h1 hy (by omega) w hL

abbrev laids {H : Type} : List (String × DataW H) := [("lateen/syntax.words", Rows.laid_lateen_syntax_words)]
theorem door_met (os : Os) (args : Array Value) : laidMetH Tryd.prog laids ((World.doorLaid Tryd.prog 400 os).forCall (fun _ _ => 0) ⟨#[], args, []⟩).memory :=
  laidMetH_of_parts3 (fuel := 8) (laidMet_of_run' 8 (by kernel_rfl) (by kernel_rfl)) (by kernel_rfl) (by kernel_rfl)

set_option maxRecDepth 100000 in
theorem lifted (os : Os) (started : os.Started) (H : Type) (enc : TypeId × Value → H) :
    ReturnsInHanded {} Tryd.checked os 5 .any (fun w args => (Rows.syntaxBlankSpec.pre enc Tryd.prog Tryd.f5 [] false w args ∧ laidMetH Tryd.prog laids w) ∧ sizedMet enc Tryd.prog Tryd.f5 (OpenSpec.ofChange Rows.syntaxBlankSpec) false w args)
      (Rows.syntaxBlankSpec.post enc Tryd.prog Tryd.f5 false true false false) := by
  refine returnsInHanded_of_change_and (C := Tryd.checked) (X := fun w _ => laidMetH Tryd.prog laids w) (fun _ _ _ hh h => h.of_heap hh) (by kernel_rfl) started (by kernel_rfl) Tryd.func5
    (ChangeSpec.witness_shaped (enc := enc) (C := Tryd.checked) (os := os) (X := fun w _ => laidMetH Tryd.prog laids w) false (World.doorLaid Tryd.prog 400 os) #[.string ⟨#[]⟩] 8 rfl (World.shaped_of_RefB (by kernel_rfl) (by kernel_rfl)) (by kernel_rfl) (by kernel_rfl) (by kernel_rfl) (door_met os _)) ?_
  intro W base args ds gs before hval0 hW _ _ hL0 _
  have hval : ∀ (j : Nat) t v, Tryd.f5.params[j]? = some t → args[j]? = some v → Value.okWide Tryd.prog W .any base t v := hval0
  have hW' := hW
  obtain ⟨p, q, hA0, hV, rfl, hfz, hnd⟩ := hW
  have hA : DataW.TrodAll enc Tryd.prog W 0 (fun _ => true) true Tryd.f5.params.toList args.toList ds p := hA0
  rw [Tryd.params5] at hA hval
  obtain ⟨v0, vs0, d0, ds0, p0, q0, hargs, rfl, rfl, h0, r0⟩ := trodAll_cons hA
  obtain ⟨rfl, rfl, rfl⟩ := trodAll_nil r0
  obtain rfl : args = #[v0] := by cases args; simp_all
  obtain ⟨rfl, rfl⟩ := trodVars_none hV
  obtain ⟨a0, rfl, rfl, rfl, w0⟩ := Go.ChangeMaps.open_string Tryd.underlying9 (hval 0 9 v0 rfl rfl) h0
  clear hA0 hval0
  simp only [List.append_nil] at hW'
  refine (walk a0 w0 W (Rd5.laid_swords hL0)).mono fun e W' ⟨he, hg⟩ => ?_
  subst he
  exact ⟨_, rfl, Shell.lawPost (by kernel_rfl) rfl (by kernel_rfl) rfl Tryd.underlying4 hW' rfl hg⟩

theorem row_holds : Rows.SyntaxBlankSaid :=
  OpenClaim.holds_of_wide 5 Tryd.f5 rfl rfl rfl rfl rfl rfl rfl ⟨rfl, rfl, rfl, rfl, rfl⟩ rfl rfl rfl rfl rfl (by kernel_rfl) Tryd.func5 (by kernel_rfl)
    (of_decide_eq_true (by kernel_rfl)) (by unfold Func.isWrapper; first | (rw [if_pos (by decide +kernel)]; kernel_rfl) | (rw [if_neg (by decide +kernel)]; exact ⟨rfl, rfl⟩))
    (fun os started H enc _ => lifted os started H enc)

/-- The statement. -/
theorem proved : Rows.SyntaxBlankCardSaid :=
  Claim7.holds_tied_plain_at .later [] [.data] true Rows.syntaxBlankCard.stood.harness true
    row_holds (fun _ h => by cases h) (by kernel_rfl) (fun _ h => by cases h) syntaxBlank_row_tie rfl ⟨rfl, rfl⟩ (by kernel_rfl) rfl
    (fun f fn hf hfn => by
      obtain rfl : f = 5 := Option.some.inj ((show Tryd.prog.funcNamed "lateen/lateenlaw05.SyntaxBlank" = some 5 by kernel_rfl).symm.trans hf) |>.symm
      obtain rfl : fn = Tryd.f5 := (Option.some.inj (Tryd.func5.symm.trans hfn)).symm
      exact ⟨by kernel_rfl, fun j t ht => by
        rw [Tryd.params5] at ht
        have hm : t ∈ [9] := by simpa using Array.mem_of_getElem? ht
        have hall : ([9].all fun u => !Tryd.prog.wantsStandIn u) = true := by kernel_rfl
        exact (show Tryd.prog.wantsStandIn t = false by simpa using List.all_eq_true.1 hall t hm)⟩)
    (by kernel_rfl)
end Go.Proofs.YtkfpcaganhmkcaaDoor.syntaxBlank
