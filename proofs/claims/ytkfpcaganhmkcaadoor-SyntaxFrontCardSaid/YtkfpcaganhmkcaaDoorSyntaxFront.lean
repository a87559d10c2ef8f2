/-
  what stands behind the line of a fault means nothing: cut there, or with other lines behind it, the same is told. No condition.
-/
import Derived.Test.YtkfpcaganhmkcaaDoorNums
import Derived.Test.YtkfpcaganhmkcaaDoorLinesUse
import Derived.Test.YtkfpcaganhmkcaaDoorRight5
import Derived.Test.YtkfpcaganhmkcaaDoorShell
import Derived.ProofKit
import Derived.OpenShut
import Derived.SizedLaws
import Derived.Test.YtkfpcaganhmkcaaDoorLaidS
import Derived.Test.YtkfpcaganhmkcaaDoorTie
import Derived.Test.YtkfpcaganhmkcaaDoorCards
import Derived.LaidMore
import Derived.Stop.Joined
import Derived.SevenTiedAt
namespace Go.Proofs.YtkfpcaganhmkcaaDoor.syntaxFront
open Go.ChangeShapes Go.WideShapes Go.ChangeAt Go.RowKit
open Api Mem
open LinesM hiding Wd
set_option maxRecDepth 100000 in
set_option maxHeartbeats 8000000 in
theorem walk_a (s t : ByteArray) (hs : s.size ≤ maxLen) (ht : t.size ≤ maxLen) (k : Nat) (why : Int) (hx : Rd5.textE s.data.toList = .error (k, why)) (a b : List Ln) (m1 m2 y1 y2 : Nat) (h1 : splitV s.data.toList = (a, m1, y1)) (h2 : splitV t.data.toList = (b, m2, y2)) (hk : k = 0) (w : World) (hL : Rd5.LaidS w) :
    Calls Tryd.prog 6 #[.string s, .string t] w fun e w' => e = .returned (.bool true) ∧ Below w.heap.size w w' := by
  have Q := Lib.hid (Rd5.pars_any s w hs hL)
  have Q1 := Lib.hid fun w => split_to s a m1 y1 h1 hs w
  have Q2 := Lib.hid fun w => split_to t b m2 y2 h2 ht w
  have HX := Lib.hid hx
  have HL := Lib.hid hL
  have e0 : (why == 0) = false := by
    have := Rd5.textE_errs hx
    simpa using this
  subst hk

  clear hx hL h1 h2
  go_enter Tryd.func6, Tryd.ntmps6
  go_wp2_with fail
  refine (Q.out).mono ?_; rintro e w1 hP
  obtain ⟨rfl, hb1⟩ := Rd5.parsP_err hP HX.out
  have HB1 := Lib.hid hb1
  clear hP hb1
  go_wp2_with fail
  refine (Q1.out _).mono ?_; rintro e w2 ⟨v1, xs, rfl, hxs, hxn, hown, hb2⟩
  have HB2 := Lib.hid (HB1.out.trans ((Rd5.z_below hb2).mono HB1.out.size))
  have HXS := Lib.hid hxs
  have HXN := Lib.hid hxn
  have HOW := Lib.hid hown
  clear hxs hxn hown hb2
  go_wp2_with fail
  refine (Q2.out _).mono ?_; rintro e w3 ⟨v2, zs, rfl, _, _, _, hb3⟩
  have HB3 := Lib.hid (HB2.out.trans (hb3.mono HB2.out.size))
  have HOW3 := Lib.hid (HOW.out.below hb3)
  clear hb3
  go_wp2_with fail
  refine (Rd5.awake_any _ (HL.out.below HB3.out (Nat.le_refl _))).mono ?_; rintro e w4 ⟨rfl, hb4⟩
  have HB4 := Lib.hid (HB3.out.trans (hb4.mono HB3.out.size))
  have HOW4 := Lib.hid (HOW3.out.below hb4)
  clear hb4 HOW3
  go_wp2_with fail
  refine (Rd5.awake_any _ (HL.out.below HB4.out (Nat.le_refl _))).mono ?_; rintro e w5 ⟨rfl, hb5⟩
  have HB5 := Lib.hid (HB4.out.trans (hb5.mono HB4.out.size))
  clear hb5
  go_wp2_with fail
  go_ret
  exact ⟨rfl, HB5.out⟩
set_option maxRecDepth 100000 in
set_option maxHeartbeats 8000000 in
theorem walk_b (s t : ByteArray) (hs : s.size ≤ maxLen) (ht : t.size ≤ maxLen) (k : Nat) (why : Int) (hx : Rd5.textE s.data.toList = .error (k, why)) (a b : List Ln) (m1 m2 y1 y2 : Nat) (h1 : splitV s.data.toList = (a, m1, y1)) (h2 : splitV t.data.toList = (b, m2, y2)) (hk : k ≠ 0) (hy : y1 ≠ 0) (w : World) (hL : Rd5.LaidS w) :
    Calls Tryd.prog 6 #[.string s, .string t] w fun e w' => e = .returned (.bool true) ∧ Below w.heap.size w w' := by
  have Q := Lib.hid (Rd5.pars_any s w hs hL)
  have Q1 := Lib.hid fun w => split_to s a m1 y1 h1 hs w
  have Q2 := Lib.hid fun w => split_to t b m2 y2 h2 ht w
  have HX := Lib.hid hx
  have HL := Lib.hid hL
  have e0 : (why == 0) = false := by
    have := Rd5.textE_errs hx
    simpa using this
  have e1 : ((k : Int) == 0) = false := beq_false_of_ne (by omega)
  have e2 : ((y1 : Int) != 0) = true := by simp; omega

  clear hx hL h1 h2
  go_enter Tryd.func6, Tryd.ntmps6
  go_wp2_with fail
  refine (Q.out).mono ?_; rintro e w1 hP
  obtain ⟨rfl, hb1⟩ := Rd5.parsP_err hP HX.out
  have HB1 := Lib.hid hb1
  clear hP hb1
  go_wp2_with fail
  refine (Q1.out _).mono ?_; rintro e w2 ⟨v1, xs, rfl, hxs, hxn, hown, hb2⟩
  have HB2 := Lib.hid (HB1.out.trans ((Rd5.z_below hb2).mono HB1.out.size))
  have HXS := Lib.hid hxs
  have HXN := Lib.hid hxn
  have HOW := Lib.hid hown
  clear hxs hxn hown hb2
  go_wp2_with fail
  refine (Q2.out _).mono ?_; rintro e w3 ⟨v2, zs, rfl, _, _, _, hb3⟩
  have HB3 := Lib.hid (HB2.out.trans (hb3.mono HB2.out.size))
  have HOW3 := Lib.hid (HOW.out.below hb3)
  clear hb3
  go_wp2_with fail
  refine (Rd5.awake_any _ (HL.out.below HB3.out (Nat.le_refl _))).mono ?_; rintro e w4 ⟨rfl, hb4⟩
  have HB4 := Lib.hid (HB3.out.trans (hb4.mono HB3.out.size))
  have HOW4 := Lib.hid (HOW3.out.below hb4)
  clear hb4 HOW3
  go_wp2_with fail
  refine (Rd5.awake_any _ (HL.out.below HB4.out (Nat.le_refl _))).mono ?_; rintro e w5 ⟨rfl, hb5⟩
  have HB5 := Lib.hid (HB4.out.trans (hb5.mono HB4.out.size))
  clear hb5
  go_wp2_with fail
  go_ret
  exact ⟨rfl, HB5.out⟩
set_option maxRecDepth 100000 in
set_option maxHeartbeats 8000000 in
theorem walk_c (s t : ByteArray) (hs : s.size ≤ maxLen) (ht : t.size ≤ maxLen) (k : Nat) (why : Int) (hx : Rd5.textE s.data.toList = .error (k, why)) (a b : List Ln) (m1 m2 y1 y2 : Nat) (h1 : splitV s.data.toList = (a, m1, y1)) (h2 : splitV t.data.toList = (b, m2, y2)) (hk : k ≠ 0) (hy : y1 = 0) (hz : y2 ≠ 0) (w : World) (hL : Rd5.LaidS w) :
    Calls Tryd.prog 6 #[.string s, .string t] w fun e w' => e = .returned (.bool true) ∧ Below w.heap.size w w' := by
  have Q := Lib.hid (Rd5.pars_any s w hs hL)
  have Q1 := Lib.hid fun w => split_to s a m1 y1 h1 hs w
  have Q2 := Lib.hid fun w => split_to t b m2 y2 h2 ht w
  have HX := Lib.hid hx
  have HL := Lib.hid hL
  have e0 : (why == 0) = false := by
    have := Rd5.textE_errs hx
    simpa using this
  have e1 : ((k : Int) == 0) = false := beq_false_of_ne (by omega)
  subst hy
  have e2 : ((y2 : Int) != 0) = true := by simp; omega

  clear hx hL h1 h2
  go_enter Tryd.func6, Tryd.ntmps6
  go_wp2_with fail
  refine (Q.out).mono ?_; rintro e w1 hP
  obtain ⟨rfl, hb1⟩ := Rd5.parsP_err hP HX.out
  have HB1 := Lib.hid hb1
  clear hP hb1
  go_wp2_with fail
  refine (Q1.out _).mono ?_; rintro e w2 ⟨v1, xs, rfl, hxs, hxn, hown, hb2⟩
  have HB2 := Lib.hid (HB1.out.trans ((Rd5.z_below hb2).mono HB1.out.size))
  have HXS := Lib.hid hxs
  have HXN := Lib.hid hxn
  have HOW := Lib.hid hown
  clear hxs hxn hown hb2
  go_wp2_with fail
  refine (Q2.out _).mono ?_; rintro e w3 ⟨v2, zs, rfl, _, _, _, hb3⟩
  have HB3 := Lib.hid (HB2.out.trans (hb3.mono HB2.out.size))
  have HOW3 := Lib.hid (HOW.out.below hb3)
  clear hb3
  go_wp2_with fail
  refine (Rd5.awake_any _ (HL.out.below HB3.out (Nat.le_refl _))).mono ?_; rintro e w4 ⟨rfl, hb4⟩
  have HB4 := Lib.hid (HB3.out.trans (hb4.mono HB3.out.size))
  have HOW4 := Lib.hid (HOW3.out.below hb4)
  clear hb4 HOW3
  go_wp2_with fail
  refine (Rd5.awake_any _ (HL.out.below HB4.out (Nat.le_refl _))).mono ?_; rintro e w5 ⟨rfl, hb5⟩
  have HB5 := Lib.hid (HB4.out.trans (hb5.mono HB4.out.size))
  clear hb5
  go_wp2_with fail
  go_ret
  exact ⟨rfl, HB5.out⟩
set_option maxRecDepth 100000 in
set_option maxHeartbeats 8000000 in
theorem walk_d (s t : ByteArray) (hs : s.size ≤ maxLen) (ht : t.size ≤ maxLen) (k : Nat) (why : Int) (hx : Rd5.textE s.data.toList = .error (k, why)) (a b : List Ln) (m1 m2 y1 y2 : Nat) (h1 : splitV s.data.toList = (a, m1, y1)) (h2 : splitV t.data.toList = (b, m2, y2)) (hk : k ≠ 0) (hy : y1 = 0) (hz : y2 = 0) (hl : 30000 < s.size) (w : World) (hL : Rd5.LaidS w) :
    Calls Tryd.prog 6 #[.string s, .string t] w fun e w' => e = .returned (.bool true) ∧ Below w.heap.size w w' := by
  have Q := Lib.hid (Rd5.pars_any s w hs hL)
  have Q1 := Lib.hid fun w => split_to s a m1 y1 h1 hs w
  have Q2 := Lib.hid fun w => split_to t b m2 y2 h2 ht w
  have HX := Lib.hid hx
  have HL := Lib.hid hL
  have e0 : (why == 0) = false := by
    have := Rd5.textE_errs hx
    simpa using this
  have e1 : ((k : Int) == 0) = false := beq_false_of_ne (by omega)
  subst hy
  subst hz
  have e2 : decide ((30000 : Int) < (s.size : Int)) = true := decide_eq_true (by omega)

  clear hx hL h1 h2
  go_enter Tryd.func6, Tryd.ntmps6
  go_wp2_with fail
  refine (Q.out).mono ?_; rintro e w1 hP
  obtain ⟨rfl, hb1⟩ := Rd5.parsP_err hP HX.out
  have HB1 := Lib.hid hb1
  clear hP hb1
  go_wp2_with fail
  refine (Q1.out _).mono ?_; rintro e w2 ⟨v1, xs, rfl, hxs, hxn, hown, hb2⟩
  have HB2 := Lib.hid (HB1.out.trans ((Rd5.z_below hb2).mono HB1.out.size))
  have HXS := Lib.hid hxs
  have HXN := Lib.hid hxn
  have HOW := Lib.hid hown
  clear hxs hxn hown hb2
  go_wp2_with fail
  refine (Q2.out _).mono ?_; rintro e w3 ⟨v2, zs, rfl, _, _, _, hb3⟩
  have HB3 := Lib.hid (HB2.out.trans (hb3.mono HB2.out.size))
  have HOW3 := Lib.hid (HOW.out.below hb3)
  clear hb3
  go_wp2_with fail
  refine (Rd5.awake_any _ (HL.out.below HB3.out (Nat.le_refl _))).mono ?_; rintro e w4 ⟨rfl, hb4⟩
  have HB4 := Lib.hid (HB3.out.trans (hb4.mono HB3.out.size))
  have HOW4 := Lib.hid (HOW3.out.below hb4)
  clear hb4 HOW3
  go_wp2_with fail
  refine (Rd5.awake_any _ (HL.out.below HB4.out (Nat.le_refl _))).mono ?_; rintro e w5 ⟨rfl, hb5⟩
  have HB5 := Lib.hid (HB4.out.trans (hb5.mono HB4.out.size))
  clear hb5
  go_wp2_with fail
  go_ret
  exact ⟨rfl, HB5.out⟩
set_option maxRecDepth 100000 in
set_option maxHeartbeats 8000000 in
theorem walk_e (s t : ByteArray) (hs : s.size ≤ maxLen) (ht : t.size ≤ maxLen) (k : Nat) (why : Int) (hx : Rd5.textE s.data.toList = .error (k, why)) (a b : List Ln) (m1 m2 y1 y2 : Nat) (h1 : splitV s.data.toList = (a, m1, y1)) (h2 : splitV t.data.toList = (b, m2, y2)) (hk : k ≠ 0) (hy : y1 = 0) (hz : y2 = 0) (hl : s.size ≤ 30000) (hm : 30000 < t.size) (w : World) (hL : Rd5.LaidS w) :
    Calls Tryd.prog 6 #[.string s, .string t] w fun e w' => e = .returned (.bool true) ∧ Below w.heap.size w w' := by
  have Q := Lib.hid (Rd5.pars_any s w hs hL)
  have Q1 := Lib.hid fun w => split_to s a m1 y1 h1 hs w
  have Q2 := Lib.hid fun w => split_to t b m2 y2 h2 ht w
  have HX := Lib.hid hx
  have HL := Lib.hid hL
  have e0 : (why == 0) = false := by
    have := Rd5.textE_errs hx
    simpa using this
  have e1 : ((k : Int) == 0) = false := beq_false_of_ne (by omega)
  subst hy
  subst hz
  have e2 : decide ((30000 : Int) < (s.size : Int)) = false := decide_eq_false (by omega)
  have e3 : decide ((30000 : Int) < (t.size : Int)) = true := decide_eq_true (by omega)

  clear hx hL h1 h2
  go_enter Tryd.func6, Tryd.ntmps6
  go_wp2_with fail
  refine (Q.out).mono ?_; rintro e w1 hP
  obtain ⟨rfl, hb1⟩ := Rd5.parsP_err hP HX.out
  have HB1 := Lib.hid hb1
  clear hP hb1
  go_wp2_with fail
  refine (Q1.out _).mono ?_; rintro e w2 ⟨v1, xs, rfl, hxs, hxn, hown, hb2⟩
  have HB2 := Lib.hid (HB1.out.trans ((Rd5.z_below hb2).mono HB1.out.size))
  have HXS := Lib.hid hxs
  have HXN := Lib.hid hxn
  have HOW := Lib.hid hown
  clear hxs hxn hown hb2
  go_wp2_with fail
  refine (Q2.out _).mono ?_; rintro e w3 ⟨v2, zs, rfl, _, _, _, hb3⟩
  have HB3 := Lib.hid (HB2.out.trans (hb3.mono HB2.out.size))
  have HOW3 := Lib.hid (HOW.out.below hb3)
  clear hb3
  go_wp2_with fail
  refine (Rd5.awake_any _ (HL.out.below HB3.out (Nat.le_refl _))).mono ?_; rintro e w4 ⟨rfl, hb4⟩
  have HB4 := Lib.hid (HB3.out.trans (hb4.mono HB3.out.size))
  have HOW4 := Lib.hid (HOW3.out.below hb4)
  clear hb4 HOW3
  go_wp2_with fail
  refine (Rd5.awake_any _ (HL.out.below HB4.out (Nat.le_refl _))).mono ?_; rintro e w5 ⟨rfl, hb5⟩
  have HB5 := Lib.hid (HB4.out.trans (hb5.mono HB4.out.size))
  clear hb5
  go_wp2_with fail
  go_ret
  exact ⟨rfl, HB5.out⟩
set_option maxRecDepth 100000 in
set_option maxHeartbeats 8000000 in
theorem walk_f (s t : ByteArray) (hs : s.size ≤ maxLen) (ht : t.size ≤ maxLen) (k : Nat) (why : Int) (hx : Rd5.textE s.data.toList = .error (k, why)) (a b : List Ln) (m1 m2 y1 y2 : Nat) (h1 : splitV s.data.toList = (a, m1, y1)) (h2 : splitV t.data.toList = (b, m2, y2)) (hk : k ≠ 0) (hy : y1 = 0) (hz : y2 = 0) (hl : s.size ≤ 30000) (hm : t.size ≤ 30000) (w : World) (hL : Rd5.LaidS w) :
    Calls Tryd.prog 6 #[.string s, .string t] w fun e w' => e = .returned (.bool true) ∧ Below w.heap.size w w' := by
  have Q := Lib.hid (Rd5.pars_any s w hs hL)
  have Q1 := Lib.hid fun w => split_to s a m1 y1 h1 hs w
  have Q2 := Lib.hid fun w => split_to t b m2 y2 h2 ht w
  have HX := Lib.hid hx
  have HL := Lib.hid hL
  have e0 : (why == 0) = false := by
    have := Rd5.textE_errs hx
    simpa using this
  have e1 : ((k : Int) == 0) = false := beq_false_of_ne (by omega)
  subst hy
  subst hz
  have e2 : decide ((30000 : Int) < (s.size : Int)) = false := decide_eq_false (by omega)
  have e3 : decide ((30000 : Int) < (t.size : Int)) = false := decide_eq_false (by omega)
  have hF := Rd5.front_same h1 h2 (by rw [size_list]; exact hl) (by rw [size_list]; exact hm) hx hk
  have hRise := ((split_props h1).1 rfl).2
  obtain ⟨K, hK, hkK, hT60, hT1, hT2⟩ := hF
  have HRI := Lib.hid hRise
  have HK := Lib.hid hK
  have HKK := Lib.hid hkK
  have H60 := Lib.hid hT60
  have HT1 := Lib.hid hT1
  have HT2 := Lib.hid hT2
  clear hRise hK hkK hT60 hT1 hT2

  clear hx hL h1 h2
  go_enter Tryd.func6, Tryd.ntmps6
  go_wp2_with fail
  refine (Q.out).mono ?_; rintro e w1 hP
  obtain ⟨rfl, hb1⟩ := Rd5.parsP_err hP HX.out
  have HB1 := Lib.hid hb1
  clear hP hb1
  go_wp2_with fail
  refine (Q1.out _).mono ?_; rintro e w2 ⟨v1, xs, rfl, hxs, hxn, hown, hb2⟩
  have HB2 := Lib.hid (HB1.out.trans ((Rd5.z_below hb2).mono HB1.out.size))
  have HXS := Lib.hid hxs
  have HXN := Lib.hid hxn
  have HOW := Lib.hid hown
  clear hxs hxn hown hb2
  go_wp2_with fail
  refine (Q2.out _).mono ?_; rintro e w3 ⟨v2, zs, rfl, _, _, _, hb3⟩
  have HB3 := Lib.hid (HB2.out.trans (hb3.mono HB2.out.size))
  have HOW3 := Lib.hid (HOW.out.below hb3)
  clear hb3
  go_wp2_with fail
  refine (Rd5.awake_any _ (HL.out.below HB3.out (Nat.le_refl _))).mono ?_; rintro e w4 ⟨rfl, hb4⟩
  have HB4 := Lib.hid (HB3.out.trans (hb4.mono HB3.out.size))
  have HOW4 := Lib.hid (HOW3.out.below hb4)
  clear hb4 HOW3
  go_wp2_with fail
  obtain ⟨A, cap, rfl, hc1, hc2⟩ := HOW4.out.form
  have HLEN := Lib.hid (of_lns HXS.out).1
  have HLI := Lib.hid (HOW4.out.lins (by have := HXN.out; omega))
  go_wp2_with fail
  go_loopw [14, 15, 16] (fun v13 v14 i wr => ∃ (q : Nat) (z : ByteArray), q ≤ K + 1 ∧ v13 = .string z ∧ v14 = .int .i64 q ∧ i = .int .i64 q ∧ Hid (z.data.toList = joinV ((a.take q).map fun x => x.2)) ∧ Hid (Below w4.heap.size w4 wr)) (fun _ _ i _ => K + 1 - (intOf i).toNat)
  case atStart => exact ⟨0, ⟨#[]⟩, Nat.zero_le _, rfl, rfl, rfl, Lib.hid (by simp [joinV]), Lib.hid (Below.refl _ _)⟩
  case round =>
  obtain ⟨q, z, hq, rfl, rfl, rfl, HZ, HBr⟩ := hrel
  have HBF := Lib.hid (HB4.out.trans (HBr.out.mono HB4.out.size))
  have hLS : Rd5.LaidS wr := HL.out.below HBF.out (Nat.le_refl _)
  have HLS := Lib.hid hLS
  clear hLS
  by_cases hqK : q ≤ K
  · have hlt : q < xs.length := by have := HK.out; have := HLEN.out; omega
    obtain ⟨⟨N, u, ws⟩, hx⟩ : ∃ x, xs[q]? = some x := ⟨_, List.getElem?_eq_getElem hlt⟩
    obtain ⟨o1, o2, o3⟩ := (of_lns HXS.out).2 q _ hx
    have hA : ∃ g, A = some ⟨g, 0, none⟩ := by
      rcases HOW4.out.1.2 with ⟨e1, e2⟩ | ⟨g, cap, cur, e1, _⟩
      · exfalso; omega
      · simp only [Value.slice.injEq] at e1
        exact ⟨g, e1.1⟩
    obtain ⟨g, rfl⟩ := hA
    obtain ⟨hb1, hb2, q1, q2, q3⟩ := (HLI.out.below HBr.out).one (c := cap - q) rfl hx
    simp only at o1 o2 q1 q2
    have e4 : decide ((k : Int) < N) = false := decide_eq_false (by
      obtain ⟨y, hy⟩ : ∃ y, a[q]? = some y := ⟨_, List.getElem?_eq_getElem o3⟩
      obtain ⟨y2, hy2⟩ : ∃ y, a[K]? = some y := ⟨_, List.getElem?_eq_getElem HK.out⟩
      have h3 := HKK.out
      rw [List.getD_eq_getElem?_getD, hy2, Option.getD_some] at h3
      rw [List.getD_eq_getElem?_getD, hy, Option.getD_some] at o1
      by_cases hqq : q = K
      · subst hqq
        rw [hy] at hy2
        injection hy2 with hy2
        subst hy2
        omega
      · have := Rd5.rise_lt HRI.out q K y y2 hy hy2 (by omega)
        omega)
    have hjl : joinV ((a.take (q + 1)).map fun x => x.2) = joinV ((a.take q).map fun x => x.2) ++ joinV (wordsOf [(N, u, ws)]) := by
      obtain ⟨y, hy⟩ : ∃ y, a[q]? = some y := ⟨_, List.getElem?_eq_getElem o3⟩
      rw [LinesM.take_next hy, List.map_append, joinV_append]
      rw [List.getD_eq_getElem?_getD, hy, Option.getD_some] at o2
      rw [o2]
      rfl
    have hj60 : (joinV ((a.take (q + 1)).map fun x => x.2)).length ≤ 60001 := by
      have h1 : (a.take (K + 1)).map (fun x => x.2) = ((a.take (q + 1)).map fun x => x.2) ++ (((a.take (K + 1)).drop (q + 1)).map fun x => x.2) := by
        rw [← List.map_append]
        congr 1
        have := List.take_append_drop (q + 1) (a.take (K + 1))
        rw [List.take_take, Nat.min_eq_left (by omega)] at this
        exact this.symm
      have h2 := H60.out
      rw [h1, joinV_append, List.length_append] at h2
      omega
    have hsum := congrArg List.length hjl
    rw [List.length_append, ← HZ.out, size_list] at hsum
    have QJ := Lib.hid (join_to _ _ _ _ wr q3 HBr.out.size (by omega))
    have HJL := Lib.hid hjl
    have HSUM := Lib.hid hsum
    have HJ6 := Lib.hid hj60
    have g1 : q + 1 ≤ xs.length := hlt
    have hzero : (0 : Nat) + q * 2 = q * 2 := by omega
    rw [hzero] at q1 QJ
    clear hx o1 o2 o3 q2 q3 hjl hsum hj60 hzero
    go_wp2_with fail
    refine (QJ.out).mono ?_; rintro e w5 ⟨sj, rfl, hsj, hb5⟩
    have hz2 : (z ++ sj).data.toList = joinV ((a.take (q + 1)).map fun x => x.2) := by rw [HJL.out, ← HZ.out, ← hsj]; simp [ByteArray.data_append]
    have g2 : ¬ 9223372036854775807 < z.size + sj.size := by
      have h1 := HSUM.out
      have h2 := HJ6.out
      rw [← hsj, size_list] at h1
      omega
    have HZ2 := Lib.hid hz2
    have HB5 := Lib.hid (HBr.out.trans (hb5.mono HBr.out.size))
    clear hz2 hb5 hsj
    go_wp2
    go_roundw
    case rel => exact ⟨q + 1, z ++ sj, by omega, rfl, by go_num, by go_num, HZ2, HB5⟩
    case measure => simp [intOf]; omega
  · obtain rfl : q = K + 1 := by omega
    have HTZ1 : Hid (Rd5.textE z.data.toList = .error (K + 1, why)) := Lib.hid (by rw [HZ.out]; exact HT1.out)
    have HTZ2 : Hid (Rd5.textE (z ++ t).data.toList = .error (K + 1, why)) := Lib.hid (by rw [show (z ++ t).data.toList = z.data.toList ++ t.data.toList by simp [ByteArray.data_append], HZ.out]; exact HT2.out)
    have hz60 : z.size ≤ 60001 := by
      have h2 := H60.out
      rw [← HZ.out, size_list] at h2
      exact h2
    have g2 : ¬ 9223372036854775807 < z.size + t.size := by omega
    have QP := Lib.hid fun w => Rd5.pars_any z w (by unfold maxLen; omega)
    have QP2 := Lib.hid fun w => Rd5.pars_any (z ++ t) w (by unfold maxLen; rw [ByteArray.size_append]; omega)
    have e4 : (why == why) = true := by simp
    have e5 : (((K + 1 : Nat) : Int) == ((K + 1 : Nat) : Int)) = true := by simp
    by_cases hend : K + 1 < xs.length
    · obtain ⟨⟨N, u, ws⟩, hx⟩ : ∃ x, xs[K + 1]? = some x := ⟨_, List.getElem?_eq_getElem hend⟩
      obtain ⟨o1, o2, o3⟩ := (of_lns HXS.out).2 _ _ hx
      have hA : ∃ g, A = some ⟨g, 0, none⟩ := by
        rcases HOW4.out.1.2 with ⟨e1, e2⟩ | ⟨g, cap, cur, e1, _⟩
        · exfalso; omega
        · simp only [Value.slice.injEq] at e1
          exact ⟨g, e1.1⟩
      obtain ⟨g, rfl⟩ := hA
      obtain ⟨hb1, hb2, q1, q2, q3⟩ := (HLI.out.below HBr.out).one (c := cap) rfl hx
      simp only at o1 o2 q1 q2
      have e6 : decide ((k : Int) < N) = true := decide_eq_true (by
        obtain ⟨y, hy⟩ : ∃ y, a[K + 1]? = some y := ⟨_, List.getElem?_eq_getElem o3⟩
        obtain ⟨y2, hy2⟩ : ∃ y, a[K]? = some y := ⟨_, List.getElem?_eq_getElem HK.out⟩
        have h3 := HKK.out
        rw [List.getD_eq_getElem?_getD, hy2, Option.getD_some] at h3
        rw [List.getD_eq_getElem?_getD, hy, Option.getD_some] at o1
        have := Rd5.rise_lt HRI.out K (K + 1) y2 y hy2 hy (by omega)
        omega)
      have hzero : (0 : Nat) + (K + 1) * 2 = (K + 1) * 2 := by omega
      rw [hzero] at q1
      clear hx o1 o2 o3 q2 q3 hzero
      go_wp2_with fail
      refine (QP.out _ HLS.out).mono ?_; rintro e w6 hP
      obtain ⟨rfl, hb6⟩ := Rd5.parsP_err hP HTZ1.out
      have HB6 := Lib.hid (HBF.out.trans (hb6.mono HBF.out.size))
      clear hP hb6
      go_wp2_with fail
      refine (QP2.out _ ((HL.out.below HB6.out (Nat.le_refl _)).below ((Below.refl _ _).alloc (Nat.le_refl _) _) (Nat.le_refl _))).mono ?_; rintro e w7 hP
      obtain ⟨rfl, hb7⟩ := Rd5.parsP_err hP HTZ2.out
      have HB7 := Lib.hid (HB6.out.trans ((Rd5.z_below hb7).mono HB6.out.size))
      clear hP hb7
      go_wp2_with fail
      go_ret
      exact ⟨rfl, HB7.out.alloc HB7.out.size _⟩
    · go_wp2_with fail
      refine (QP.out _ HLS.out).mono ?_; rintro e w6 hP
      obtain ⟨rfl, hb6⟩ := Rd5.parsP_err hP HTZ1.out
      have HB6 := Lib.hid (HBF.out.trans (hb6.mono HBF.out.size))
      clear hP hb6
      go_wp2_with fail
      refine (QP2.out _ ((HL.out.below HB6.out (Nat.le_refl _)).below ((Below.refl _ _).alloc (Nat.le_refl _) _) (Nat.le_refl _))).mono ?_; rintro e w7 hP
      obtain ⟨rfl, hb7⟩ := Rd5.parsP_err hP HTZ2.out
      have HB7 := Lib.hid (HB6.out.trans ((Rd5.z_below hb7).mono HB6.out.size))
      clear hP hb7
      go_wp2_with fail
      go_ret
      exact ⟨rfl, HB7.out.alloc HB7.out.size _⟩
set_option maxRecDepth 100000 in
set_option maxHeartbeats 8000000 in
theorem walk_g (s t : ByteArray) (hs : s.size ≤ maxLen) (ht : t.size ≤ maxLen) (p : Prog) (hx : Rd5.textE s.data.toList = .ok p) (a b : List Ln) (m1 m2 y1 y2 : Nat) (h1 : splitV s.data.toList = (a, m1, y1)) (h2 : splitV t.data.toList = (b, m2, y2))  (w : World) (hL : Rd5.LaidS w) :
    Calls Tryd.prog 6 #[.string s, .string t] w fun e w' => e = .returned (.bool true) ∧ Below w.heap.size w w' := by
  have Q := Lib.hid (Rd5.pars_any s w hs hL)
  have Q1 := Lib.hid fun w => split_to s a m1 y1 h1 hs w
  have Q2 := Lib.hid fun w => split_to t b m2 y2 h2 ht w
  have HX := Lib.hid hx
  have HL := Lib.hid hL

  clear hx hL h1 h2
  go_enter Tryd.func6, Tryd.ntmps6
  go_wp2_with fail
  refine (Q.out).mono ?_; rintro e w1 hP
  obtain ⟨cs, rfl, hpc, hb1⟩ := Rd5.parsP_ok hP HX.out
  obtain ⟨u1, u2, u3, u4, rfl, j1, j2, j3, j4⟩ := hpc
  obtain ⟨A1, c1, rfl⟩ := j1.form
  obtain ⟨A2, c2, rfl⟩ := j2.form
  obtain ⟨A3, c3, rfl⟩ := j3.form
  obtain ⟨A4, c4, rfl⟩ := j4.form
  clear j1 j2 j3 j4
  have HB1 := Lib.hid hb1
  clear hP hb1
  go_wp2_with fail
  refine (Q1.out _).mono ?_; rintro e w2 ⟨v1, xs, rfl, hxs, hxn, hown, hb2⟩
  have HB2 := Lib.hid (HB1.out.trans ((Rd5.z_below hb2).mono HB1.out.size))
  have HXS := Lib.hid hxs
  have HXN := Lib.hid hxn
  have HOW := Lib.hid hown
  clear hxs hxn hown hb2
  go_wp2_with fail
  refine (Q2.out _).mono ?_; rintro e w3 ⟨v2, zs, rfl, _, _, _, hb3⟩
  have HB3 := Lib.hid (HB2.out.trans (hb3.mono HB2.out.size))
  have HOW3 := Lib.hid (HOW.out.below hb3)
  clear hb3
  go_wp2_with fail
  refine (Rd5.awake_any _ (HL.out.below HB3.out (Nat.le_refl _))).mono ?_; rintro e w4 ⟨rfl, hb4⟩
  have HB4 := Lib.hid (HB3.out.trans (hb4.mono HB3.out.size))
  have HOW4 := Lib.hid (HOW3.out.below hb4)
  clear hb4 HOW3
  go_wp2_with fail
  refine (Rd5.awake_any _ (HL.out.below HB4.out (Nat.le_refl _))).mono ?_; rintro e w5 ⟨rfl, hb5⟩
  have HB5 := Lib.hid (HB4.out.trans (hb5.mono HB4.out.size))
  clear hb5
  go_wp2_with fail
  go_ret
  exact ⟨rfl, HB5.out⟩
theorem walk (s t : ByteArray) (hs : s.size ≤ maxLen) (ht : t.size ≤ maxLen) (w : World) (hL : Rd5.LaidS w) :
    Calls Tryd.prog 6 #[.string s, .string t] w fun e w' => e = .returned (.bool true) ∧ Below w.heap.size w w' := by
  rcases h1 : splitV s.data.toList with ⟨a, m1, y1⟩
  rcases h2 : splitV t.data.toList with ⟨b, m2, y2⟩
  rcases hx : Rd5.textE s.data.toList with ⟨k, why⟩ | p
  · by_cases hk : k = 0
    · exact walk_a s t hs ht k why hx a b m1 m2 y1 y2 h1 h2 hk w hL
    by_cases hy : y1 = 0
    · by_cases hz : y2 = 0
      · by_cases hl : s.size ≤ 30000
        · by_cases hm : t.size ≤ 30000
          · exact walk_f s t hs ht k why hx a b m1 m2 y1 y2 h1 h2 hk hy hz hl hm w hL
          · exact walk_e s t hs ht k why hx a b m1 m2 y1 y2 h1 h2 hk hy hz hl (by omega) w hL
        · exact walk_d s t hs ht k why hx a b m1 m2 y1 y2 h1 h2 hk hy hz (by omega) w hL
      · exact walk_c s t hs ht k why hx a b m1 m2 y1 y2 h1 h2 hk hy hz w hL
    · exact walk_b s t hs ht k why hx a b m1 m2 y1 y2 h1 h2 hk hy w hL
  · exact walk_g s t hs ht p hx a b m1 m2 y1 y2 h1 h2 w hL

abbrev laids {H : Type} : List (String × DataW H) := [("lateen/syntax.words", Rows.laid_lateen_syntax_words)]
theorem door_met (os : Os) (args : Array Value) : laidMetH Tryd.prog laids ((World.doorLaid Tryd.prog 400 os).forCall (fun _ _ => 0) ⟨#[], args, []⟩).memory :=
  laidMetH_of_parts3 (fuel := 8) (laidMet_of_run' 8 (by kernel_rfl) (by kernel_rfl)) (by kernel_rfl) (by kernel_rfl)

set_option maxRecDepth 100000 in
theorem lifted (os : Os) (started : os.Started) (H : Type) (enc : TypeId × Value → H) :
    ReturnsInHanded {} Tryd.checked os 6 .any (fun w args => (Rows.syntaxFrontSpec.pre enc Tryd.prog Tryd.f6 [] false w args ∧ laidMetH Tryd.prog laids w) ∧ sizedMet enc Tryd.prog Tryd.f6 (OpenSpec.ofChange Rows.syntaxFrontSpec) false w args)
      (Rows.syntaxFrontSpec.post enc Tryd.prog Tryd.f6 false true false false) := by
  refine returnsInHanded_of_change_and (C := Tryd.checked) (X := fun w _ => laidMetH Tryd.prog laids w) (fun _ _ _ hh h => h.of_heap hh) (by kernel_rfl) started (by kernel_rfl) Tryd.func6
    (ChangeSpec.witness_shaped (enc := enc) (C := Tryd.checked) (os := os) (X := fun w _ => laidMetH Tryd.prog laids w) false (World.doorLaid Tryd.prog 400 os) #[.string ⟨#[]⟩, .string ⟨#[]⟩] 8 rfl (World.shaped_of_RefB (by kernel_rfl) (by kernel_rfl)) (by kernel_rfl) (by kernel_rfl) (by kernel_rfl) (door_met os _)) ?_
  intro W base args ds gs before hval0 hW _ _ hL0 _
  have hval : ∀ (j : Nat) t v, Tryd.f6.params[j]? = some t → args[j]? = some v → Value.okWide Tryd.prog W .any base t v := hval0
  have hW' := hW
  obtain ⟨p, q, hA0, hV, rfl, hfz, hnd⟩ := hW
  have hA : DataW.TrodAll enc Tryd.prog W 0 (fun _ => true) true Tryd.f6.params.toList args.toList ds p := hA0
  rw [Tryd.params6] at hA hval
  obtain ⟨v0, vs0, d0, ds0, p0, q0, hargs, rfl, rfl, h0, r0⟩ := trodAll_cons hA
  obtain ⟨v1, vs1, d1, ds1, p1, q1, rfl, rfl, rfl, h1, r1⟩ := trodAll_cons r0
  obtain ⟨rfl, rfl, rfl⟩ := trodAll_nil r1
  obtain rfl : args = #[v0, v1] := by cases args; simp_all
  obtain ⟨rfl, rfl⟩ := trodVars_none hV
  obtain ⟨a0, rfl, rfl, rfl, w0⟩ := Go.ChangeMaps.open_string Tryd.underlying9 (hval 0 9 v0 rfl rfl) h0
  obtain ⟨a1, rfl, rfl, rfl, w1⟩ := Go.ChangeMaps.open_string Tryd.underlying9 (hval 1 9 v1 rfl rfl) h1
  clear hA0 hval0
  simp only [List.append_nil] at hW'
  refine (walk a0 a1 w0 w1 W (Rd5.laid_swords hL0)).mono fun e W' ⟨he, hg⟩ => ?_
  subst he
  exact ⟨_, rfl, Shell.lawPost (by kernel_rfl) rfl (by kernel_rfl) rfl Tryd.underlying4 hW' rfl hg⟩

theorem row_holds : Rows.SyntaxFrontSaid :=
  OpenClaim.holds_of_wide 6 Tryd.f6 rfl rfl rfl rfl rfl rfl rfl ⟨rfl, rfl, rfl, rfl, rfl⟩ rfl rfl rfl rfl rfl (by kernel_rfl) Tryd.func6 (by kernel_rfl)
    (of_decide_eq_true (by kernel_rfl)) (by unfold Func.isWrapper; first | (rw [if_pos (by decide +kernel)]; kernel_rfl) | (rw [if_neg (by decide +kernel)]; exact ⟨rfl, rfl⟩))
    (fun os started H enc _ => lifted os started H enc)

/-- The statement. -/
theorem proved : Rows.SyntaxFrontCardSaid :=
  Claim7.holds_tied_plain_at .later [] [.data] true Rows.syntaxFrontCard.stood.harness true
    row_holds (fun _ h => by cases h) (by kernel_rfl) (fun _ h => by cases h) syntaxFront_row_tie rfl ⟨rfl, rfl⟩ (by kernel_rfl) rfl
    (fun f fn hf hfn => by
      obtain rfl : f = 6 := Option.some.inj ((show Tryd.prog.funcNamed "lateen/lateenlaw05.SyntaxFront" = some 6 by kernel_rfl).symm.trans hf) |>.symm
      obtain rfl : fn = Tryd.f6 := (Option.some.inj (Tryd.func6.symm.trans hfn)).symm
      exact ⟨by kernel_rfl, fun j t ht => by
        rw [Tryd.params6] at ht
        have hm : t ∈ [9, 9] := by simpa using Array.mem_of_getElem? ht
        have hall : ([9, 9].all fun u => !Tryd.prog.wantsStandIn u) = true := by kernel_rfl
        exact (show Tryd.prog.wantsStandIn t = false by simpa using List.all_eq_true.1 hall t hm)⟩)
    (by kernel_rfl)
end Go.Proofs.YtkfpcaganhmkcaaDoor.syntaxFront
