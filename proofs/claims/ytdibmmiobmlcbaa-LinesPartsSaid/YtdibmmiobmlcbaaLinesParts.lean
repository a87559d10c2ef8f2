/-
  The lines of a text behind a line feed are those of what is ahead of it, and those of what is behind, further on: the statement LinesParts. No condition.
-/
import Derived.Test.YtdibmmiobmlcbaaLaw04
import Derived.Test.YtdibmmiobmlcbaaLinesLawMath
import Derived.Test.YtdibmmiobmlcbaaShell
import Derived.ProofKit
import Derived.OpenShut
import Derived.SizedLaws
import Derived.IntWalk
namespace Go.Proofs.Ytdibmmiobmlcbaa.linesParts
open Go.ChangeShapes Go.WideShapes Go.ChangeAt Go.RowKit
open LinesM Mem
theorem feeds_snoc (s : ByteArray) (k : Nat) (h : k < s.size) : feeds (s.data.toList.take (k + 1)) = feeds (s.data.toList.take k) + if s[k] = 10 then 1 else 0 := by
  have e : s.data.toList.take (k + 1) = s.data.toList.take k ++ [s[k]] := by rw [List.take_succ_eq_append_getElem (by simpa using h)]; rfl
  rw [e]
  unfold feeds
  rw [List.filter_append]
  by_cases hc : s[k] = 10 <;> simp [hc]
theorem feed_yes {c : UInt8} (h : ((c.toNat : Int) == 10) = true) : c = 10 := by
  have : c.toNat = 10 := by simp only [beq_iff_eq] at h; omega
  rw [← UInt8.toNat_inj]; exact this
theorem feed_no {c : UInt8} (h : ((c.toNat : Int) == 10) = false) : c ≠ 10 := by intro e; subst e; simp at h

set_option maxRecDepth 100000 in
set_option maxHeartbeats 8000000 in
theorem walk_a (s t : ByteArray) (hs : s.size ≤ 140737488351232) (ht : t.size ≤ 140737488351232) (a b : List Ln) (m1 m2 y1 y2 : Nat) (h1 : splitV s.data.toList = (a, m1, y1)) (h2 : splitV t.data.toList = (b, m2, y2)) (hy1 : y1 ≠ 0) (w : World) :
    Calls Try.prog 7 #[.string s, .string t] w fun e w' => e = .returned (.bool true) ∧ Below w.heap.size w w' := by
  have Q1 := Lib.hid fun w => split_at s a m1 y1 m1 y1 rfl rfl h1 (by unfold maxLen; omega) w
  have Q2 := Lib.hid fun w => split_at t b m2 y2 m2 y2 rfl rfl h2 (by unfold maxLen; omega) w
  have ey11 : ((y1 : Int) != 0) = true := by simp; omega
  have ey12 : ((y1 : Int) == 0) = false := by simp; omega
  clear hy1
  clear h1 h2
  go_enter Try.func7, Try.ntmps7
  go_wp2_with fail
  refine (Q1.out _).mono ?_; rintro e w1 ⟨v1, xs, rfl, hx, hn, ho1, hb1⟩
  have HX := Lib.hid hx
  have HO1 := Lib.hid ho1
  have HB1 := Lib.hid hb1
  clear hx ho1 hb1
  go_wp2_with fail
  refine (Q2.out _).mono ?_; rintro e w2 ⟨v2, zs, rfl, hz, hn2, ho2, hb2⟩
  have HZ := Lib.hid hz
  have HL1 := Lib.hid ((HO1.out.below hb2).lins (by omega))
  have HL2 := Lib.hid (ho2.lins (by omega))
  have HB2 := Lib.hid (HB1.out.trans (hb2.mono HB1.out.size))
  have HS12 := Lib.hid (Nat.le_trans HB1.out.size hb2.size)
  clear hz ho2 hb2 HO1
  go_wp2_with fail
  refine (awake_any _).mono ?_; rintro e w3 ⟨rfl, hb3⟩
  have HB3 := Lib.hid (HB2.out.trans (hb3.mono HB2.out.size))
  clear hb3
  go_wp2_with fail
  refine (awake_any _).mono ?_; rintro e w4 ⟨rfl, hb4⟩
  have HB4 := Lib.hid (HB3.out.trans (hb4.mono HB3.out.size))
  clear hb4
  go_wp2_with fail
  go_ret
  exact ⟨rfl, HB4.out⟩

set_option maxRecDepth 100000 in
set_option maxHeartbeats 8000000 in
theorem walk_b (s t : ByteArray) (hs : s.size ≤ 140737488351232) (ht : t.size ≤ 140737488351232) (a b : List Ln) (m1 m2 y1 y2 : Nat) (h1 : splitV s.data.toList = (a, m1, y1)) (h2 : splitV t.data.toList = (b, m2, y2)) (hy1 : y1 = 0) (hy2 : y2 ≠ 0) (w : World) :
    Calls Try.prog 7 #[.string s, .string t] w fun e w' => e = .returned (.bool true) ∧ Below w.heap.size w w' := by
  have Q1 := Lib.hid fun w => split_at s a m1 y1 m1 y1 rfl rfl h1 (by unfold maxLen; omega) w
  have Q2 := Lib.hid fun w => split_at t b m2 y2 m2 y2 rfl rfl h2 (by unfold maxLen; omega) w
  subst hy1
  have ey21 : ((y2 : Int) != 0) = true := by simp; omega
  have ey22 : ((y2 : Int) == 0) = false := by simp; omega
  clear hy2
  clear h1 h2
  go_enter Try.func7, Try.ntmps7
  go_wp2_with fail
  refine (Q1.out _).mono ?_; rintro e w1 ⟨v1, xs, rfl, hx, hn, ho1, hb1⟩
  have HX := Lib.hid hx
  have HO1 := Lib.hid ho1
  have HB1 := Lib.hid hb1
  clear hx ho1 hb1
  go_wp2_with fail
  refine (Q2.out _).mono ?_; rintro e w2 ⟨v2, zs, rfl, hz, hn2, ho2, hb2⟩
  have HZ := Lib.hid hz
  have HL1 := Lib.hid ((HO1.out.below hb2).lins (by omega))
  have HL2 := Lib.hid (ho2.lins (by omega))
  have HB2 := Lib.hid (HB1.out.trans (hb2.mono HB1.out.size))
  have HS12 := Lib.hid (Nat.le_trans HB1.out.size hb2.size)
  clear hz ho2 hb2 HO1
  go_wp2_with fail
  refine (awake_any _).mono ?_; rintro e w3 ⟨rfl, hb3⟩
  have HB3 := Lib.hid (HB2.out.trans (hb3.mono HB2.out.size))
  clear hb3
  go_wp2_with fail
  refine (awake_any _).mono ?_; rintro e w4 ⟨rfl, hb4⟩
  have HB4 := Lib.hid (HB3.out.trans (hb4.mono HB3.out.size))
  clear hb4
  go_wp2_with fail
  go_ret
  exact ⟨rfl, HB4.out⟩

set_option maxRecDepth 100000 in
set_option maxHeartbeats 8000000 in
theorem walk_c (s t : ByteArray) (hs : s.size ≤ 140737488351232) (ht : t.size ≤ 140737488351232) (a b : List Ln) (m1 m2 y1 y2 : Nat) (h1 : splitV s.data.toList = (a, m1, y1)) (h2 : splitV t.data.toList = (b, m2, y2)) (hy1 : y1 = 0) (hy2 : y2 = 0) (hl : 30000 < s.size) (w : World) :
    Calls Try.prog 7 #[.string s, .string t] w fun e w' => e = .returned (.bool true) ∧ Below w.heap.size w w' := by
  have Q1 := Lib.hid fun w => split_at s a m1 y1 m1 y1 rfl rfl h1 (by unfold maxLen; omega) w
  have Q2 := Lib.hid fun w => split_at t b m2 y2 m2 y2 rfl rfl h2 (by unfold maxLen; omega) w
  subst hy1
  subst hy2
  have g1 : decide ((30000 : Int) < (s.size : Int)) = true := decide_eq_true (by omega)
  clear h1 h2
  go_enter Try.func7, Try.ntmps7
  go_wp2_with fail
  refine (Q1.out _).mono ?_; rintro e w1 ⟨v1, xs, rfl, hx, hn, ho1, hb1⟩
  have HX := Lib.hid hx
  have HO1 := Lib.hid ho1
  have HB1 := Lib.hid hb1
  clear hx ho1 hb1
  go_wp2_with fail
  refine (Q2.out _).mono ?_; rintro e w2 ⟨v2, zs, rfl, hz, hn2, ho2, hb2⟩
  have HZ := Lib.hid hz
  have HL1 := Lib.hid ((HO1.out.below hb2).lins (by omega))
  have HL2 := Lib.hid (ho2.lins (by omega))
  have HB2 := Lib.hid (HB1.out.trans (hb2.mono HB1.out.size))
  have HS12 := Lib.hid (Nat.le_trans HB1.out.size hb2.size)
  clear hz ho2 hb2 HO1
  go_wp2_with fail
  refine (awake_any _).mono ?_; rintro e w3 ⟨rfl, hb3⟩
  have HB3 := Lib.hid (HB2.out.trans (hb3.mono HB2.out.size))
  clear hb3
  go_wp2_with fail
  refine (awake_any _).mono ?_; rintro e w4 ⟨rfl, hb4⟩
  have HB4 := Lib.hid (HB3.out.trans (hb4.mono HB3.out.size))
  clear hb4
  go_wp2_with fail
  go_ret
  exact ⟨rfl, HB4.out⟩

set_option maxRecDepth 100000 in
set_option maxHeartbeats 8000000 in
theorem walk_d (s t : ByteArray) (hs : s.size ≤ 140737488351232) (ht : t.size ≤ 140737488351232) (a b : List Ln) (m1 m2 y1 y2 : Nat) (h1 : splitV s.data.toList = (a, m1, y1)) (h2 : splitV t.data.toList = (b, m2, y2)) (hy1 : y1 = 0) (hy2 : y2 = 0) (hl : s.size ≤ 30000) (hk : 30000 < t.size) (w : World) :
    Calls Try.prog 7 #[.string s, .string t] w fun e w' => e = .returned (.bool true) ∧ Below w.heap.size w w' := by
  have Q1 := Lib.hid fun w => split_at s a m1 y1 m1 y1 rfl rfl h1 (by unfold maxLen; omega) w
  have Q2 := Lib.hid fun w => split_at t b m2 y2 m2 y2 rfl rfl h2 (by unfold maxLen; omega) w
  subst hy1
  subst hy2
  have g1 : decide ((30000 : Int) < (s.size : Int)) = false := decide_eq_false (by omega)
  have g2 : decide ((30000 : Int) < (t.size : Int)) = true := decide_eq_true (by omega)
  clear h1 h2
  go_enter Try.func7, Try.ntmps7
  go_wp2_with fail
  refine (Q1.out _).mono ?_; rintro e w1 ⟨v1, xs, rfl, hx, hn, ho1, hb1⟩
  have HX := Lib.hid hx
  have HO1 := Lib.hid ho1
  have HB1 := Lib.hid hb1
  clear hx ho1 hb1
  go_wp2_with fail
  refine (Q2.out _).mono ?_; rintro e w2 ⟨v2, zs, rfl, hz, hn2, ho2, hb2⟩
  have HZ := Lib.hid hz
  have HL1 := Lib.hid ((HO1.out.below hb2).lins (by omega))
  have HL2 := Lib.hid (ho2.lins (by omega))
  have HB2 := Lib.hid (HB1.out.trans (hb2.mono HB1.out.size))
  have HS12 := Lib.hid (Nat.le_trans HB1.out.size hb2.size)
  clear hz ho2 hb2 HO1
  go_wp2_with fail
  refine (awake_any _).mono ?_; rintro e w3 ⟨rfl, hb3⟩
  have HB3 := Lib.hid (HB2.out.trans (hb3.mono HB2.out.size))
  clear hb3
  go_wp2_with fail
  refine (awake_any _).mono ?_; rintro e w4 ⟨rfl, hb4⟩
  have HB4 := Lib.hid (HB3.out.trans (hb4.mono HB3.out.size))
  clear hb4
  go_wp2_with fail
  go_ret
  exact ⟨rfl, HB4.out⟩

/-- M further on. -/
def later (M : Nat) (zs : List ML) : List ML := zs.map fun z => (z.1 + (M : Int), z.2)
theorem later_lines {M : Nat} {zs : List ML} {b : List Ln} (h : zs.map line = lns b) : (later M zs).map line = lns (sh M b) := by
  have e : (later M zs).map line = (zs.map line).map fun x => (x.1 + (M : Int), x.2) := by unfold later; rw [List.map_map, List.map_map]; rfl
  rw [e, h]
  unfold lns sh
  rw [List.map_map, List.map_map]
  refine List.map_congr_left fun x _ => ?_
  simp
theorem later_next {M : Nat} {zs : List ML} {k : Nat} {z : ML} (h : zs[k]? = some z) : cells (later M (zs.take (k + 1))) = cells (later M (zs.take k)) ++ [.int .i64 (z.1 + (M : Int)), z.2.1] := by
  rw [take_next h]
  unfold later
  rw [List.map_append, cells_append]; rfl
theorem line_le {zs : List ML} {b : List Ln} {k : Nat} {z : ML} {hi : Nat} (h : zs.map line = lns b) (hr : Rise 1 hi b) (hz : zs[k]? = some z) : 1 ≤ z.1 ∧ z.1 ≤ (hi : Int) := by
  have h1 : (zs.map line)[k]? = some (line z) := by rw [List.getElem?_map, hz]; rfl
  rw [h] at h1
  unfold lns at h1
  rw [List.getElem?_map] at h1
  obtain ⟨x, hx, e⟩ := Option.map_eq_some_iff.1 h1
  have hm := List.mem_of_getElem? hx
  have : ∀ (L : List Ln) (lo : Nat), Rise lo hi L → 1 ≤ lo → ∀ y ∈ L, 1 ≤ y.1 ∧ y.1 ≤ hi := by
    intro L
    induction L with
    | nil => intro lo _ _ y hy; cases hy
    | cons a L ih =>
      intro lo ⟨r1, r2, _, _, r5⟩ hlo y hy
      rcases List.mem_cons.1 hy with rfl | hy
      · exact ⟨by omega, r2⟩
      · exact ih (a.1 + 1) r5 (by omega) y hy
  have h2 := this b 1 hr (Nat.le_refl _) x hm
  have h3 := congrArg Prod.fst e
  simp only [line] at h3
  omega
theorem both_text (s t : ByteArray) : (s ++ ⟨#[10]⟩ ++ t : ByteArray).data.toList = s.data.toList ++ 10 :: t.data.toList := by
  simp [ByteArray.data_append]

set_option maxRecDepth 100000 in
set_option maxHeartbeats 16000000 in
theorem walk_e (s t : ByteArray) (hs : s.size ≤ 30000) (ht : t.size ≤ 30000) (a b : List Ln) (m1 m2 : Nat) (h1 : splitV s.data.toList = (a, m1, 0)) (h2 : splitV t.data.toList = (b, m2, 0)) (w : World) :
    Calls Try.prog 7 #[.string s, .string t] w fun e w' => e = .returned (.bool true) ∧ Below w.heap.size w w' := by
  obtain ⟨i0, hi, hz0, hz1, hz2⟩ := info_parts rl_info
  have Hi := Lib.hid hi
  have Hz0 := Lib.hid hz0
  have Hz1 := Lib.hid hz1
  have Hz2 := Lib.hid hz2
  clear hi hz0 hz1 hz2
  have Q1 := Lib.hid fun w => split_at s a m1 0 m1 0 rfl rfl h1 (by unfold maxLen; omega) w
  have Q2 := Lib.hid fun w => split_at t b m2 0 m2 0 rfl rfl h2 (by unfold maxLen; omega) w
  have hp := parts h1 h2 (by rw [size_list, size_list]; omega)
  rw [← both_text] at hp
  have hbs : (s ++ ⟨#[10]⟩ ++ t : ByteArray).size = s.size + 1 + t.size := by rw [← size_list, both_text]; simp only [List.length_append, List.length_cons, size_list]; omega
  have Q3 := Lib.hid fun w => split_at (s ++ ⟨#[10]⟩ ++ t) _ 0 0 0 0 rfl rfl hp (by rw [hbs]; unfold maxLen; omega) w
  have HR2 := Lib.hid ((split_props h2).1 rfl).2
  have hf := feeds_le t.data.toList
  rw [size_list] at hf
  have HF := Lib.hid hf
  have g1 : decide ((30000 : Int) < (s.size : Int)) = false := decide_eq_false (by omega)
  have g2 : decide ((30000 : Int) < (t.size : Int)) = false := decide_eq_false (by omega)
  have g3 : ¬ 9223372036854775807 < s.size + 1 := by omega
  have g4 : ¬ 9223372036854775807 < s.size + 1 + t.size := by omega
  have HBS := Lib.hid hbs
  clear h1 h2 hp hf hbs
  go_enter Try.func7, Try.ntmps7
  go_wp2_with fail
  refine (Q1.out _).mono ?_; rintro e w1 ⟨v1, xs, rfl, hx, hn, ho1, hb1⟩
  have HX := Lib.hid hx
  have HO1 := Lib.hid ho1
  have HB1 := Lib.hid hb1
  clear hx ho1 hb1
  go_wp2_with fail
  refine (Q2.out _).mono ?_; rintro e w2 ⟨v2, zs, rfl, hz, hn2, ho2, hb2⟩
  have HZ := Lib.hid hz
  have HL1 := Lib.hid ((HO1.out.below hb2).lins (by omega))
  have HL2 := Lib.hid (ho2.lins (by omega))
  have HB2 := Lib.hid (HB1.out.trans (hb2.mono HB1.out.size))
  have HS12 := Lib.hid (Nat.le_trans HB1.out.size hb2.size)
  clear hz ho2 hb2 HO1
  go_wp2_with fail
  refine (awake_any _).mono ?_; rintro e w3 ⟨rfl, hb3⟩
  have HMa := Lib.hid (HL1.out.below hb3)
  have HMb := Lib.hid (HL2.out.below hb3)
  have HS3 := Lib.hid hb3.size
  have HB3 := Lib.hid (HB2.out.trans (hb3.mono HB2.out.size))
  clear hb3 HL1 HL2
  go_wp2_with fail
  go_loop [11, 12] (fun m i => ∃ k : Nat, k ≤ s.size ∧ i = .int .i64 k ∧ ∃ M : Nat, m = .int .i64 M ∧ M ≤ k + 1 ∧ Hid (M = 1 + feeds (s.data.toList.take k))) (fun _ i => s.size - (intOf i).toNat)
  case atStart => exact ⟨0, Nat.zero_le _, rfl, 1, rfl, by omega, Lib.hid rfl⟩
  case round =>
  obtain ⟨k, hk, rfl, M, rfl, hM, HM⟩ := hrel
  by_cases hlt : k < s.size
  · have hf := feeds_snoc s k hlt
    have HF := Lib.hid hf
    clear hf
    rcases Bool.eq_false_or_eq_true ((s[k].toNat : Int) == 10) with hc | hc
    · go_wp2
      go_round
      case rel => exact ⟨k + 1, by omega, by go_num, M + 1, by go_num, by omega, Lib.hid (by rw [HF.out, if_pos (feed_yes hc), HM.out]; omega)⟩
      case measure => simp [intOf]; omega
    · go_wp2
      go_round
      case rel => exact ⟨k + 1, by omega, by go_num, M, rfl, by omega, Lib.hid (by rw [HF.out, if_neg (feed_no hc), HM.out, Nat.add_zero])⟩
      case measure => simp [intOf]; omega
  obtain rfl : k = s.size := by omega
  have HM2 : Hid (M = 1 + feeds s.data.toList) := Lib.hid (by have := HM.out; rw [List.take_of_length_le (by rw [size_list]; exact Nat.le_refl _)] at this; exact this)
  clear HM hlt hk
  have hMl : M ≤ 30001 := by omega
  go_wp2_with fail
  refine (back_any _ _ _ _ xs HMa.out HS3.out (by omega)).mono ?_; rintro e w4 ⟨v4, rfl, hr4, hb4⟩
  have HR4 := Lib.hid hr4
  have HN1 := Lib.hid (HMa.out.below (hb4.mono HS3.out))
  have HN2 := Lib.hid (HMb.out.below (hb4.mono HS3.out))
  have HS4 := Lib.hid hb4.size
  have HB4 := Lib.hid (HB3.out.trans (hb4.mono HB3.out.size))
  clear hr4 hb4 HMa HMb
  go_wp2_with (at_builtin; refine wpList_app (w := w4) rfl _ _ 26 rfl w3.heap.size 41 i0 (.agg #[.int .i64 0, .slice none 0 0]) 2 32 Try.underlying26 Hi.out Hz0.out Hz1.out Hz2.out rfl (by decide) _ 0 [] rfl (World.ownsRow_nil _ _ _ _) v4 xs.length (cells xs) rfl HR4.out (cells_ones HN1.out) (by unfold maxLen; omega) (by omega) HS4.out ?_; intro v5 w5 hown5 hb5; rw [Nat.zero_add, List.nil_append] at hown5; have HO5 := Lib.hid hown5; have HP1 := Lib.hid (HN1.out.below (hb5.mono HS3.out)); have HP2 := Lib.hid (HN2.out.below (hb5.mono HS3.out)); have HB5 := Lib.hid (HB4.out.trans (hb5.mono HB3.out.size)); have HS5 := Lib.hid (Nat.le_trans HS4.out hb5.size); clear hown5 hb5 HN1 HN2 HR4)
  obtain ⟨A, len, cap, b0, off, rfl, hln, hm0, ha0, hc0⟩ := HP2.out
  have HC := Lib.hid hc0
  have HA := Lib.hid ha0
  have HN := Lib.hid hln
  have hlen : len ≤ 4194305 := by omega
  clear hc0 ha0 hln
  go_loopw [13, 14] (fun v13 i wr => ∃ k : Nat, k ≤ len ∧ i = .int .i64 k ∧ Hid (wr.ownsRow w3.heap.size 41 2 v13 (xs.length + k) (cells (xs ++ later M (zs.take k)))) ∧ Hid (Below w3.heap.size w5 wr)) (fun _ i _ => len - (intOf i).toNat)
  case atStart => exact ⟨0, Nat.zero_le _, rfl, Lib.hid (by rw [List.take_zero]; show World.ownsRow _ _ _ _ _ _ (cells (xs ++ [])); rw [List.append_nil]; exact HO5.out), Lib.hid (Below.refl _ _)⟩
  case round =>
  obtain ⟨k, hk, rfl, HO, HBr⟩ := hrel
  by_cases hlt : k < len
  · obtain ⟨z, hz⟩ : ∃ z, zs[k]? = some z := ⟨_, List.getElem?_eq_getElem (by have := HN.out; omega)⟩
    obtain ⟨rfl, _, hb0⟩ := HA.out (by omega)
    have hnx := later_next (M := M) hz
    have hle := line_le HZ.out HR2.out hz
    obtain ⟨N, u, ws⟩ := z
    simp only at hnx hle
    obtain ⟨c1, c2, c3⟩ := HC.out k _ hz
    simp only at c1 c2 c3
    obtain ⟨A1, p1, rfl⟩ := c3.form
    have hb3 : b0 < w3.heap.size := by have := HS3.out; omega
    have d1 : wr.cell? ⟨b0, off + k * 2, none⟩ = some (.int .i64 N) := (HBr.out.cell (p := ⟨b0, off + k * 2, none⟩) hb3).trans c1
    have d2 : wr.cell? ⟨b0, off + k * 2 + 1, none⟩ = some (.slice A1 ws.length p1) := (HBr.out.cell (p := ⟨b0, off + k * 2 + 1, none⟩) hb3).trans c2
    have hF := HF.out
    have hadd : IntKind.i64.wrap (N + (M : Int)) = N + (M : Int) := IntWalk.i64_in _ (by omega)
    have HNX := Lib.hid hnx
    have HST := Lib.hid c3
    clear c1 c2 c3 hz hnx hle hF
    go_wp2
    go_region_law (refine step_push (w0 := wr) rfl _ _ 26 rfl w3.heap.size 41 i0 (.agg #[.int .i64 0, .slice none 0 0]) 2 32 Try.underlying26 Hi.out Hz0.out Hz1.out Hz2.out rfl (by decide) _ (xs.length + k) (cells (xs ++ later M (zs.take k))) rfl HO.out [.int .i64 (N + (M : Int)), .slice A1 ws.length p1] rfl rfl rfl (cells_one (x := (N + (M : Int), .slice A1 ws.length p1, ws)) HST.out) (by unfold maxLen; omega) (by omega) (Nat.le_trans HS5.out HBr.out.size) ?_; intro v' w6 hown6 hg6; have HO6 := Lib.hid hown6; have HB6 := Lib.hid (below_grown HBr.out HO.out hg6 (Nat.le_trans HS5.out HBr.out.size) (Nat.le_refl _)); clear hown6 hg6)
    all_goals
      clear hadd
      go_wp2
      go_roundw
      case rel => exact ⟨k + 1, by omega, by go_num, Lib.hid (by rw [← Nat.add_assoc, cells_append, HNX.out, ← List.append_assoc, ← cells_append]; exact HO6.out), HB6⟩
      case measure => simp [intOf]; omega
  · obtain rfl : k = len := by omega
    have ho := HO.out
    rw [List.take_of_length_le (by have := HN.out; omega)] at ho
    have HOE := Lib.hid ho
    have HP1' := Lib.hid (HP1.out.below (HBr.out.mono HS3.out))
    have HP2' := Lib.hid (HP2.out.below (HBr.out.mono HS3.out))
    have HSr := Lib.hid (Nat.le_trans HS5.out HBr.out.size)
    have HBE := Lib.hid (HB5.out.trans (HBr.out.mono HB3.out.size))
    clear ho HO
    go_wp2_with fail
    refine (Q3.out _).mono ?_; rintro e w7 ⟨v7, ys, rfl, hy, hn3, ho7, hb7⟩
    have HY := Lib.hid hy
    have HL7 := Lib.hid (ho7.lins (by omega))
    have HOF := Lib.hid (own_below HOE.out hb7)
    have HQ1 := Lib.hid (HP1'.out.below (hb7.mono (Nat.le_trans HS3.out HSr.out)))
    have HQ2 := Lib.hid (HP2'.out.below (hb7.mono (Nat.le_trans HS3.out HSr.out)))
    have HS7 := Lib.hid (Nat.le_trans HSr.out hb7.size)
    have HB7 := Lib.hid (HBE.out.trans (hb7.mono HBE.out.size))
    have HSa := Lib.hid hb7.size
    clear hy ho7 hb7
    go_wp2_with fail
    refine (back_any _ _ _ _ ys HL7.out (Nat.le_refl _) (by omega)).mono ?_; rintro e w8 ⟨v8, rfl, hr8, hb8⟩
    have HK1 := Lib.hid (lins_over HL7.out hb8 hb8.size hr8 HSa.out)
    have hB0 := HBE.out.size
    have hB2 := HB3.out.size
    have hst : ∀ x ∈ xs ++ later M zs, Strs w.heap.size w8.heap.size w8 x.2.1 x.2.2 := by
      intro x hx
      have hw2 : w2.heap.size ≤ w7.heap.size := Nat.le_trans HS3.out HS7.out
      rcases List.mem_append.1 hx with hx | hx
      · exact (Lins_strs (HQ1.out.below (hb8.mono hw2)) x hx).wide (Nat.le_refl _) (Nat.le_trans hw2 hb8.size)
      · obtain ⟨z, hz, rfl⟩ := List.mem_map.1 hx
        exact (Lins_strs (HQ2.out.below (hb8.mono hw2)) z hz).wide HB1.out.size (Nat.le_trans hw2 hb8.size)
    have HK2 := Lib.hid (Lins.of_own (own_below HOF.out hb8) (by have := HN.out; omega) hB2 (Nat.le_refl _) hst)
    have HB8 := Lib.hid (HB7.out.trans (hb8.mono HB7.out.size))
    have hal : Alike true ys (xs ++ later M zs) := alike_of (by rw [HY.out, List.map_append, HX.out, later_lines HZ.out, HM2.out]; unfold lns; rw [List.map_append])
    have HAL := Lib.hid hal
    clear hr8 hb8 hB0 hB2 hst hal
    go_wp2_with fail
    refine (same_any true _ _ _ _ _ _ _ ys _ HK1.out HK2.out (Nat.le_refl _) (Nat.le_refl _) HAL.out).mono ?_; rintro e w9 ⟨rfl, hb9⟩
    have HB9 := Lib.hid (HB8.out.trans (hb9.mono HB8.out.size))
    clear hb9
    go_wp2_with fail
    go_ret
    exact ⟨rfl, HB9.out⟩

theorem walk (s t : ByteArray) (hs : s.size ≤ 140737488351232) (ht : t.size ≤ 140737488351232) (w : World) :
    Calls Try.prog 7 #[.string s, .string t] w fun e w' => e = .returned (.bool true) ∧ Below w.heap.size w w' := by
  obtain ⟨⟨a, m1, y1⟩, h1⟩ : ∃ r, splitV s.data.toList = r := ⟨_, rfl⟩
  obtain ⟨⟨b, m2, y2⟩, h2⟩ : ∃ r, splitV t.data.toList = r := ⟨_, rfl⟩
  by_cases hy1 : y1 = 0
  · by_cases hy2 : y2 = 0
    · by_cases hl : 30000 < s.size
      · exact walk_c s t hs ht a b m1 m2 y1 y2 h1 h2 hy1 hy2 hl w
      · by_cases hk : 30000 < t.size
        · exact walk_d s t hs ht a b m1 m2 y1 y2 h1 h2 hy1 hy2 (by omega) hk w
        · subst hy1 hy2
          exact walk_e s t (by omega) (by omega) a b m1 m2 h1 h2 w
    · exact walk_b s t hs ht a b m1 m2 y1 y2 h1 h2 hy1 hy2 w
  · exact walk_a s t hs ht a b m1 m2 y1 y2 h1 h2 hy1 w

set_option maxRecDepth 100000 in
theorem lifted (os : Os) (started : os.Started) (H : Type) (enc : TypeId × Value → H) :
    ReturnsInHanded {} Try.checked os 7 .any (Rows.linesPartsSpec.pre6 enc Try.prog Try.f7 Rows.linesPartsRow.domain false) (Rows.linesPartsSpec.post enc Try.prog Try.f7 false true false false) := by
  refine returnsInHanded_of_change_sized (C := Try.checked) (by kernel_rfl) started (by kernel_rfl) Try.func7
    (ChangeSpec.witness6 (enc := enc) (C := Try.checked) false ⟨#[], #[.string ⟨#[]⟩, .string ⟨#[]⟩], []⟩ 8 (by kernel_rfl) (by kernel_rfl) (by kernel_rfl) (by kernel_rfl)) ?_
  intro W base args ds gs before hval0 hW hcnd hsz0 _
  have hval : ∀ (j : Nat) t v, Try.f7.params[j]? = some t → args[j]? = some v → Value.okWide Try.prog W .any base t v := hval0
  have hW' := hW
  obtain ⟨p, q, hA0, hV, rfl, hfz, hnd⟩ := hW
  have hsz : (DataW.weightsEach Try.prog (Try.f7.params.toList ++ Rows.linesPartsSpec.plain.varTypes Try.prog) (ds ++ gs)).all (· ≤ reachBytes) = true := hsz0
  have hA : DataW.TrodAll enc Try.prog W 0 (fun _ => true) true Try.f7.params.toList args.toList ds p := hA0
  rw [Try.params7] at hA hval hsz
  obtain ⟨v0, vs0, d0, ds0, p0, q0, hargs, rfl, rfl, h0, r0⟩ := trodAll_cons hA
  obtain ⟨v1, vs1, d1, ds1, p1, q1, rfl, rfl, rfl, h1, r1⟩ := trodAll_cons r0
  obtain ⟨rfl, rfl, rfl⟩ := trodAll_nil r1
  obtain rfl : args = #[v0, v1] := by cases args; simp_all
  obtain ⟨rfl, rfl⟩ := trodVars_none hV
  obtain ⟨a0, rfl, rfl, rfl, _⟩ := Go.ChangeMaps.open_string Try.underlying9 (hval 0 9 v0 rfl rfl) h0
  obtain ⟨a1, rfl, rfl, rfl, _⟩ := Go.ChangeMaps.open_string Try.underlying9 (hval 1 9 v1 rfl rfl) h1
  have z0 : a0.size ≤ 140737488351232 := Shell.reach_string hsz (j := 0) (t := 9) rfl rfl
  have z1 : a1.size ≤ 140737488351232 := Shell.reach_string hsz (j := 1) (t := 9) rfl rfl
  clear hA0 hval0
  simp only [List.append_nil] at hW'
  refine (walk a0 a1 z0 z1 W).mono fun e W' ⟨he, hg⟩ => ?_
  subst he
  exact ⟨_, rfl, Shell.lawPost (by kernel_rfl) rfl (by kernel_rfl) rfl Try.underlying4 hW' rfl hg⟩

/-- The statement. -/
theorem proved : Rows.LinesPartsSaid :=
  OpenClaim.holds_of_wide 7 Try.f7 rfl rfl rfl rfl rfl rfl rfl ⟨rfl, rfl, rfl, rfl, rfl⟩ rfl rfl rfl rfl rfl (by kernel_rfl) Try.func7 (by kernel_rfl)
    (of_decide_eq_true (by kernel_rfl)) (by unfold Func.isWrapper; first | (rw [if_pos (by decide +kernel)]; kernel_rfl) | (rw [if_neg (by decide +kernel)]; exact ⟨rfl, rfl⟩))
    (fun os started H enc _ => lifted os started H enc)
end Go.Proofs.Ytdibmmiobmlcbaa.linesParts
