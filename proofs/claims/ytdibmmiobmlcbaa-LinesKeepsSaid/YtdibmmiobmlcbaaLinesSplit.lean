/-
  lines.cut and lines.Split, walked.
-/
import Derived.Test.YtdibmmiobmlcbaaLinesWalks
namespace Go.Proofs.Ytdibmmiobmlcbaa
open Go.RowKit LinesM Mem

theorem s_info : (Try.prog.info? 9).map (fun i => (i.zero, i.size, i.bytes)) = some (some (.string ⟨#[]⟩), 1, 16) := by kernel_rfl

/-- What cutting a line leaves. -/
def CutPost (W : World) (q : List Wd × Bool) (e : Ending) (w' : World) : Prop :=
  ∃ v, e = .returned (.tuple #[v, .bool q.2]) ∧ w'.ownsRow W.heap.size 9 1 v q.1.length (strs q.1) ∧ Below W.heap.size W w'

theorem word_of (s : ByteArray) (i j : Nat) : s.extract i j = ⟨((s.data.toList.drop i).take (j - i)).toArray⟩ := by
  have := Lib.extract_data s i j
  rw [← this]

theorem ends_of {s : ByteArray} {i : Nat} {b : Bool} (h : (words (s.data.toList.drop i)).2 = b) (h0 : run 0 (s.data.toList.drop i) = 0) (hi : i < s.size) : (kindB s[i] == 2) = b := by
  rw [words, dif_pos h0, drop_at s i hi] at h
  exact h

theorem words_step {l : List UInt8} (h : run 0 l ≠ 0) :
    words l = (l.take (run 0 l) :: (words ((l.drop (run 0 l)).drop (run 1 (l.drop (run 0 l))))).1, (words ((l.drop (run 0 l)).drop (run 1 (l.drop (run 0 l))))).2) := by
  rw [words, dif_neg h]
theorem run_pos {c : UInt8} {l : List UInt8} (h : kindB c = 0) : run 0 (c :: l) ≠ 0 := by rw [run_cons_yes h]; omega

/-- a word more, in the relation of the round. -/
theorem cut_rel {s : ByteArray} {j m a : Nat} {acc : List Wd} {q : List Wd × Bool} (hk : run 0 (s.data.toList.drop j) ≠ 0) (hm : j + run 0 (s.data.toList.drop j) = m) (ha : m + run 1 (s.data.toList.drop m) = a)
    (h : acc ++ (words (s.data.toList.drop j)).1 = q.1 ∧ (words (s.data.toList.drop j)).2 = q.2) :
    (acc ++ [(s.data.toList.drop j).take (m - j)]) ++ (words (s.data.toList.drop a)).1 = q.1 ∧ (words (s.data.toList.drop a)).2 = q.2 := by
  have e : run 0 (s.data.toList.drop j) = m - j := by omega
  rw [words_step hk] at h
  have h2 : (s.data.toList.drop j).drop (run 0 (s.data.toList.drop j)) = s.data.toList.drop m := by rw [List.drop_drop, hm]
  rw [h2, List.drop_drop, ha, e] at h
  simpa using h

theorem one_str (x : Wd) : ∀ u ∈ [Value.string ⟨x.toArray⟩], u.oneCell' = true := by intro u hu; rw [List.mem_singleton] at hu; subst hu; rfl

set_option maxHeartbeats 2000000 in
theorem cut_any (s : ByteArray) (w : World) (hs : s.size ≤ 4194304) :
    Calls Try.prog 19 #[.string s] w (CutPost w (cutV s.data.toList)) := by
  obtain ⟨i0, hi, hz0, hz1, hz2⟩ := info_parts s_info
  have Hi := Lib.hid hi
  have Hz0 := Lib.hid hz0
  have Hz1 := Lib.hid hz1
  have Hz2 := Lib.hid hz2
  clear hi hz0 hz1 hz2
  obtain ⟨q, hq⟩ : ∃ q, cutV s.data.toList = q := ⟨_, rfl⟩
  rw [hq]
  have hl := size_list s
  have Hl := Lib.hid hl
  have hr1 := run_le 1 s.data.toList
  rw [hl] at hr1
  have q0 : Calls Try.prog 24 #[.int .i64 1, .string s, .int .i64 0] w fun e w' => e = .returned (.int .i64 ((0 + run 1 (s.data.toList.drop 0) : Nat) : Int)) ∧ w = w' := behind_any 1 s 0 w (Nat.zero_le _) (by omega)
  have Q0 := Lib.hid q0
  clear q0
  have HQ := Lib.hid hq
  obtain ⟨a0, ha0⟩ : ∃ a, 0 + run 1 (s.data.toList.drop 0) = a := ⟨_, rfl⟩
  rw [ha0] at Q0
  have ha1 : a0 ≤ s.size := by rw [← ha0]; simpa using hr1
  have HA := Lib.hid ha0
  clear hq hl hr1 ha0
  go_enter Try.func19, Try.ntmps19
  go_wp2_with (go_at_call 24; (with_reducible refine (Q0.out).mono ?_); rintro e w1 ⟨rfl, rfl⟩)
  go_loopw [4, 5, 6] (fun v a _ wr => ∃ (j : Nat) (acc : List Wd), j ≤ s.size ∧ a = .int .i64 j ∧ acc.length ≤ j ∧ Hid (acc ++ (words (s.data.toList.drop j)).1 = q.1 ∧ (words (s.data.toList.drop j)).2 = q.2) ∧
      Hid (wr.ownsRow w.heap.size 9 1 v acc.length (strs acc)) ∧ Hid (Below w.heap.size w wr)) (fun _ a _ _ => s.size - (intOf a).toNat)
  case atStart =>
    refine ⟨a0, [], ha1, rfl, Nat.zero_le _, Lib.hid ?_, Lib.hid (World.ownsRow_nil _ _ _ _), Lib.hid (Below.refl _ _)⟩
    have h1 := HQ.out
    have h2 := HA.out
    unfold cutV at h1
    rw [List.drop_zero, Nat.zero_add] at h2
    rw [h2] at h1
    rw [h1]; simp
  case round =>
    obtain ⟨j, acc, hj, rfl, hacc, HW, HO, HB⟩ := hrel
    by_cases hlt : j < s.size
    · obtain ⟨k, hk⟩ : ∃ k, kindB s[j] = k := ⟨_, rfl⟩
      have HK := Lib.hid hk
      rcases Bool.eq_false_or_eq_true (k == 0) with hp | hp
      · have hk0 : k = 0 := by simpa using hp
        have hrun : run 0 (s.data.toList.drop j) ≠ 0 := by rw [drop_at s j hlt]; exact run_pos (by rw [hk]; exact hk0)
        have hle0 := run_le 0 (s.data.toList.drop j)
        rw [List.length_drop, Hl.out] at hle0
        have Q1 := Lib.hid fun w => behind_any 0 s j w hj (by omega)
        obtain ⟨m, hm⟩ : ∃ m, j + run 0 (s.data.toList.drop j) = m := ⟨_, rfl⟩
        rw [hm] at Q1
        have hm1 : j < m := by omega
        have hm2 : m ≤ s.size := by omega
        have hle1 := run_le 1 (s.data.toList.drop m)
        rw [List.length_drop, Hl.out] at hle1
        have Q2 := Lib.hid fun w => behind_any 1 s m w hm2 (by omega)
        obtain ⟨a, ha⟩ : ∃ a, m + run 1 (s.data.toList.drop m) = a := ⟨_, rfl⟩
        rw [ha] at Q2
        have ha1 : m ≤ a := by omega
        have ha2 : a ≤ s.size := by omega
        have HW2 := Lib.hid (cut_rel hrun hm ha HW.out)
        obtain ⟨x, hx⟩ : ∃ x, (s.data.toList.drop j).take (m - j) = x := ⟨_, rfl⟩
        have hcl : ∀ w : World, Calls Try.prog 26 #[.string (s.extract j m)] w fun e w' => e = .returned (.string ⟨x.toArray⟩) ∧ Below w.heap.size w w' := fun w => by
          rw [word_of, hx]
          refine clone_any _ _ ?_
          show x.toArray.size ≤ _
          have := congrArg List.length hx
          rw [List.length_take, List.length_drop, Hl.out] at this
          simp; omega
        rw [hx] at HW2
        have QC := Lib.hid hcl
        clear hk hrun hle0 hle1 hm ha hx hcl HW hk0
        go_wp2_with (first
          | (go_at_call 25; (with_reducible refine (lkind_at _ _ HK.out _).mono ?_); rintro e w1 ⟨rfl, rfl⟩)
          | (go_at_call 24; (with_reducible refine (Q1.out _).mono ?_); rintro e w1 ⟨rfl, rfl⟩)
          | (go_at_call 26; (with_reducible refine (QC.out _).mono ?_); rintro e w1 ⟨rfl, hb1⟩; have HO1 := Lib.hid (own_below HO.out hb1); have HB1 := Lib.hid (HB.out.trans (hb1.mono HB.out.size)); clear hb1 HO HB)
          | (at_builtin; refine wpList_push rfl _ _ 38 rfl w.heap.size 9 i0 (.string ⟨#[]⟩) 1 16 Try.underlying38 Hi.out Hz0.out Hz1.out Hz2.out rfl (by decide) _ acc.length (strs acc) rfl HO1.out [.string ⟨x.toArray⟩] rfl rfl (one_str x) (by unfold maxLen; omega) (by omega) HB1.out.size ?_; intro v' w2 hown2 hg2; have HO2 := Lib.hid hown2; have HB2 := Lib.hid (below_grown HB1.out HO1.out hg2 HB1.out.size (Nat.le_refl _)); clear hown2 hg2)
          | (go_at_call 24; (with_reducible refine (Q2.out _).mono ?_); rintro e w1 ⟨rfl, rfl⟩))
        go_roundw
        case rel =>
          refine ⟨a, acc ++ [x], ha2, rfl, by simp; omega, HW2, ?_, HB2⟩
          have := HO2.out
          rw [strs_append, List.length_append]
          exact Lib.hid this
        case measure => simp [intOf]; omega
      · have hr0 : run 0 (s.data.toList.drop j) = 0 := by rw [drop_at s j hlt]; exact run_cons_no (by rw [hk]; simpa using hp)
        obtain ⟨h1, h2⟩ := HW.out
        rw [words, dif_pos hr0] at h1 h2
        rw [drop_at s j hlt] at h2
        have h3 : q.2 = (k == 2) := by rw [← h2, ← hk]; rfl
        have h4 : acc = q.1 := by simpa using h1
        obtain ⟨q1, q2⟩ := q
        simp only at h3 h4
        subst h3 h4
        clear hk hr0 h1 h2 HW
        have e1 : ((j : Int) == (s.size : Int)) = false := by simp; omega
        go_wp2_with (go_at_call 25; (with_reducible refine (lkind_at _ _ HK.out _).mono ?_); rintro e w1 ⟨rfl, rfl⟩)
        go_ret2
        exact ⟨_, rfl, HO.out, HB.out⟩
    · have hj' : j = s.size := by omega
      subst hj'
      obtain ⟨h1, h2⟩ := HW.out
      have e0 : s.data.toList.drop s.size = [] := List.drop_eq_nil_of_le (by rw [Hl.out]; exact Nat.le_refl _)
      rw [e0, words, dif_pos (run_nil 0)] at h1 h2
      have h3 : q.2 = true := by rw [← h2]; rfl
      have h4 : acc = q.1 := by simpa using h1
      obtain ⟨q1, q2⟩ := q
      simp only at h3 h4
      subst h3 h4
      clear h1 h2 HW e0
      have e1 : ((s.size : Int) == (s.size : Int)) = true := by simp
      go_wp2
      go_ret2
      exact ⟨_, rfl, HO.out, HB.out⟩

theorem cut_at (s : ByteArray) (ws : List Wd) (b : Bool) (h : cutV s.data.toList = (ws, b)) (hs : s.size ≤ 4194304) (w : World) :
    Calls Try.prog 19 #[.string s] w fun e w' => ∃ v, e = .returned (.tuple #[v, .bool b]) ∧ w'.ownsRow w.heap.size 9 1 v ws.length (strs ws) ∧ Below w.heap.size w w' := by
  have := cut_any s w hs
  rw [h] at this
  exact this

theorem l_info : (Try.prog.info? 40).map (fun i => (i.zero, i.size, i.bytes)) = some (some (.agg #[.int .i64 0, .slice none 0 0]), 2, 32) := by kernel_rfl

/-- What splitting a text leaves. -/
def SplitPost (W : World) (r : Res) (e : Ending) (w' : World) : Prop :=
  ∃ v xs, e = .returned (.tuple #[v, .int .i64 (r.2.1 : Int), .int .i64 (r.2.2 : Int)]) ∧ xs.map line = lns r.1 ∧ xs.length ≤ 4194305 ∧ OwnLins 40 9 W.heap.size w'.heap.size w' v xs ∧ Below W.heap.size W w'

theorem seg_take (l : List UInt8) : l.take (seg l).length = seg l := by
  obtain ⟨t, ht⟩ := List.takeWhile_prefix (l := l) (fun c : UInt8 => c != 10)
  have e : l = seg l ++ t := ht.symm
  conv => lhs; rw [e]
  have : seg (seg l ++ t) = seg l := by rw [← e]
  rw [this, List.take_left']
  rfl

theorem split_step {n : Nat} {out : List Ln} {l : List UInt8} {ws : List Wd} {b : Bool} (h0 : l ≠ []) (h : cutV (seg l) = (ws, b)) :
    splitP n out l = if b = true then splitP (n + 1) (emit n out ws) (l.drop ((seg l).length + 1)) else ([], n, 3) := by
  rw [splitP, dif_neg h0]
  simp only [h]
theorem split_end {n : Nat} {out : List Ln} : splitP n out [] = (out, 0, 0) := by rw [splitP, dif_pos rfl]

theorem two_cells (n : Int) {w : World} {b e k : Nat} {v : Value} {xs : List Value} (h : w.ownsRow b e 1 v k xs) : ∀ u ∈ [Value.int .i64 n, v], u.oneCell' = true := by
  intro u hu
  simp only [List.mem_cons, List.not_mem_nil, or_false] at hu
  rcases hu with rfl | rfl
  · rfl
  · rcases h.2 with ⟨rfl, _⟩ | ⟨g, cap, cur, rfl, _⟩ <;> rfl

set_option maxHeartbeats 4000000 in
theorem split_any (s : ByteArray) (w : World) (hs : s.size ≤ maxLen) :
    Calls Try.prog 9 #[.string s] w (SplitPost w (splitV s.data.toList)) := by
  unfold maxLen at hs
  by_cases hbig : 4194304 < s.size
  · have e1 : decide ((4194304 : Int) < (s.size : Int)) = true := decide_eq_true (by omega)
    have e2 : splitV s.data.toList = ([], 0, 2) := by unfold splitV; rw [if_pos (by rw [size_list]; exact hbig)]
    rw [e2]
    clear e2 hbig
    go_enter Try.func9, Try.ntmps9
    go_wp2
    go_ret3
    exact ⟨_, [], rfl, rfl, by simp, OwnLins.nil _ _ _ _ _, Below.refl _ _⟩
  · obtain ⟨i0, hi, hz0, hz1, hz2⟩ := info_parts l_info
    have Hi := Lib.hid hi
    have Hz0 := Lib.hid hz0
    have Hz1 := Lib.hid hz1
    have Hz2 := Lib.hid hz2
    clear hi hz0 hz1 hz2
    have e1 : decide ((4194304 : Int) < (s.size : Int)) = false := decide_eq_false (by omega)
    have hs2 : s.size ≤ 4194304 := by omega
    obtain ⟨r, hr⟩ : ∃ r, splitV s.data.toList = r := ⟨_, rfl⟩
    have hl := size_list s
    have HR : Hid (splitP 1 [] (s.data.toList.drop 0) = r) := by
      rw [List.drop_zero, split_eq]
      unfold splitV at hr
      rw [if_neg (by rw [hl]; exact hbig)] at hr
      exact Lib.hid hr
    rw [hr]
    have Hl := Lib.hid hl
    clear hr hl hbig
    go_enter Try.func9, Try.ntmps9
    go_wp2
    go_loopw [5, 6, 7] (fun v a b wr => ∃ (j n : Nat) (xs : List ML) (out : List Ln), j ≤ s.size + 1 ∧ a = .int .i64 j ∧ b = .int .i64 n ∧ n ≤ j + 1 ∧ xs.length ≤ j ∧ Hid (splitP n out (s.data.toList.drop j) = r) ∧ Hid (xs.map line = lns out) ∧
        Hid (OwnLins 40 9 w.heap.size wr.heap.size wr v xs) ∧ Hid (Below w.heap.size w wr)) (fun _ a _ _ => s.size + 1 - (intOf a).toNat)
    case atStart => exact ⟨0, 1, [], [], Nat.zero_le _, rfl, rfl, by omega, by simp, HR, Lib.hid rfl, Lib.hid (OwnLins.nil _ _ _ _ _), Lib.hid (Below.refl _ _)⟩
    case round =>
      obtain ⟨j, n, xs, out, hj, rfl, rfl, hn, hxs, HP, HX, HO, HB⟩ := hrel
      by_cases hlt : j < s.size
      · have hne : s.data.toList.drop j ≠ [] := by rw [drop_at s j hlt]; exact List.cons_ne_nil _ _
        have hle := seg_le (s.data.toList.drop j)
        rw [List.length_drop, Hl.out] at hle
        have Q1 := Lib.hid fun w => lineEnd_any s j w (by omega) (by omega)
        have hseg := seg_take (s.data.toList.drop j)
        obtain ⟨m, hm⟩ : ∃ m, j + (seg (s.data.toList.drop j)).length = m := ⟨_, rfl⟩
        rw [hm] at Q1
        have hjm : j ≤ m := by omega
        have hms : m ≤ s.size := by omega
        have hx : (s.extract j m).data.toList = seg (s.data.toList.drop j) := by rw [Lib.extract_data, ← hseg]; congr 1; omega
        obtain ⟨⟨ws, b⟩, hc⟩ : ∃ q, cutV (seg (s.data.toList.drop j)) = q := ⟨_, rfl⟩
        have hst := split_step (n := n) (out := out) hne hc
        rw [HP.out] at hst
        have hsz : (s.extract j m).size ≤ 4194304 := by rw [← size_list, hx]; omega
        have QC := Lib.hid fun w => cut_at (s.extract j m) ws b (by rw [hx]; exact hc) hsz w
        have hdd : (s.data.toList.drop j).drop ((seg (s.data.toList.drop j)).length + 1) = s.data.toList.drop (m + 1) := by rw [List.drop_drop]; congr 1; omega
        rw [hdd] at hst
        have HS := Lib.hid hst
        clear hne hle hseg hm hx hc hst hsz hdd HP
        cases b with
        | false =>
          have hr : r = ([], n, 3) := by rw [HS.out]; rfl
          subst hr
          clear HS
          go_wp2_with (first
            | (go_at_call 18; (with_reducible refine (Q1.out _).mono ?_); rintro e w1 ⟨rfl, rfl⟩)
            | (go_at_call 19; (with_reducible refine (QC.out _).mono ?_); rintro e w1 ⟨v1, rfl, hv1, hb1⟩; have HB1 := Lib.hid (HB.out.trans (hb1.mono HB.out.size)); clear hb1 hv1))
          go_ret3
          exact ⟨_, [], rfl, rfl, by simp, OwnLins.nil _ _ _ _ _, HB1.out⟩
        | true =>
          have HS2 : Hid (splitP (n + 1) (emit n out ws) (s.data.toList.drop (m + 1)) = r) := by
            have := HS.out
            rw [if_pos rfl] at this
            exact Lib.hid this.symm
          clear HS
          cases hws : ws with
          | nil =>
            subst hws
            go_wp2_with (first
              | (go_at_call 18; (with_reducible refine (Q1.out _).mono ?_); rintro e w1 ⟨rfl, rfl⟩)
              | (go_at_call 19; (with_reducible refine (QC.out _).mono ?_); rintro e w1 ⟨v1, rfl, hv1, hb1⟩; have HB1 := Lib.hid (HB.out.trans (hb1.mono HB.out.size)); have HO1 := Lib.hid ((HO.out.below hb1).up hb1.size); clear hb1; obtain ⟨A1, c1, rfl⟩ := own_form hv1; have HV1 := Lib.hid hv1; clear hv1))
            go_roundw
            case rel => exact ⟨m + 1, n + 1, xs, out, by omega, by go_num, by go_num, by omega, by omega, HS2, HX, HO1, HB1⟩
            case measure => simp [intOf]; omega
          | cons x ws' =>
            have hw1 : 0 < ws.length := by rw [hws]; simp
            have hw2 : decide (0 < ws.length) = true := decide_eq_true hw1
            have hem : emit n out ws = out ++ [(n, ws)] := by unfold emit; rw [if_neg (by rw [hws]; simp)]
            rw [hem] at HS2
            clear hws hem
            go_wp2_with (first
              | (go_at_call 18; (with_reducible refine (Q1.out _).mono ?_); rintro e w1 ⟨rfl, rfl⟩)
              | (go_at_call 19; (with_reducible refine (QC.out _).mono ?_); rintro e w1 ⟨v1, rfl, hv1, hb1⟩; have HB1 := Lib.hid (HB.out.trans (hb1.mono HB.out.size)); have HO1 := Lib.hid ((HO.out.below hb1).up hb1.size); clear hb1; obtain ⟨A1, c1, rfl⟩ := own_form hv1; have HV1 := Lib.hid hv1; clear hv1)
              | (at_builtin; refine wpList_push rfl _ _ 22 rfl w.heap.size 40 i0 (.agg #[.int .i64 0, .slice none 0 0]) 2 32 Try.underlying22 Hi.out Hz0.out Hz1.out Hz2.out rfl (by decide) _ xs.length (cells xs) rfl HO1.out.1 [.int .i64 (n : Int), .slice A1 ws.length c1] rfl rfl (two_cells n HV1.out) (by unfold maxLen; omega) (by omega) HB1.out.size ?_; intro v' w2 hown2 hg2; have HO2 := Lib.hid (HO1.out.push (by decide) (own_lower HV1.out HB.out.size) (Nat.le_refl _) (Nat.le_refl _) hg2 hown2 rfl); have HB2 := Lib.hid (below_grown HB1.out HO1.out.1 hg2 HB1.out.size (Nat.le_refl _)); have HO3 := Lib.hid (HO2.out.up hg2.size); clear hown2 hg2))
            go_roundw
            case rel =>
              refine ⟨m + 1, n + 1, xs ++ [((n : Int), .slice A1 ws.length c1, ws)], out ++ [(n, ws)], by omega, by go_num, by go_num, by omega, by simp; omega, HS2, ?_, HO3, HB2⟩
              have := HX.out
              exact Lib.hid (by unfold lns at this ⊢; rw [List.map_append, List.map_append, this]; rfl)
            case measure => simp [intOf]; omega
      · have h0 : s.data.toList.drop j = [] := List.drop_eq_nil_of_le (by rw [Hl.out]; omega)
        have h1 := HP.out
        rw [h0, split_end] at h1
        subst h1
        clear h0
        go_wp2
        go_ret3
        exact ⟨_, xs, rfl, HX.out, by omega, HO.out, HB.out⟩
end Go.Proofs.Ytdibmmiobmlcbaa
