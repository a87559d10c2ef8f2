/-
  Layer 12: the document's rising lists.
-/
import Derived.Sort.Walk0
import Derived.Test.YtaeklfljibjpiaaLvMem
import Derived.Test.YtaeklfljibjpiaaLvTell
import Derived.Test.YtaeklfljibjpiaaFlRef
namespace Go.Proofs.Ytaeklfljibjpiaa.Lv12
open Go.RowKit Api Mem Sh8 Go.Maps

theorem texts_own {w : World} {base n : Nat} {v : Value} {r : List Wd} (h : w.ownsRow base 9 1 v n (r.map str)) (hn : n = r.length) (hl : r.length ≤ 4611686018427387903) : Texts base w.heap.size w v r := by
  subst hn
  rcases h.2 with ⟨e, h0⟩ | ⟨g, cap, cur, e, hb, hg, h1, _⟩
  · have : r = [] := List.eq_nil_of_length_eq_zero h0
    subst this
    exact ⟨none, 0, 0, 0, 0, e, rfl, by omega, fun h => absurd h (by omega), fun i x h => by simp at h⟩
  · refine ⟨_, r.length, cap, g, 0, e, rfl, ⟨hl, h1⟩, fun _ => ⟨rfl, hb, (Array.getElem?_eq_some_iff.1 hg).1⟩, fun i x hx => ⟨[str x], rfl, fun j u hj => ?_, rfl⟩⟩
    cases j with
    | zero =>
      simp at hj
      subst hj
      subst e
      have := own_at h (show (r.map str)[i]? = some (str x) by rw [List.getElem?_map, hx]; rfl)
      simpa using this
    | succ j => simp at hj
set_option maxRecDepth 100000 in
set_option maxHeartbeats 8000000 in
theorem same12_any (lo hi lo2 hi2 : Nat) (w : World) (va vb : Value) (a b : List Wd) (ha : Texts lo hi w va a) (hb : Texts lo2 hi2 w vb b) (hh : hi ≤ w.heap.size) (hh2 : hi2 ≤ w.heap.size) :
    Calls Try.prog 15 #[va, vb] w (Fl9.BP9 (a = b) w) := by
  obtain ⟨A1, k1, rfl⟩ := Row.form ha
  obtain ⟨A2, k2, rfl⟩ := Row.form hb
  have hla : a.length ≤ 4611686018427387903 := by obtain ⟨_, _, _, h, _⟩ := Row.get ha; exact h
  have HA := Lib.hid ha
  have HB := Lib.hid hb
  clear ha hb
  by_cases hl : a.length = b.length
  · have e0 : ((a.length : Int) == (b.length : Int)) = true := by rw [hl]; simp
    have HL := Lib.hid hl
    clear hl
    go_enter Try.func15, Try.ntmps15
    go_wp2_with fail
    go_loopw [5] (fun i wr => ∃ k : Nat, k ≤ a.length ∧ i = .int .i64 k ∧ Hid (a.take k = b.take k) ∧ Hid (Below w.heap.size w wr)) (fun i _ => a.length - (intOf i).toNat)
    case atStart => exact ⟨0, Nat.zero_le _, rfl, Lib.hid (by simp), Lib.hid (Below.refl _ _)⟩
    case round =>
    obtain ⟨k, hk, rfl, HK, HBr⟩ := hrel
    by_cases hlt : k < a.length
    · have hlb : k < b.length := by have := HL.out; omega
      obtain ⟨x, hx⟩ : ∃ x, a[k]? = some x := ⟨_, List.getElem?_eq_getElem hlt⟩
      obtain ⟨y, hy⟩ : ∃ y, b[k]? = some y := ⟨_, List.getElem?_eq_getElem hlb⟩
      obtain ⟨b1, o1, rfl, hb1, cs1, hcl1, hcs1, rfl⟩ := row_at HA.out hx
      obtain ⟨b2, o2, rfl, hb2, cs2, hcl2, hcs2, rfl⟩ := row_at HB.out hy
      have m1 := cells_later hcs1 (HBr.out.mono hh) hb1 0 _ rfl
      have m2 := cells_later hcs2 (HBr.out.mono hh2) hb2 0 _ rfl
      simp only [Nat.mul_one, Nat.add_zero] at m1 m2
      have HX := Lib.hid hx
      have HY := Lib.hid hy
      clear hx hy hcs1 hcs2
      by_cases he : x = y
      · have en : (x == y) = true := by simpa using he
        have HE := Lib.hid he
        clear he
        go_wp2_with fail
        go_region
        go_wp2_with fail
        go_roundw
        case rel => exact ⟨k + 1, by omega, by go_num, Lib.hid (Fl9.take_eq HK.out HX.out HY.out HE.out), Lib.hid HBr.out.drew⟩
        case measure => simp [intOf]; omega
      · have en : (x == y) = false := by simpa using he
        have en2 : ¬ x = y := he
        have HE := Lib.hid he
        clear he
        go_wp2_with fail
        go_region
        go_wp2_with fail
        go_ret
        exact ⟨false, rfl, ⟨fun h => (by cases h), fun h => absurd h (Fl9.ne_at HX.out HY.out HE.out)⟩, HBr.out.drew⟩
    · have HF := Lib.hid (show a = b by
        have := HK.out
        have h2 := HL.out
        rwa [List.take_of_length_le (by omega), List.take_of_length_le (by omega)] at this)
      go_wp2_with fail
      go_ret
      exact ⟨true, rfl, ⟨fun _ => HF.out, fun _ => rfl⟩, HBr.out⟩
  · have e0 : ((a.length : Int) == (b.length : Int)) = false := by simp; omega
    have e1 : ¬ ((a.length : Int) = (b.length : Int)) := by omega
    have HL := Lib.hid hl
    clear hl
    go_enter Try.func15, Try.ntmps15
    go_wp2_with fail
    go_ret
    exact ⟨false, rfl, ⟨fun h => (by cases h), fun h => absurd (by rw [h]) HL.out⟩, Below.refl _ _⟩
/-- a name in a list that rises, once. -/
def putV (l : List Wd) (s : Wd) : List Wd := (l.filter fun x => decide (x < s)) ++ [s] ++ (l.filter fun x => decide (s < x))
theorem putV_mem {l : List Wd} {s y : Wd} : y ∈ putV l s ↔ y ∈ l ∨ y = s := by
  unfold putV
  simp only [List.mem_append, List.mem_filter, List.mem_singleton, decide_eq_true_eq]
  constructor
  · rintro ((⟨h, _⟩ | h) | ⟨h, _⟩)
    · exact .inl h
    · exact .inr h
    · exact .inl h
  · rintro (h | h)
    · by_cases e : y = s
      · exact .inl (.inr e)
      · by_cases e2 : y < s
        · exact .inl (.inl ⟨h, e2⟩)
        · have h3 : s ≤ y := List.not_lt.1 e2
          exact .inr ⟨h, by
            apply Classical.byContradiction
            intro h4
            exact e (List.le_antisymm (List.not_lt.1 h4) h3)⟩
    · exact .inl (.inr h)
theorem putV_rise {l : List Wd} (h : Rise l) (s : Wd) : Rise (putV l s) := by
  unfold putV
  refine ⟨?_, ?_⟩
  · rw [List.nodup_append, List.nodup_append]
    refine ⟨⟨h.nd.filter _, by simp, fun a ha b hb e => ?_⟩, h.nd.filter _, fun a ha b hb e => ?_⟩
    · rw [List.mem_singleton] at hb
      have h1 := (List.mem_filter.1 ha).2
      rw [decide_eq_true_eq, e, hb] at h1
      exact List.lt_irrefl _ h1
    · have h2 := (List.mem_filter.1 hb).2
      rw [decide_eq_true_eq] at h2
      rcases List.mem_append.1 ha with ha | ha
      · have h1 := (List.mem_filter.1 ha).2
        rw [decide_eq_true_eq, e] at h1
        exact List.lt_irrefl _ (List.lt_trans h1 h2)
      · rw [List.mem_singleton] at ha
        rw [← e, ha] at h2
        exact List.lt_irrefl _ h2
  · rw [List.pairwise_append, List.pairwise_append]
    refine ⟨⟨h.up.filter _, by simp, fun a ha b hb => ?_⟩, h.up.filter _, fun a ha b hb => ?_⟩
    · rw [List.mem_singleton] at hb
      have h1 := (List.mem_filter.1 ha).2
      rw [decide_eq_true_eq] at h1
      rw [hb]
      exact List.le_of_lt h1
    · have h2 := (List.mem_filter.1 hb).2
      rw [decide_eq_true_eq] at h2
      rcases List.mem_append.1 ha with ha | ha
      · have h1 := (List.mem_filter.1 ha).2
        rw [decide_eq_true_eq] at h1
        exact List.le_of_lt (List.lt_trans h1 h2)
      · rw [List.mem_singleton] at ha
        rw [ha]
        exact List.le_of_lt h2
theorem putV_len (l : List Wd) (s : Wd) : (putV l s).length ≤ 2 * l.length + 1 := by
  unfold putV
  simp only [List.length_append, List.length_singleton]
  have := List.length_filter_le (fun x => decide (x < s)) l
  have := List.length_filter_le (fun x => decide (s < x)) l
  omega
theorem less_iff (x y : Wd) : Op.bytesLess x y = decide (x < y) := bytesLess_eq x y
theorem info_str2 : (Try.prog.info? 9).map (fun i => (i.zero, i.size, i.bytes)) = some (some (.string ⟨#[]⟩), 1, 16) := by kernel_rfl
/-- new memory that holds these names. -/
def NewT (r : List Wd) (w : World) (e : Ending) (w' : World) : Prop := ∃ v, e = .returned v ∧ w'.ownsRow w.heap.size 9 1 v r.length (r.map str) ∧ Below w.heap.size w w'
set_option maxRecDepth 100000 in
set_option maxHeartbeats 8000000 in
theorem put12_any (lo hi : Nat) (w : World) (v : Value) (l : List Wd) (s : Wd) (hl : Texts lo hi w v l) (hh : hi ≤ w.heap.size) (hl9 : l.length ≤ 1000000000000) :
    Calls Try.prog 9 #[v, str s] w (NewT (putV l s) w) := by
  obtain ⟨A1, k1, rfl⟩ := Row.form hl
  obtain ⟨is, his, hz0, hz1, hz2⟩ := info_parts info_str2
  have HIS := Lib.hid (show _ ∧ _ ∧ _ ∧ _ from ⟨his, hz0, hz1, hz2⟩)
  clear his hz0 hz1 hz2
  have HL := Lib.hid hl
  have HN0 := Lib.hid (show w.ownsRow w.heap.size 9 1 (.slice none 0 0) 0 [] from ⟨by simp, .inl ⟨rfl, rfl⟩⟩)
  clear hl
  go_enter Try.func9, Try.ntmps9
  go_wp2_with fail
  go_loopw [5, 6] (fun ov iv wr => ∃ k : Nat, k ≤ l.length ∧ iv = .int .i64 k ∧ ∃ q, q = (l.take k).filter (fun x => decide (x < s)) ∧ ∃ A c, ov = .slice A q.length c ∧ Hid (wr.ownsRow w.heap.size 9 1 (.slice A q.length c) q.length (q.map str)) ∧ Hid (Below w.heap.size w wr)) (fun _ iv _ => l.length - (intOf iv).toNat)
  case atStart => exact ⟨0, Nat.zero_le _, rfl, [], rfl, none, 0, rfl, HN0, Lib.hid (Below.refl _ _)⟩
  case round =>
  obtain ⟨k, hk, rfl, q, hq, A, c, rfl, HO, HB⟩ := hrel
  have hql : q.length ≤ 1000000000000 := by
    rw [hq]
    have h1 := List.length_filter_le (fun x => decide (x < s)) (l.take k)
    have h2 := List.length_take_le' k l
    omega
  have HQ := Lib.hid hq
  clear hq
  have hW := HB.out.size
  by_cases hlt : k < l.length
  · obtain ⟨x, hx⟩ : ∃ x, l[k]? = some x := ⟨_, List.getElem?_eq_getElem hlt⟩
    obtain ⟨b1, o1, rfl, hb1, cs1, hcl1, hcs1, rfl⟩ := row_at HL.out hx
    have m1 := cells_later hcs1 (HB.out.mono hh) hb1 0 _ rfl
    simp only [Nat.mul_one, Nat.add_zero] at m1
    have HNX := Lib.hid (filter_next (p := fun x => decide (x < s)) hx)
    clear hx hcs1
    obtain ⟨d, hd⟩ : ∃ d, decide (x < s) = d := ⟨_, rfl⟩
    have e1 : Op.bytesLess x s = d := by rw [less_iff, hd]
    have HD := Lib.hid hd
    clear hd
    cases d with
    | true =>
      go_wp2_with (at_builtin; refine wpList_growP rfl _ _ 31 rfl w.heap.size 9 1 is _ 16 Try.underlying31 HIS.out.1 HIS.out.2.1 HIS.out.2.2.1 HIS.out.2.2.2 rfl Nat.one_pos _ _ _ rfl HO.out [str x] _ rfl rfl rfl (by intro u hu; rw [List.mem_singleton] at hu; subst hu; rfl) (by omega) (by omega) hW ?_; intro v6 w6 h6 g6 f6; obtain ⟨A6, k6, rfl⟩ := row_form h6; have HO6 := Lib.hid h6; have HB6 := Lib.hid (HB.out.grown g6 hW (fun j hj => (HO.out.lt j hj).1)); clear h6 g6 f6)
      go_roundw
      case rel =>
        refine ⟨k + 1, by omega, by go_num, q ++ [x], ?_, A6, k6, by simp, Lib.hid (by simpa using HO6.out), HB6⟩
        rw [HNX.out, ← HQ.out]
        simp [HD.out]
      case measure => simp [intOf]; omega
    | false =>
      go_wp2_with fail
      go_roundw
      case rel =>
        refine ⟨k + 1, by omega, by go_num, q, ?_, A, c, rfl, HO, HB⟩
        rw [HNX.out, ← HQ.out]
        simp [HD.out]
      case measure => simp [intOf]; omega
  · obtain rfl : k = l.length := by omega
    rw [List.take_length] at HQ
    go_wp2_with (at_builtin; refine wpList_growP rfl _ _ 31 rfl w.heap.size 9 1 is _ 16 Try.underlying31 HIS.out.1 HIS.out.2.1 HIS.out.2.2.1 HIS.out.2.2.2 rfl Nat.one_pos _ _ _ rfl HO.out [str s] _ rfl rfl rfl (by intro u hu; rw [List.mem_singleton] at hu; subst hu; rfl) (by omega) (by omega) hW ?_; intro v6 w6 h6 g6 f6; obtain ⟨A6, k6, rfl⟩ := row_form h6; have HO6 := Lib.hid h6; have HB6 := Lib.hid (HB.out.grown g6 hW (fun j hj => (HO.out.lt j hj).1)); clear h6 g6 f6)
    obtain ⟨p, hp⟩ : ∃ p, q ++ [s] = p := ⟨_, rfl⟩
    have HP := Lib.hid hp
    have hpl : p.length = q.length + 1 := by rw [← hp]; simp
    have HPL := Lib.hid (show p.length ≤ 1000000000001 by omega)
    have HO7 := Lib.hid (show w6.ownsRow w.heap.size 9 1 (.slice A6 p.length k6) p.length (p.map str) by rw [hpl, ← hp]; simpa using HO6.out)
    rw [← hpl]
    clear hp hpl HO6
    go_loopw [5, 7] (fun ov iv wr => ∃ k : Nat, k ≤ l.length ∧ iv = .int .i64 k ∧ ∃ q, q = p ++ (l.take k).filter (fun x => decide (s < x)) ∧ ∃ A c, ov = .slice A q.length c ∧ Hid (wr.ownsRow w.heap.size 9 1 (.slice A q.length c) q.length (q.map str)) ∧ Hid (Below w.heap.size w wr)) (fun _ iv _ => l.length - (intOf iv).toNat)
    case atStart => exact ⟨0, Nat.zero_le _, rfl, p, by simp, A6, k6, rfl, HO7, HB6⟩
    case round =>
    clear HO HB HO7 HB6 hW hql
    obtain ⟨k, hk, rfl, q2, hq, A, c, rfl, HO, HB⟩ := hrel
    have hql : q2.length ≤ 3000000000002 := by
      rw [hq, List.length_append]
      have h1 := List.length_filter_le (fun x => decide (s < x)) (l.take k)
      have h2 := List.length_take_le' k l
      have h3 := HPL.out
      omega
    have HQ2 := Lib.hid hq
    clear hq
    have hW := HB.out.size
    by_cases hlt : k < l.length
    · obtain ⟨x, hx⟩ : ∃ x, l[k]? = some x := ⟨_, List.getElem?_eq_getElem hlt⟩
      obtain ⟨b1, o1, rfl, hb1, cs1, hcl1, hcs1, rfl⟩ := row_at HL.out hx
      have m1 := cells_later hcs1 (HB.out.mono hh) hb1 0 _ rfl
      simp only [Nat.mul_one, Nat.add_zero] at m1
      have HNX := Lib.hid (filter_next (p := fun x => decide (s < x)) hx)
      clear hx hcs1
      by_cases hc : s < x
      · have HD := Lib.hid (show decide (s < x) = true from decide_eq_true hc)
        have e1 : Op.bytesLess x s = false := by rw [less_iff]; exact decide_eq_false fun h => List.lt_irrefl _ (List.lt_trans h hc)
        have e2 : (x == s) = false := by
          rw [beq_eq_false_iff_ne]
          intro h
          rw [h] at hc
          exact List.lt_irrefl _ hc
        clear hc
        go_wp2_with (at_builtin; refine wpList_growP rfl _ _ 31 rfl w.heap.size 9 1 is _ 16 Try.underlying31 HIS.out.1 HIS.out.2.1 HIS.out.2.2.1 HIS.out.2.2.2 rfl Nat.one_pos _ _ _ rfl HO.out [str x] _ rfl rfl rfl (by intro u hu; rw [List.mem_singleton] at hu; subst hu; rfl) (by omega) (by omega) hW ?_; intro v6 w6 h6 g6 f6; obtain ⟨A6, k6, rfl⟩ := row_form h6; have HO6 := Lib.hid h6; have HB6 := Lib.hid (HB.out.grown g6 hW (fun j hj => (HO.out.lt j hj).1)); clear h6 g6 f6)
        go_roundw
        case rel =>
          refine ⟨k + 1, by omega, by go_num, q2 ++ [x], ?_, A6, k6, by simp, Lib.hid (by simpa using HO6.out), HB6⟩
          rw [HNX.out, ← List.append_assoc, ← HQ2.out]
          simp [HD.out]
        case measure => simp [intOf]; omega
      · have HD := Lib.hid (show decide (s < x) = false from decide_eq_false hc)
        by_cases hx2 : x = s
        · have e2 : (x == s) = true := by simpa using hx2
          have HX2 := Lib.hid hx2
          clear hx2 hc
          go_wp2_with fail
          go_roundw
          case rel =>
            refine ⟨k + 1, by omega, by go_num, q2, ?_, A, c, rfl, HO, HB⟩
            rw [HNX.out, ← List.append_assoc, ← HQ2.out]
            simp [HD.out]
          case measure => simp [intOf]; omega
        · have e2 : (x == s) = false := by simpa using hx2
          have e3 : ¬ x = s := hx2
          have e1 : Op.bytesLess x s = true := by
            rw [less_iff]
            refine decide_eq_true ?_
            apply Classical.byContradiction
            intro h
            exact hx2 (List.le_antisymm (List.not_lt.1 hc) (List.not_lt.1 h))
          clear hx2 hc
          go_wp2_with fail
          go_roundw
          case rel =>
            refine ⟨k + 1, by omega, by go_num, q2, ?_, A, c, rfl, HO, HB⟩
            rw [HNX.out, ← List.append_assoc, ← HQ2.out]
            simp [HD.out]
          case measure => simp [intOf]; omega
    · obtain rfl : k = l.length := by omega
      rw [List.take_length] at HQ2
      go_wp2_with fail
      go_ret
      have e9 : q2 = putV l s := by rw [HQ2.out, ← HP.out, HQ.out]; rfl
      exact ⟨_, rfl, by rw [← e9]; exact HO.out, HB.out⟩
end Go.Proofs.Ytaeklfljibjpiaa.Lv12
