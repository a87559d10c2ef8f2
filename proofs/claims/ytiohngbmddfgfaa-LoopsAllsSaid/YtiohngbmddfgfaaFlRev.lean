/-
  Layer 9: a row of numbers of the call's own turned round, and package flow's Order and Come.
-/
import Derived.Test.YtiohngbmddfgfaaFlProg
namespace Go.Proofs.Ytiohngbmddfgfaa.Fl9
open Go.RowKit Api Mem

/-- k of the places on either side have changed. -/
def RevAt (xs : List Int) (k : Nat) (cs : List Int) : Prop := cs.length = xs.length ∧ ∀ q, q < xs.length → cs[q]? = if q < k ∨ xs.length ≤ q + k then xs[xs.length - 1 - q]? else xs[q]?
theorem RevAt.start (xs : List Int) : RevAt xs 0 xs := ⟨rfl, fun q hq => by rw [if_neg (by omega)]⟩
theorem RevAt.next {xs cs : List Int} {k : Nat} {x y : Int} (h : RevAt xs k cs) (hk : k + k + 1 < xs.length) (hx : cs[k]? = some x) (hy : cs[xs.length - 1 - k]? = some y) : RevAt xs (k + 1) ((cs.set k y).set (xs.length - 1 - k) x) := by
  refine ⟨by simp [h.1], fun q hq => ?_⟩
  rw [h.2 k (by omega), if_neg (by omega)] at hx
  rw [h.2 _ (by omega), if_neg (by omega)] at hy
  by_cases e1 : q = xs.length - 1 - k
  · subst e1
    rw [List.getElem?_set_self (by simp [h.1]; omega), if_pos (by omega), show xs.length - 1 - (xs.length - 1 - k) = k by omega, hx]
  · rw [List.getElem?_set_ne (fun e => e1 e.symm)]
    by_cases e2 : q = k
    · subst e2
      rw [List.getElem?_set_self (by rw [h.1]; omega), if_pos (by omega), hy]
    · rw [List.getElem?_set_ne (fun e => e2 e.symm), h.2 q hq]
      by_cases e3 : q < k ∨ xs.length ≤ q + k
      · rw [if_pos e3, if_pos (by omega)]
      · rw [if_neg e3, if_neg (by omega)]
theorem RevAt.done {xs cs : List Int} {k : Nat} (h : RevAt xs k cs) (hk : xs.length ≤ k + k + 1) : cs = xs.reverse := by
  apply List.ext_getElem?
  intro q
  by_cases hq : q < xs.length
  · rw [h.2 q hq, List.getElem?_reverse hq]
    by_cases e : q < k ∨ xs.length ≤ q + k
    · rw [if_pos e]
    · rw [if_neg e, show xs.length - 1 - q = q by omega]
  · rw [List.getElem?_eq_none (by rw [h.1]; omega), List.getElem?_eq_none (by simp; omega)]
set_option maxRecDepth 100000 in
set_option maxHeartbeats 8000000 in
theorem reverse_any (w : World) (base : Nat) (v : Value) (xs : List Int) (hn : xs.length ≤ 4611686018427387903) (ho : w.ownsRow base 3 1 v xs.length (iC xs)) :
    Calls Try.prog 38 #[v] w fun e w' => e = .returned (.tuple #[]) ∧ w'.ownsRow base 3 1 v xs.length (iC xs.reverse) ∧ Below base w w' ∧ w.heap.size ≤ w'.heap.size := by
  obtain ⟨A, c, rfl⟩ := any9 ho
  have HO := Lib.hid ho
  clear ho
  go_enter Try.func38, Try.ntmps38
  go_wp2_with fail
  go_loopw [2, 3] (fun i j wr => ∃ (k : Nat) (cs : List Int), k ≤ xs.length ∧ i = .int .i64 k ∧ j = .int .i64 ((xs.length : Int) - 1 - (k : Int)) ∧ Hid (RevAt xs k cs) ∧ Hid (wr.ownsRow base 3 1 (.slice A xs.length c) xs.length (iC cs)) ∧ Hid (Below base w wr) ∧ Hid (w.heap.size ≤ wr.heap.size)) (fun i _ _ => xs.length - (intOf i).toNat)
  case atStart => exact ⟨0, xs, Nat.zero_le _, rfl, by simp, Lib.hid (RevAt.start xs), HO, Lib.hid (Below.refl _ _), Lib.hid (Nat.le_refl _)⟩
  case round =>
  obtain ⟨k, cs, hk, rfl, rfl, HR, HOr, HB, HS⟩ := hrel
  by_cases hlt : k + k + 1 < xs.length
  · obtain ⟨g, cap, e9, hg1, hg2, hg3⟩ := form9 HOr.out (by omega)
    simp only [Value.slice.injEq, true_and] at e9
    obtain ⟨rfl, rfl⟩ := e9
    have hcl := HR.out.1
    obtain ⟨x, hx⟩ : ∃ x, cs[k]? = some x := ⟨_, List.getElem?_eq_getElem (by omega)⟩
    obtain ⟨y, hy⟩ : ∃ y, cs[xs.length - 1 - k]? = some y := ⟨_, List.getElem?_eq_getElem (by omega)⟩
    obtain ⟨m, hm⟩ : ∃ m, xs.length - 1 - k = m := ⟨_, rfl⟩
    have hmi : (xs.length : Int) - 1 - (k : Int) = (m : Int) := by omega
    rw [hm] at hy
    have c1 := (HOr.out.cellAt k (by omega)).trans (show (iC cs)[k]? = some (i64 x) by rw [List.getElem?_map, hx]; rfl)
    have c2 := (HOr.out.cellAt m (by omega)).trans (show (iC cs)[m]? = some (i64 y) by rw [List.getElem?_map, hy]; rfl)
    have t1 := HOr.out.frozenAt k
    have t2 := HOr.out.frozenAt m
    have e0 : decide ((k : Int) < (m : Int)) = true := decide_eq_true (by omega)
    have HN := Lib.hid (HR.out.next hlt hx (by rw [hm]; exact hy))
    have HO2 := Lib.hid (show ((wr.setCell ⟨g, k, none⟩ (i64 y)).setCell ⟨g, m, none⟩ (i64 x)).ownsRow base 3 1 (.slice (some ⟨g, 0, none⟩) xs.length c) xs.length (iC ((cs.set k y).set m x)) by
      have := ((HOr.out.stored k (i64 y)).1.stored m (i64 x)).1
      rw [← List.map_set, ← List.map_set] at this
      exact this)
    have HB2 := Lib.hid ((HB.out.setCell (p := ⟨g, k, none⟩) hg1 (i64 y)).setCell (p := ⟨g, m, none⟩) hg1 (i64 x))
    have hml : m < xs.length := by omega
    have hkm : k < m := by omega
    rw [hmi]
    go_wp2_with fail
    go_region
    go_wp2_with fail
    go_roundw
    case rel => exact ⟨k + 1, _, by omega, by go_num, by go_num, by rw [hm] at HN; exact HN, HO2, Lib.hid HB2.out.drew, Lib.hid (by simpa using HS.out)⟩
    case measure => simp [intOf]; omega
  · have e0 : decide ((k : Int) < (xs.length : Int) - 1 - (k : Int)) = false := decide_eq_false (by omega)
    have HE := Lib.hid (HR.out.done (by omega))
    go_wp2_with fail
    go_end0
    exact ⟨rfl, by rw [← HE.out]; exact HOr.out, HB.out, HS.out⟩
theorem start_nil : startV [] = ([], []) := rfl
theorem come_start (g : List (List Int)) : comeV g = (startV g).1 := by
  unfold comeV
  split
  · rename_i h
    obtain rfl := List.eq_nil_of_length_eq_zero h
    rfl
  · rfl
theorem order_start (g : List (List Int)) : orderV g = (startV g).2.reverse := by
  unfold orderV
  split
  · rename_i h
    obtain rfl := List.eq_nil_of_length_eq_zero h
    rfl
  · rfl
theorem start_len (g : List (List Int)) : (startV g).1.length = g.length ∧ (startV g).2.length ≤ g.length := by
  by_cases h : g.length = 0
  · obtain rfl := List.eq_nil_of_length_eq_zero h
    exact ⟨rfl, Nat.le_refl _⟩
  · have := down_good g g.length 0 (List.replicate g.length false) [] (by rw [List.getElem?_replicate, if_pos (by omega)]) (by rw [un_none]; exact Nat.le_refl _) (by simp)
    rw [un_none] at this
    exact ⟨this.1, by have := this.2.1; simp only [List.length_nil] at this; unfold startV; omega⟩
theorem come_len (g : List (List Int)) : (comeV g).length = g.length := by rw [come_start]; exact (start_len g).1
theorem order_len (g : List (List Int)) : (orderV g).length ≤ g.length := by rw [order_start, List.length_reverse]; exact (start_len g).2
/-- what Order and Come answer. -/
def OrderP (g : List (List Int)) (w : World) (e : Ending) (w' : World) : Prop := ∃ vo, e = .returned vo ∧ w'.ownsRow w.heap.size 3 1 vo (orderV g).length (iC (orderV g)) ∧ Below w.heap.size w w'
def ComeP (g : List (List Int)) (w : World) (e : Ending) (w' : World) : Prop := ∃ vm, e = .returned vm ∧ w'.ownsRow w.heap.size 4 1 vm g.length (bC (comeV g)) ∧ Below w.heap.size w w'
set_option maxRecDepth 100000 in
set_option maxHeartbeats 8000000 in
theorem order_any (lo hi : Nat) (w : World) (v : Value) (g : List (List Int)) (hg : Graph lo hi w v g) (hh : hi ≤ w.heap.size) (hn : g.length ≤ 1000) :
    Calls Try.prog 24 #[v] w (OrderP g w) := by
  have QD := Lib.hid (down_prog lo hi w v g hg hh hn)
  have hl := order_len g
  rw [order_start, List.length_reverse] at hl
  obtain ⟨A1, k1, rfl⟩ := Row.form hg
  obtain ⟨R, hR⟩ : ∃ R, startV g = R := ⟨_, rfl⟩
  have HR := Lib.hid hR
  rw [hR] at hl
  clear hR hg
  go_enter Try.func24, Try.ntmps24
  go_wp2_with fail
  refine QD.out.mono ?_
  rw [HR.out]
  rintro e w6 ⟨vm, vl, rfl, om, ol, hb6, hs6⟩
  have QR := Lib.hid (reverse_any w6 w.heap.size vl R.2 (by omega) ol)
  have HB := Lib.hid hb6
  clear om ol hb6 hs6
  go_wp2_with fail
  refine QR.out.mono ?_
  rintro e w7 ⟨rfl, ol, hb7, hs7⟩
  have HL := Lib.hid ol
  have HB7 := Lib.hid (HB.out.trans hb7)
  clear ol hb7 hs7
  go_wp2_with fail
  go_ret
  refine ⟨_, rfl, ?_, HB7.out⟩
  rw [order_start, HR.out, List.length_reverse]
  exact HL.out
set_option maxRecDepth 100000 in
set_option maxHeartbeats 8000000 in
theorem come_any9 (lo hi : Nat) (w : World) (v : Value) (g : List (List Int)) (hg : Graph lo hi w v g) (hh : hi ≤ w.heap.size) (hn : g.length ≤ 1000) :
    Calls Try.prog 26 #[v] w (ComeP g w) := by
  have QD := Lib.hid (down_prog lo hi w v g hg hh hn)
  obtain ⟨A1, k1, rfl⟩ := Row.form hg
  clear hg
  go_enter Try.func26, Try.ntmps26
  go_wp2_with fail
  refine QD.out.mono ?_
  rintro e w6 ⟨vm, vl, rfl, om, ol, hb6, hs6⟩
  have HB := Lib.hid hb6
  have HM := Lib.hid om
  clear om ol hb6 hs6
  go_wp2_with fail
  go_ret
  exact ⟨_, rfl, by rw [come_start]; exact HM.out, HB.out⟩
end Go.Proofs.Ytiohngbmddfgfaa.Fl9
