/-
  What the statements of layer 4 share: lines handed over, and the answers that the document fixes.
-/
import Derived.Test.YtdibmmiobmlcbaaRows
import Derived.Test.YtdibmmiobmlcbaaLinesSplit
import Derived.Test.YtdibmmiobmlcbaaLinesBack
import Derived.Test.YtdibmmiobmlcbaaLinesSame
import Derived.Test.YtdibmmiobmlcbaaLinesJoin
namespace Go.Proofs.Ytdibmmiobmlcbaa
open Go.RowKit LinesM Mem

theorem split_at (s : ByteArray) (out : List Ln) (n y : Nat) (N Y : Int) (hN : N = (n : Int)) (hY : Y = (y : Int)) (h : splitV s.data.toList = (out, n, y)) (hs : s.size ≤ maxLen) (w : World) :
    Calls Try.prog 9 #[.string s] w fun e w' => ∃ v xs, e = .returned (.tuple #[v, .int .i64 N, .int .i64 Y]) ∧ xs.map line = lns out ∧ xs.length ≤ 4194305 ∧ OwnLins 40 9 w.heap.size w'.heap.size w' v xs ∧ Below w.heap.size w w' := by
  have := split_any s w hs
  rw [h] at this
  subst hN hY
  exact this

/-- The same lines in another row. -/
theorem lins_over {lo hi b2 : Nat} {E2 : TypeId} {w w' : World} {v v2 : Value} {xs : List ML} (h : Lins lo hi w v xs) (hb : Below hi w w') (hh : hi ≤ w'.heap.size) (hr : w'.ownsRow b2 E2 2 v2 xs.length (cells xs)) (hlo : lo ≤ b2) : Lins lo w'.heap.size w' v2 xs := by
  obtain ⟨A, n, cap, b, off, rfl, hn, hm, ha, hc⟩ := h
  refine Lins.of_own hr (by omega) hlo (Nat.le_refl _) fun x hx => ?_
  obtain ⟨i, hi, rfl⟩ := List.mem_iff_getElem.1 hx
  exact ((hc i _ (List.getElem?_eq_getElem hi)).2.2.below hb).wide (Nat.le_refl _) hh

/-- each line's words, wherever they lie. -/
theorem Lins_strs {lo hi : Nat} {w : World} {v : Value} {xs : List ML} (h : Lins lo hi w v xs) : ∀ x ∈ xs, Strs lo hi w x.2.1 x.2.2 := by
  obtain ⟨A, n, cap, b, off, rfl, hn, hm, ha, hc⟩ := h
  intro x hx
  obtain ⟨i, hi, rfl⟩ := List.mem_iff_getElem.1 hx
  exact (hc i _ (List.getElem?_eq_getElem hi)).2.2
theorem cells_ones {lo hi : Nat} {w : World} {v : Value} {xs : List ML} (h : Lins lo hi w v xs) : ∀ u ∈ cells xs, u.oneCell' = true := by
  intro u hu
  obtain ⟨x, hx, hu⟩ := List.mem_flatMap.1 hu
  exact cells_one (Lins_strs h x hx) u hu

theorem alike_of {xs ys : List ML} (h : xs.map line = ys.map line) : Alike true xs ys := by
  have hl : xs.length = ys.length := by simpa using congrArg List.length h
  refine ⟨hl, fun i x y hx hy => ?_⟩
  have h1 : (xs.map line)[i]? = some (line x) := by rw [List.getElem?_map, hx]; rfl
  rw [h, List.getElem?_map, hy] at h1
  have h2 : line y = line x := by simpa using h1
  exact ⟨(congrArg Prod.snd h2).symm, fun _ => (congrArg Prod.fst h2).symm⟩
theorem alike_words {xs ys : List ML} (h : xs.map (fun x => x.2.2) = ys.map (fun x => x.2.2)) : Alike false xs ys := by
  have hl : xs.length = ys.length := by simpa using congrArg List.length h
  refine ⟨hl, fun i x y hx hy => ?_⟩
  have h1 : (xs.map fun x => x.2.2)[i]? = some x.2.2 := by rw [List.getElem?_map, hx]; rfl
  rw [h, List.getElem?_map, hy] at h1
  have h2 : y.2.2 = x.2.2 := by simpa using h1
  exact ⟨h2.symm, fun h => by cases h⟩
theorem words_of_lns {xs : List ML} {out : List Ln} (h : xs.map line = lns out) : wordsOf xs = out.map fun x => x.2 := by
  have : wordsOf xs = (xs.map line).map Prod.snd := by unfold wordsOf; rw [List.map_map]; rfl
  rw [this, h]
  unfold lns
  rw [List.map_map]
  rfl

theorem join_at (lo hi : Nat) (v : Value) (xs : List ML) (T : List UInt8) (s : ByteArray) (hs : s = ⟨T.toArray⟩) (w : World) (h : Lins lo hi w v xs) (hh : hi ≤ w.heap.size) (hj : joinV (wordsOf xs) = T) (hT : T.length ≤ 1099511627776) :
    Calls Try.prog 15 #[v] w fun e w' => e = .returned (.string s) ∧ Below w.heap.size w w' := by
  have := join_any lo hi w v xs h hh (by rw [hj]; exact hT)
  rw [hj, ← hs] at this
  exact this

theorem lit_strs {w : World} {g : Nat} (ws : List Wd) (cs : List Value) (hcs : cs = strs ws) (hg : g < w.heap.size) (h : Own w g 9 cs) (hm : ws.length ≤ 9223372036854775807) (cap : Nat) : Strs 0 w.heap.size w (.slice (some ⟨g, 0, none⟩) ws.length cap) ws := by
  refine ⟨_, _, cap, g, 0, rfl, rfl, hm, fun _ => ⟨rfl, Nat.zero_le _, hg⟩, fun i x hx => ?_⟩
  rw [Nat.zero_add, h.cell, hcs]
  unfold strs
  rw [List.getElem?_map, hx]; rfl
theorem lit_lins {w : World} {g : Nat} (xs : List ML) (cs : List Value) (hcs : cs = cells xs) (hg : g < w.heap.size) (h : Own w g 41 cs) (hm : xs.length ≤ 4611686018427387903) (cap : Nat) (hs : ∀ x ∈ xs, Strs 0 w.heap.size w x.2.1 x.2.2) : Lins 0 w.heap.size w (.slice (some ⟨g, 0, none⟩) xs.length cap) xs := by
  refine ⟨_, _, cap, g, 0, rfl, rfl, hm, fun _ => ⟨rfl, Nat.zero_le _, hg⟩, fun i x hx => ?_⟩
  obtain ⟨c1, c2⟩ := cells_at xs i x hx
  rw [Nat.zero_add, h.cell, h.cell, hcs]
  exact ⟨c1, c2, hs x (List.mem_of_getElem? hx)⟩

/-- What the document fixes of 'a  b;c', an empty line, ' d'. -/
def fixed (p q : Value) : List ML := [(1, p, [[97], [98]]), (3, q, [[100]])]
theorem lit_fixed (w : World) : Lins 0 (((w.alloc (.cells #[.string ⟨#[97]⟩, .string ⟨#[98]⟩] 9)).alloc (.cells #[.string ⟨#[100]⟩] 9)).alloc (.cells #[.int .i64 1, .slice (some ⟨w.heap.size, 0, none⟩) 2 2, .int .i64 3, .slice (some ⟨w.heap.size + 1, 0, none⟩) 1 1] 41)).heap.size
    (((w.alloc (.cells #[.string ⟨#[97]⟩, .string ⟨#[98]⟩] 9)).alloc (.cells #[.string ⟨#[100]⟩] 9)).alloc (.cells #[.int .i64 1, .slice (some ⟨w.heap.size, 0, none⟩) 2 2, .int .i64 3, .slice (some ⟨w.heap.size + 1, 0, none⟩) 1 1] 41))
    (.slice (some ⟨w.heap.size + 1 + 1, 0, none⟩) 2 2) (fixed (.slice (some ⟨w.heap.size, 0, none⟩) 2 2) (.slice (some ⟨w.heap.size + 1, 0, none⟩) 1 1)) := by
  obtain ⟨w1, h1⟩ : ∃ w1, w.alloc (.cells #[.string ⟨#[97]⟩, .string ⟨#[98]⟩] 9) = w1 := ⟨_, rfl⟩
  have s1 : w1.heap.size = w.heap.size + 1 := by rw [← h1]; simp
  have o1 : Own w1 w.heap.size 9 [.string ⟨#[97]⟩, .string ⟨#[98]⟩] := by rw [← h1]; exact Own.made w _ _
  rw [h1]
  obtain ⟨w2, h2⟩ : ∃ w2, w1.alloc (.cells #[.string ⟨#[100]⟩] 9) = w2 := ⟨_, rfl⟩
  have s2 : w2.heap.size = w.heap.size + 1 + 1 := by rw [← h2, ← s1]; simp
  have o2 : Own w2 (w.heap.size + 1) 9 [.string ⟨#[100]⟩] := by rw [← h2, ← s1]; exact Own.made w1 _ _
  have o12 : Own w2 w.heap.size 9 [.string ⟨#[97]⟩, .string ⟨#[98]⟩] := by rw [← h2]; exact o1.alloc _
  rw [h2]
  obtain ⟨w3, h3⟩ : ∃ w3, w2.alloc (.cells #[.int .i64 1, .slice (some ⟨w.heap.size, 0, none⟩) 2 2, .int .i64 3, .slice (some ⟨w.heap.size + 1, 0, none⟩) 1 1] 41) = w3 := ⟨_, rfl⟩
  have o3 : Own w3 (w.heap.size + 1 + 1) 41 [.int .i64 1, .slice (some ⟨w.heap.size, 0, none⟩) 2 2, .int .i64 3, .slice (some ⟨w.heap.size + 1, 0, none⟩) 1 1] := by rw [← h3, ← s2]; exact Own.made w2 _ _
  have o13 : Own w3 w.heap.size 9 [.string ⟨#[97]⟩, .string ⟨#[98]⟩] := by rw [← h3]; exact o12.alloc _
  have o23 : Own w3 (w.heap.size + 1) 9 [.string ⟨#[100]⟩] := by rw [← h3]; exact o2.alloc _
  rw [h3]
  refine lit_lins (fixed _ _) _ rfl o3.lt o3 (by show 2 ≤ _; decide) 2 fun x hx => ?_
  simp only [fixed, List.mem_cons, List.not_mem_nil, or_false] at hx
  rcases hx with rfl | rfl
  · exact lit_strs [[97], [98]] _ rfl o13.lt o13 (by decide) 2
  · exact lit_strs [[100]] _ rfl o23.lt o23 (by decide) 1

set_option maxRecDepth 100000 in
set_option maxHeartbeats 8000000 in
theorem awake_any (w : World) : Calls Try.prog 11 #[] w fun e w' => e = .returned (.bool true) ∧ Below w.heap.size w w' := by
  have Q1 := Lib.hid fun w => split_at ⟨#[97, 32, 32, 98, 59, 99, 10, 10, 32, 100]⟩ [(1, [[97], [98]]), (3, [[100]])] 0 0 0 0 rfl rfl (by decide +kernel) (by unfold maxLen; decide) w
  have Q2 := Lib.hid fun w => split_at ⟨#[97, 10, 1]⟩ [] 2 3 2 3 rfl rfl (by decide +kernel) (by unfold maxLen; decide) w
  go_enter Try.func11, Try.ntmps11
  go_wp2_with fail
  refine (Q1.out _).mono ?_; rintro e w1 ⟨v1, xs, rfl, hx, hn, ho1, hb1⟩
  have HX := Lib.hid hx
  have HO1 := Lib.hid ho1
  have HB1 := Lib.hid hb1
  clear hx ho1 hb1
  go_wp2_with fail
  refine (Q2.out _).mono ?_; rintro e w2 ⟨v2, ys, rfl, _, _, _, hb2⟩
  have HL2 := Lib.hid ((HO1.out.below hb2).lins (by omega))
  have HB2 := Lib.hid (HB1.out.trans (hb2.mono HB1.out.size))
  clear hb2 HO1
  go_wp2_with fail
  refine (back_any _ _ _ _ xs HL2.out (Nat.le_refl _) (by omega)).mono ?_; rintro e w3 ⟨v3, rfl, hr3, hb3⟩
  have HL3 := Lib.hid (HL2.out.below hb3)
  have HL4 := Lib.hid (lins_over HL2.out hb3 hb3.size hr3 (by have := HB2.out.size; omega))
  have HB3 := Lib.hid (HB2.out.trans (hb3.mono HB2.out.size))
  have HS3 := Lib.hid hb3.size
  clear hb3 hr3
  go_wp2_with fail
  have hb4 : Below w3.heap.size w3 (((w3.alloc (.cells #[.string ⟨#[97]⟩, .string ⟨#[98]⟩] 9)).alloc (.cells #[.string ⟨#[100]⟩] 9)).alloc (.cells #[.int .i64 1, .slice (some ⟨w3.heap.size, 0, none⟩) 2 2, .int .i64 3, .slice (some ⟨w3.heap.size + 1, 0, none⟩) 1 1] 41)) :=
    (((Below.refl _ _).alloc (Nat.le_refl _) _).alloc (by simp) _).alloc (by simp; omega) _
  have HB4 := Lib.hid hb4
  have hal : Alike true xs (fixed (.slice (some ⟨w3.heap.size, 0, none⟩) 2 2) (.slice (some ⟨w3.heap.size + 1, 0, none⟩) 1 1)) := alike_of (by rw [HX.out]; rfl)
  refine (same_any true _ _ _ _ _ _ _ xs _ (HL4.out.below HB4.out) (lit_fixed w3) HB4.out.size (Nat.le_refl _) hal).mono ?_; rintro e w5 ⟨rfl, hb5⟩
  have HB5 := Lib.hid ((HB3.out.trans (HB4.out.mono HB3.out.size)).trans (hb5.mono (Nat.le_trans HB3.out.size HB4.out.size)))
  have HS5 : Hid (w2.heap.size ≤ w5.heap.size) := Lib.hid (Nat.le_trans HS3.out (Nat.le_trans HB4.out.size hb5.size))
  have HL5 := Lib.hid ((HL3.out.below (HB4.out.mono HS3.out)).below (hb5.mono (Nat.le_trans HS3.out HB4.out.size)))
  clear hb4 hb5 hal
  go_wp2_with fail
  refine (join_at _ _ _ xs [97, 32, 98, 10, 100, 10] ⟨#[97, 32, 98, 10, 100, 10]⟩ rfl _ HL5.out HS5.out (by rw [words_of_lns HX.out]; decide +kernel) (by decide)).mono ?_; rintro e w6 ⟨rfl, hb6⟩
  have HB6 := Lib.hid (HB5.out.trans (hb6.mono HB5.out.size))
  clear hb6
  go_wp2_with fail
  go_ret
  exact ⟨rfl, HB6.out⟩
end Go.Proofs.Ytdibmmiobmlcbaa
