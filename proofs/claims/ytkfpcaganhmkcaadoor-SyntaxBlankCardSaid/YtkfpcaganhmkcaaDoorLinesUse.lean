/-
  Lines as the statements of layer 5 use them: split, one of them, joined.
-/
import Derived.Test.YtkfpcaganhmkcaaDoorCallsL
import Derived.Test.YtkfpcaganhmkcaaDoorCallsJ
namespace Go.Proofs.YtkfpcaganhmkcaaDoor.LinesM
open Go.RowKit Mem

theorem split_to (s : ByteArray) (out : List Ln) (n y : Nat) (h : splitV s.data.toList = (out, n, y)) (hs : s.size ≤ maxLen) (w : World) :
    Calls Tryd.prog 20 #[.string s] w fun e w' => ∃ v xs, e = .returned (.tuple #[v, .int .i64 (n : Int), .int .i64 (y : Int)]) ∧ xs.map line = lns out ∧ xs.length ≤ 4194305 ∧ OwnLins 74 9 w.heap.size w'.heap.size w' v xs ∧ Below w.heap.size w w' := by
  have := split_any s w hs
  rw [h] at this
  exact this
theorem join_to (lo hi : Nat) (v : Value) (xs : List ML) (w : World) (h : Lins lo hi w v xs) (hh : hi ≤ w.heap.size) (hT : (joinV (wordsOf xs)).length ≤ 1099511627776) :
    Calls Tryd.prog 21 #[v] w fun e w' => ∃ s : ByteArray, e = .returned (.string s) ∧ s.data.toList = joinV (wordsOf xs) ∧ Below w.heap.size w w' := by
  refine (join_any lo hi w v xs h hh hT).mono ?_
  rintro e w' ⟨rfl, hb⟩
  exact ⟨_, rfl, rfl, hb⟩
variable {lo hi base : Nat} {E Es : TypeId} {w : World} {v : Value} {xs : List ML}
theorem OwnLins.form (h : OwnLins E Es base hi w v xs) : ∃ A cap, v = .slice A xs.length cap ∧ xs.length ≤ cap ∧ cap ≤ 9223372036854775807 := by
  rcases h.1.2 with ⟨rfl, h0⟩ | ⟨g, cap, cur, rfl, _, _, hnc, hcm, _⟩
  · rw [h0]; exact ⟨none, 0, rfl, by omega, by omega⟩
  · unfold maxLen at hcm; exact ⟨_, cap, rfl, hnc, hcm⟩
theorem Lins.one {b off n cap k c : Nat} {A : Option Addr} {x : ML} (h : Lins lo hi w (.slice A n cap) xs) (hA : A = some ⟨b, off, none⟩) (hx : xs[k]? = some x) : lo ≤ b ∧ b < hi ∧ w.cell? ⟨b, off + k * 2, none⟩ = some (.int .i64 x.1) ∧ w.cell? ⟨b, off + k * 2 + 1, none⟩ = some x.2.1 ∧ Lins lo hi w (.slice (some ⟨b, off + k * 2, none⟩) 1 c) [x] := by
  obtain ⟨A', n', cap', b', off', e, hn, hm, ha, hc⟩ := h
  simp only [Value.slice.injEq] at e
  obtain ⟨rfl, rfl, rfl⟩ := e
  have hk := (List.getElem?_eq_some_iff.1 hx).1
  obtain ⟨e, hb1, hb2⟩ := ha (by omega)
  rw [e] at hA
  simp only [Option.some.injEq, Addr.mk.injEq, and_true] at hA
  obtain ⟨rfl, rfl⟩ := hA
  obtain ⟨h1, h2, h3⟩ := hc k x hx
  refine ⟨hb1, hb2, h1, h2, _, 1, c, _, _, rfl, rfl, by omega, fun _ => ⟨rfl, hb1, hb2⟩, fun i y hy => ?_⟩
  cases i with
  | zero =>
    simp at hy
    subst hy
    rw [Nat.zero_mul, Nat.add_zero]
    exact ⟨h1, h2, h3⟩
  | succ i => simp at hy
theorem of_lns {xs : List ML} {o : List Ln} (h : xs.map line = lns o) : xs.length = o.length ∧ ∀ (i : Nat) (x : ML), xs[i]? = some x → x.1 = (((o.getD i (0, [])).1 : Nat) : Int) ∧ x.2.2 = (o.getD i (0, [])).2 ∧ i < o.length := by
  have hl : xs.length = o.length := by have := congrArg List.length h; simpa [lns] using this
  refine ⟨hl, fun i x hx => ?_⟩
  have hi := (List.getElem?_eq_some_iff.1 hx).1
  obtain ⟨y, hy⟩ : ∃ y, o[i]? = some y := ⟨_, List.getElem?_eq_getElem (by omega)⟩
  have := congrArg (fun l => l[i]?) h
  simp only [lns, List.getElem?_map, hx, hy, Option.map_some, Option.some.injEq] at this
  rw [List.getD_eq_getElem?_getD, hy]
  exact ⟨congrArg Prod.fst this, congrArg Prod.snd this, by omega⟩
end Go.Proofs.YtkfpcaganhmkcaaDoor.LinesM
