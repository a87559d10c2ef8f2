/-
  Layer 11, plainly: ways of a step or more, told by going through the points between, one after another, in place.
-/
import Derived.Test.YtiohngbmddfgfaaFlPredV
namespace Go.Proofs.Ytiohngbmddfgfaa.Lp11

/-- from i one comes to k by steps, all points between being in ok. -/
inductive Pth (st : Nat → Nat → Prop) (ok : Nat → Prop) (i : Nat) : Nat → Prop
  | one {k : Nat} : st i k → Pth st ok i k
  | more {q r : Nat} : Pth st ok i q → ok q → st q r → Pth st ok i r
theorem Pth.mono {st : Nat → Nat → Prop} {ok ok2 : Nat → Prop} (hm : ∀ p, ok p → ok2 p) {i k : Nat} (h : Pth st ok i k) : Pth st ok2 i k := by
  induction h with
  | one h => exact .one h
  | more _ h1 h2 ih => exact .more ih (hm _ h1) h2
theorem Pth.split {st : Nat → Nat → Prop} {m i k : Nat} (h : Pth st (fun p => p < m + 1) i k) : Pth st (fun p => p < m) i k ∨ (Pth st (fun p => p < m) i m ∧ Pth st (fun p => p < m) m k) := by
  induction h with
  | one h => exact .inl (.one h)
  | more h0 h1 h2 ih =>
    rename_i q r
    by_cases e : q = m
    · subst e
      rcases ih with ih | ⟨ih, _⟩
      · exact .inr ⟨ih, .one h2⟩
      · exact .inr ⟨ih, .one h2⟩
    · rcases ih with ih | ⟨ih1, ih2⟩
      · exact .inl (.more ih (by omega) h2)
      · exact .inr ⟨ih1, .more ih2 (by omega) h2⟩
theorem Pth.join {st : Nat → Nat → Prop} {ok : Nat → Prop} {i m k : Nat} (h : Pth st ok i m) (hm : ok m) (g : Pth st ok m k) : Pth st ok i k := by
  induction g with
  | one h2 => exact .more h hm h2
  | more _ h1 h2 ih => exact .more ih h1 h2
/-- a table of truths. -/
abbrev Tab := List (List Bool)
def tb (T : Tab) (i k : Nat) : Bool := (T.getD i []).getD k false
/-- one place of the table in the round of m. -/
def putT (m : Nat) (T : Tab) (i k : Nat) : Tab := T.set i ((T.getD i []).set k (tb T i k || (tb T i m && tb T m k)))
def Sq (n : Nat) (T : Tab) : Prop := T.length = n ∧ ∀ i, i < n → (T.getD i []).length = n
theorem getD_set9 {α : Type} {l : List α} {i j : Nat} {x d : α} (h : i < l.length) : (l.set i x).getD j d = if i = j then x else l.getD j d := by
  rw [List.getD_eq_getElem?_getD, List.getD_eq_getElem?_getD]
  by_cases e : i = j
  · subst e; rw [List.getElem?_set_self h, if_pos rfl]; rfl
  · rw [List.getElem?_set_ne e, if_neg e]
theorem put_sq {n m i k : Nat} {T : Tab} (h : Sq n T) (hi : i < n) : Sq n (putT m T i k) := by
  refine ⟨by simp [putT, h.1], fun j hj => ?_⟩
  unfold putT
  rw [getD_set9 (by rw [h.1]; exact hi)]
  split
  · rw [List.length_set]; exact h.2 i hi
  · exact h.2 j hj
theorem put_tb {n m i k : Nat} {T : Tab} (h : Sq n T) (hi : i < n) (hk : k < n) (a b : Nat) : tb (putT m T i k) a b = if a = i ∧ b = k then (tb T i k || (tb T i m && tb T m k)) else tb T a b := by
  unfold putT
  rw [tb, getD_set9 (by rw [h.1]; exact hi)]
  by_cases e : i = a
  · subst e
    rw [if_pos rfl, getD_set9 (by rw [h.2 i hi]; exact hk)]
    by_cases e2 : k = b
    · subst e2; rw [if_pos rfl, if_pos ⟨rfl, rfl⟩]
    · rw [if_neg e2, if_neg (fun h => e2 h.2.symm)]; rfl
  · rw [if_neg e, if_neg (fun h => e h.1.symm)]; rfl
/-- the table grows, and tells nothing but ways. -/
theorem put_grow {n m i k : Nat} {T : Tab} (h : Sq n T) (hi : i < n) (hk : k < n) {a b : Nat} (ht : tb T a b = true) : tb (putT m T i k) a b = true := by
  rw [put_tb h hi hk]
  split
  · rename_i e
    obtain ⟨rfl, rfl⟩ := e
    rw [ht]; rfl
  · exact ht
theorem put_sound {n m i k : Nat} {T : Tab} {st : Nat → Nat → Prop} (h : Sq n T) (hi : i < n) (hk : k < n) (hs : ∀ a b, tb T a b = true → Pth st (fun _ => True) a b) : ∀ a b, tb (putT m T i k) a b = true → Pth st (fun _ => True) a b := by
  intro a b ht
  rw [put_tb h hi hk] at ht
  split at ht
  · rename_i e
    obtain ⟨rfl, rfl⟩ := e
    rw [Bool.or_eq_true, Bool.and_eq_true] at ht
    rcases ht with ht | ⟨h1, h2⟩
    · exact hs a b ht
    · exact (hs a m h1).join trivial (hs m b h2)
  · exact hs a b ht
/-- a row of the round of m, and the round. -/
def rowT (m : Nat) (T : Tab) (i k : Nat) : Tab := (List.range k).foldl (fun T k => putT m T i k) T
def roundT (n m : Nat) (T : Tab) (i : Nat) : Tab := (List.range i).foldl (fun T i => rowT m T i n) T
def waysT (n : Nat) (T : Tab) (m : Nat) : Tab := (List.range m).foldl (fun T m => roundT n m T n) T
theorem rowT_next (m : Nat) (T : Tab) (i k : Nat) : rowT m T i (k + 1) = putT m (rowT m T i k) i k := by simp [rowT, List.range_succ]
theorem roundT_next (n m : Nat) (T : Tab) (i : Nat) : roundT n m T (i + 1) = rowT m (roundT n m T i) i n := by simp [roundT, List.range_succ]
theorem waysT_next (n : Nat) (T : Tab) (m : Nat) : waysT n T (m + 1) = roundT n m (waysT n T m) n := by simp [waysT, List.range_succ]
/-- T2 is T grown, telling nothing but ways. -/
structure Gr (st : Nat → Nat → Prop) (n : Nat) (T T2 : Tab) : Prop where
  sq : Sq n T → Sq n T2
  up : Sq n T → ∀ a b, tb T a b = true → tb T2 a b = true
  ok : Sq n T → (∀ a b, tb T a b = true → Pth st (fun _ => True) a b) → ∀ a b, tb T2 a b = true → Pth st (fun _ => True) a b
theorem Gr.refl (st : Nat → Nat → Prop) (n : Nat) (T : Tab) : Gr st n T T := ⟨id, fun _ _ _ h => h, fun _ h => h⟩
theorem Gr.trans {st : Nat → Nat → Prop} {n : Nat} {T T2 T3 : Tab} (h : Gr st n T T2) (g : Gr st n T2 T3) : Gr st n T T3 := ⟨fun s => g.sq (h.sq s), fun s a b ht => g.up (h.sq s) a b (h.up s a b ht), fun s hs => g.ok (h.sq s) (h.ok s hs)⟩
theorem row_gr (st : Nat → Nat → Prop) (n m : Nat) (T : Tab) (i : Nat) (hi : i < n) : ∀ k, k ≤ n → Gr st n T (rowT m T i k)
  | 0, _ => Gr.refl _ _ _
  | k + 1, h => by
    rw [rowT_next]
    exact (row_gr st n m T i hi k (by omega)).trans ⟨fun s => put_sq s hi, fun s a b ht => put_grow s hi (by omega) ht, fun s hs => put_sound s hi (by omega) hs⟩
theorem round_gr (st : Nat → Nat → Prop) (n m : Nat) (T : Tab) : ∀ i, i ≤ n → Gr st n T (roundT n m T i)
  | 0, _ => Gr.refl _ _ _
  | i + 1, h => by
    rw [roundT_next]
    exact (round_gr st n m T i (by omega)).trans (row_gr st n m _ i (by omega) n (Nat.le_refl _))
theorem ways_gr (st : Nat → Nat → Prop) (n : Nat) (T : Tab) : ∀ m, m ≤ n → Gr st n T (waysT n T m)
  | 0, _ => Gr.refl _ _ _
  | m + 1, h => by
    rw [waysT_next]
    exact (ways_gr st n T m (by omega)).trans (round_gr st n m _ n (Nat.le_refl _))
/-- behind the round of m: what goes by m is told. -/
theorem row_has {n m i : Nat} {T : Tab} (s : Sq n T) (hi : i < n) : ∀ k, k ≤ n → ∀ b, b < k → tb T i m = true → tb T m b = true → tb (rowT m T i k) i b = true
  | 0, _, b, hb, _, _ => by omega
  | k + 1, h, b, hb, h1, h2 => by
    have g := row_gr (fun _ _ => True) n m T i hi k (by omega)
    rw [rowT_next, put_tb (g.sq s) hi (by omega)]
    by_cases e : b = k
    · subst e
      rw [if_pos ⟨rfl, rfl⟩, g.up s i m h1, g.up s m b h2]
      simp
    · rw [if_neg (fun h => e h.2)]
      exact row_has s hi k (by omega) b (by omega) h1 h2
theorem round_has {n m : Nat} {T : Tab} (s : Sq n T) : ∀ i, i ≤ n → ∀ a b, a < i → b < n → tb T a m = true → tb T m b = true → tb (roundT n m T i) a b = true
  | 0, _, a, b, ha, _, _, _ => by omega
  | i + 1, h, a, b, ha, hb, h1, h2 => by
    have g := round_gr (fun _ _ => True) n m T i (by omega)
    rw [roundT_next]
    by_cases e : a = i
    · subst e
      exact row_has (g.sq s) (by omega) n (Nat.le_refl _) b hb (g.up s a m h1) (g.up s m b h2)
    · exact (row_gr (fun _ _ => True) n m _ i (by omega) n (Nat.le_refl _)).up (g.sq s) a b (round_has s i (by omega) a b (by omega) hb h1 h2)
theorem ways_has {n : Nat} {T : Tab} {st : Nat → Nat → Prop} (s : Sq n T) (hst : ∀ a b, a < n → b < n → st a b → tb T a b = true) : ∀ m, m ≤ n → ∀ a b, a < n → b < n → Pth st (fun p => p < m) a b → tb (waysT n T m) a b = true
  | 0, _, a, b, ha, hb, h => by
    cases h with
    | one h => exact hst a b ha hb h
    | more _ h1 _ => exact absurd h1 (Nat.not_lt_zero _)
  | m + 1, hm, a, b, ha, hb, h => by
    have g := ways_gr st n T m (by omega)
    rw [waysT_next]
    rcases h.split with h1 | ⟨h1, h2⟩
    · exact (round_gr st n m _ n (Nat.le_refl _)).up (g.sq s) a b (ways_has s hst m (by omega) a b ha hb h1)
    · exact round_has (g.sq s) n (Nat.le_refl _) a b ha hb (ways_has s hst m (by omega) a m ha (by omega) h1) (ways_has s hst m (by omega) m b (by omega) hb h2)
/-- what is told at the end: just the ways. -/
theorem ways_iff {n : Nat} {T : Tab} {st : Nat → Nat → Prop} (s : Sq n T) (hin : ∀ a b, st a b → a < n ∧ b < n) (hst : ∀ a b, tb T a b = true ↔ st a b) {a b : Nat} (ha : a < n) (hb : b < n) : tb (waysT n T n) a b = true ↔ Pth st (fun _ => True) a b := by
  constructor
  · exact (ways_gr st n T n (Nat.le_refl _)).ok s (fun a b h => .one ((hst a b).1 h)) a b
  · intro h
    refine ways_has s (fun a b _ _ h => (hst a b).2 h) n (Nat.le_refl _) a b ha hb ?_
    induction h with
    | one h => exact .one h
    | more h0 h1 h2 ih => exact .more (ih (hin _ _ h2).1) (hin _ _ h2).1 h2
end Go.Proofs.Ytiohngbmddfgfaa.Lp11
