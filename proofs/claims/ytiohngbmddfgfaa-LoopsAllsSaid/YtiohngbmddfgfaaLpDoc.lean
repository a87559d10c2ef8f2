/-
  Layer 11, plainly: the document's loops, and what 'crossed' is, as functions of the graph.
-/
import Derived.Test.YtiohngbmddfgfaaLpDfs
import Derived.Test.YtiohngbmddfgfaaLpWays
namespace Go.Proofs.Ytiohngbmddfgfaa.Lp11
open Fl9 Dm10

/-- one step of the document's table; less is taken away (-1: none). -/
def stB (g : List (List Int)) (less : Int) (i k : Nat) : Bool := (comeV g).getD i false && ((comeV g).getD k false && (decide ((i : Int) ≠ less) && (decide ((k : Int) ≠ less) && decide ((k : Int) ∈ g.getD i []))))
def tabOf (n : Nat) (f : Nat → Nat → Bool) : Tab := (List.range n).map fun i => (List.range n).map (f i)
def stepT (g : List (List Int)) (less : Int) : Tab := tabOf g.length (stB g less)
/-- less the steps back to heads. -/
def fwB (g : List (List Int)) (i k : Nat) : Bool := stB g (-1) i k && !domB g k i
def fwT (g : List (List Int)) : Tab := tabOf g.length (fwB g)
theorem tabOf_sq (n : Nat) (f : Nat → Nat → Bool) : Sq n (tabOf n f) := by
  refine ⟨by simp [tabOf], fun i hi => ?_⟩
  unfold tabOf
  rw [List.getD_eq_getElem?_getD, List.getElem?_map, List.getElem?_range hi]
  simp
theorem tabOf_row {n : Nat} {f : Nat → Nat → Bool} {i : Nat} (hi : i < n) : (tabOf n f).getD i [] = (List.range n).map (f i) := by
  unfold tabOf
  rw [List.getD_eq_getElem?_getD, List.getElem?_map, List.getElem?_range hi]
  rfl
theorem tabOf_tb {n : Nat} {f : Nat → Nat → Bool} {i k : Nat} : tb (tabOf n f) i k = true ↔ (i < n ∧ k < n) ∧ f i k = true := by
  unfold tb
  by_cases hi : i < n
  · rw [tabOf_row hi, List.getD_eq_getElem?_getD]
    by_cases hk : k < n
    · rw [List.getElem?_map, List.getElem?_range hk]
      simp [hi, hk]
    · rw [List.getElem?_eq_none (by simp; omega)]
      simp [hk]
  · have e : (tabOf n f).getD i [] = [] := by
      rw [List.getD_eq_getElem?_getD, List.getElem?_eq_none (by simp [tabOf]; omega)]; rfl
    rw [e]
    simp [hi]
theorem stB_iff {g : List (List Int)} {less : Int} {i k : Nat} : stB g less i k = true ↔ Come g i ∧ Come g k ∧ (i : Int) ≠ less ∧ (k : Int) ≠ less ∧ (k : Int) ∈ g.getD i [] := by
  unfold stB
  simp only [Bool.and_eq_true, getD_true, come_iff, decide_eq_true_iff]
theorem fwB_iff {g : List (List Int)} {i k : Nat} : fwB g i k = true ↔ Fw g i k := by
  unfold fwB Fw
  rw [Bool.and_eq_true, stB_iff, Bool.not_eq_true', ← Bool.not_eq_true, domB_iff]
  constructor
  · rintro ⟨⟨h1, h2, _, _, h3⟩, h4⟩; exact ⟨⟨h1, h2⟩, h3, h4⟩
  · rintro ⟨⟨h1, h2⟩, h3, h4⟩; exact ⟨⟨h1, h2, by omega, by omega, h3⟩, h4⟩
theorem pth_rd {st : Nat → Nat → Prop} {i k : Nat} : Pth st (fun _ => True) i k ↔ Rd st i k := by
  constructor
  · intro h
    induction h with
    | one h => exact .one h
    | more _ _ h2 ih => exact .more ih h2
  · intro h
    induction h with
    | one h => exact .one h
    | more _ h2 ih => exact .more ih trivial h2
/-- is the graph crossed? -/
def crossV (g : List (List Int)) : Bool := (List.range g.length).any fun i => tb (waysT g.length (fwT g) g.length) i i
theorem cross_iff {g : List (List Int)} : crossV g = true ↔ ∃ i, Rd (Fw g) i i := by
  have hin : ∀ a b, Fw g a b → a < g.length ∧ b < g.length := fun a b h => ⟨h.1.1.last.1, h.1.2.last.1⟩
  have hst : ∀ a b, tb (fwT g) a b = true ↔ Fw g a b := fun a b => by
    unfold fwT
    rw [tabOf_tb, fwB_iff]
    exact ⟨fun h => h.2, fun h => ⟨hin a b h, h⟩⟩
  unfold crossV
  rw [List.any_eq_true]
  constructor
  · rintro ⟨i, hi, h⟩
    rw [List.mem_range] at hi
    exact ⟨i, pth_rd.1 ((ways_iff (tabOf_sq _ _) hin hst hi hi).1 h)⟩
  · rintro ⟨i, h⟩
    have hi : i < g.length := by
      cases h with
      | one h => exact (hin _ _ h).1
      | more _ h => exact (hin _ _ h).2
    exact ⟨i, List.mem_range.2 hi, (ways_iff (tabOf_sq _ _) hin hst hi hi).2 (pth_rd.2 h)⟩
/-- who leads back to a head. -/
def backB (g : List (List Int)) (h i : Nat) : Bool := stB g (-1) i h && domB g h i
def backL (g : List (List Int)) (h : Nat) : List Nat := (List.range g.length).filter fun i => backB g h i
theorem backB_iff {g : List (List Int)} {h i : Nat} : backB g h i = true ↔ Backs g h i := by
  unfold backB Backs
  rw [Bool.and_eq_true, stB_iff, domB_iff]
  constructor
  · rintro ⟨⟨h1, _, _, _, h2⟩, h3⟩; exact ⟨h1, h2, h3⟩
  · rintro ⟨h1, h2, h3⟩; exact ⟨⟨h1, h3.come, by omega, by omega, h2⟩, h3⟩
theorem backL_mem {g : List (List Int)} {h i : Nat} : i ∈ backL g h ↔ Backs g h i := by
  unfold backL
  rw [List.mem_filter, List.mem_range, backB_iff]
  exact ⟨fun h => h.2, fun h => ⟨h.1.last.1, h⟩⟩
/-- is i in the loop of h? -/
def bodyB (g : List (List Int)) (h i : Nat) : Bool := decide (i = h) || (backL g h).any fun b => (decide (b = i) && decide (b ≠ h)) || (decide (i ≠ h) && tb (waysT g.length (stepT g (h : Int)) g.length) i b)
def bodyL (g : List (List Int)) (h : Nat) : List Nat := (List.range g.length).filter fun i => bodyB g h i
theorem without_way {g : List (List Int)} {h i b : Nat} (hi : Come g i) (hih : i ≠ h) : (i = b ∨ Rd (fun a b => stB g (h : Int) a b = true) i b) ↔ Dm10.Way g (fun p => p ≠ h) i b := by
  constructor
  · rintro (e | k)
    · subst e; exact .refl hi.last.1 hih
    · induction k with
      | one k =>
        obtain ⟨h1, h2, h3, h4, h5⟩ := stB_iff.1 k
        exact .step (.refl h1.last.1 (fun e => h3 (by rw [e]))) h5 h2.last.1 (fun e => h4 (by rw [e]))
      | more _ k ih =>
        obtain ⟨h1, h2, h3, h4, h5⟩ := stB_iff.1 k
        exact .step ih h5 h2.last.1 (fun e => h4 (by rw [e]))
  · intro w
    induction w with
    | refl _ _ => exact .inl rfl
    | step h0 h1 h2 h3 ih =>
      rename_i q r
      have hq := way_come9 hi h0
      have hs : stB g (h : Int) q r = true := stB_iff.2 ⟨hq, .step hq h1 h2 trivial, fun e => h0.last.2 (by omega), fun e => h3 (by omega), h1⟩
      rcases ih with e | k
      · subst e; exact .inr (.one hs)
      · exact .inr (.more k hs)
theorem bodyB_iff {g : List (List Int)} {h i : Nat} (hi : i < g.length) : bodyB g h i = true ↔ Body g h i := by
  have hin : ∀ a b, stB g (h : Int) a b = true → a < g.length ∧ b < g.length := fun a b k => ⟨(stB_iff.1 k).1.last.1, (stB_iff.1 k).2.1.last.1⟩
  have hst : ∀ a b, tb (stepT g (h : Int)) a b = true ↔ stB g (h : Int) a b = true := fun a b => by
    unfold stepT
    rw [tabOf_tb]
    exact ⟨fun h => h.2, fun h => ⟨hin a b h, h⟩⟩
  unfold bodyB Body
  rw [Bool.or_eq_true, decide_eq_true_iff, List.any_eq_true]
  by_cases e : i = h
  · simp [e]
  · constructor
    · rintro (h1 | ⟨b, hb, h2⟩)
      · exact .inl h1
      · have hbk := backL_mem.1 hb
        rw [Bool.or_eq_true, Bool.and_eq_true, Bool.and_eq_true, decide_eq_true_iff, decide_eq_true_iff, decide_eq_true_iff] at h2
        rcases h2 with ⟨h2, h3⟩ | ⟨_, h3⟩
        · subst h2
          exact .inr ⟨e, hbk.1, b, hbk, .refl hbk.1.last.1 e⟩
        · have h4 := pth_rd.1 ((ways_iff (tabOf_sq _ _) hin hst hi hbk.1.last.1).1 h3)
          have hic : Come g i := by
            have : ∀ {b : Nat}, Rd (fun a b => stB g (h : Int) a b = true) i b → Come g i := by
              intro b k
              induction k with
              | one k => exact (stB_iff.1 k).1
              | more _ _ ih => exact ih
            exact this h4
          exact .inr ⟨e, hic, b, hbk, (without_way hic e).1 (.inr h4)⟩
    · rintro (h1 | ⟨_, hic, b, hb, hw⟩)
      · exact absurd h1 e
      · refine .inr ⟨b, backL_mem.2 hb, ?_⟩
        rw [Bool.or_eq_true, Bool.and_eq_true, Bool.and_eq_true, decide_eq_true_iff, decide_eq_true_iff, decide_eq_true_iff]
        rcases (without_way hic e).2 hw with h1 | h1
        · subst h1; exact .inl ⟨rfl, e⟩
        · exact .inr ⟨e, (ways_iff (tabOf_sq _ _) hin hst hi hb.1.last.1).2 (pth_rd.2 h1)⟩
/-- the loops, one a head, rising by heads: (head, body, back). -/
def loopsV (g : List (List Int)) : List (Nat × List Nat × List Nat) := ((List.range g.length).filter fun h => !(backL g h).isEmpty).map fun h => (h, bodyL g h, backL g h)
theorem bodyL_mem {g : List (List Int)} {h i : Nat} (hh : Come g h) : i ∈ bodyL g h ↔ Body g h i := by
  unfold bodyL
  rw [List.mem_filter, List.mem_range]
  constructor
  · rintro ⟨h1, h2⟩; exact (bodyB_iff h1).1 h2
  · intro k
    have hl : i < g.length := by
      rcases k with e | ⟨_, hi, _⟩
      · subst e; exact hh.last.1
      · exact hi.last.1
    exact ⟨hl, (bodyB_iff hl).2 k⟩
theorem loopsV_mem {g : List (List Int)} {x : Nat × List Nat × List Nat} : x ∈ loopsV g ↔ (∃ b, Backs g x.1 b) ∧ x = (x.1, bodyL g x.1, backL g x.1) := by
  unfold loopsV
  rw [List.mem_map]
  constructor
  · rintro ⟨h, hh, rfl⟩
    rw [List.mem_filter, Bool.not_eq_true', List.isEmpty_eq_false_iff] at hh
    obtain ⟨b, hb⟩ := List.exists_mem_of_ne_nil _ hh.2
    exact ⟨⟨b, backL_mem.1 hb⟩, rfl⟩
  · rintro ⟨⟨b, hb⟩, e⟩
    refine ⟨x.1, ?_, e.symm⟩
    rw [List.mem_filter, List.mem_range, Bool.not_eq_true', List.isEmpty_eq_false_iff]
    exact ⟨hb.2.2.come.last.1, List.ne_nil_of_mem (backL_mem.2 hb)⟩
/-- of a graph whose steps all lead to greater points no step is one back, and none is against the order. -/
theorem none_back {g : List (List Int)} (h : ∀ i (k : Nat), (k : Int) ∈ g.getD i [] → i < k) : (∀ h b, ¬ Backs g h b) ∧ ¬ ∃ i, Rd (Fw g) i i := by
  have hw : ∀ {ok : Nat → Prop} {a b : Nat}, Dm10.Way g ok a b → a ≤ b := by
    intro ok a b w
    induction w with
    | refl _ _ => exact Nat.le_refl _
    | step _ h1 _ _ ih => have := h _ _ h1; omega
  constructor
  · rintro hd b ⟨hb, hl, hdm⟩
    have h1 := h _ _ hl
    -- the head dominates b: b is come to by way of it
    rcases way_last (a := hd) hb with k | ⟨r, _, k1, k2⟩ | k
    · exact hdm.2.2 k
    · have h2 := h _ _ k1
      have h3 := hw k2
      omega
    · omega
  · rintro ⟨i, k⟩
    have : ∀ {a b : Nat}, Rd (Fw g) a b → a < b := by
      intro a b k
      induction k with
      | one k => exact h _ _ k.2.1
      | more _ k ih => have := h _ _ k.2.1; omega
    have := this k
    omega
end Go.Proofs.Ytiohngbmddfgfaa.Lp11
