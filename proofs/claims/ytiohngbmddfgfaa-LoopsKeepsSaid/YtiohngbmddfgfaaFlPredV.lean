/-
  Layer 9: for each point those that lead to it, plainly.
-/
import Derived.Test.YtiohngbmddfgfaaFlFact
namespace Go.Proofs.Ytiohngbmddfgfaa.Fl9

/-- those below k that lead to i, rising. -/
def pv (g : List (List Int)) (k i : Nat) : List Int := ((List.range k).filter fun p => decide ((i : Int) ∈ g.getD p [])).map fun (p : Nat) => (p : Int)
def pj (g : List (List Int)) (k : Nat) (s : List Int) (i : Nat) : List Int := pv g k i ++ if (i : Int) ∈ s then [(k : Int)] else []
def lj (g : List (List Int)) (k : Nat) (s : List Int) : List (List Int) := (List.range g.length).map (pj g k s)
def predsV (g : List (List Int)) : List (List Int) := (List.range g.length).map (pv g g.length)
theorem pv_succ (g : List (List Int)) (k i : Nat) : pv g (k + 1) i = pj g k (g.getD k []) i := by
  unfold pj pv
  rw [List.range_succ, List.filter_append, List.map_append]
  congr 1
  by_cases h : (i : Int) ∈ g.getD k []
  · rw [if_pos h, List.filter_cons_of_pos (by simpa using h)]; rfl
  · rw [if_neg h, List.filter_cons_of_neg (by simpa using h)]; rfl
theorem pj_nil (g : List (List Int)) (k i : Nat) : pj g k [] i = pv g k i := by simp [pj]
theorem pv_lt {g : List (List Int)} {k i : Nat} {x : Int} (h : x ∈ pv g k i) : ∃ p : Nat, x = (p : Int) ∧ p < k ∧ (i : Int) ∈ g.getD p [] := by
  unfold pv at h
  obtain ⟨p, hp, rfl⟩ := List.mem_map.1 h
  obtain ⟨h1, h2⟩ := List.mem_filter.1 hp
  exact ⟨p, rfl, List.mem_range.1 h1, by simpa using h2⟩
theorem pv_mem {g : List (List Int)} {k i p : Nat} (h1 : p < k) (h2 : (i : Int) ∈ g.getD p []) : (p : Int) ∈ pv g k i := List.mem_map.2 ⟨p, List.mem_filter.2 ⟨List.mem_range.2 h1, by simpa using h2⟩, rfl⟩
theorem pv_len (g : List (List Int)) (k i : Nat) : (pv g k i).length ≤ k := by
  unfold pv
  rw [List.length_map]
  have := List.length_filter_le (fun p => decide ((i : Int) ∈ g.getD p [])) (List.range k)
  rwa [List.length_range] at this
theorem pj_len (g : List (List Int)) (k : Nat) (s : List Int) (i : Nat) : (pj g k s i).length ≤ k + 1 := by
  unfold pj
  have := pv_len g k i
  rw [List.length_append]
  split <;> simp <;> omega
theorem lj_len (g : List (List Int)) (k : Nat) (s : List Int) : (lj g k s).length = g.length := by simp [lj]
theorem lj_at {g : List (List Int)} {k : Nat} {s : List Int} {i : Nat} (h : i < g.length) : (lj g k s)[i]? = some (pj g k s i) := by
  unfold lj
  rw [List.getElem?_map, List.getElem?_range h]; rfl
theorem lj_zero (g : List (List Int)) : lj g 0 [] = List.replicate g.length [] := by
  apply List.ext_getElem?
  intro i
  by_cases h : i < g.length
  · rw [lj_at h, List.getElem?_replicate, if_pos h]; rfl
  · rw [List.getElem?_eq_none (by rw [lj_len]; omega), List.getElem?_eq_none (by simp; omega)]
theorem lj_next (g : List (List Int)) (k : Nat) : lj g k (g.getD k []) = lj g (k + 1) [] := by
  unfold lj
  apply List.map_congr_left
  intro i _
  rw [pj_nil, pv_succ]
theorem lj_end (g : List (List Int)) : lj g g.length [] = predsV g := by
  unfold lj predsV
  apply List.map_congr_left
  intro i _
  rw [pj_nil]
/-- whether a list's last one is x. -/
def ends (l : List Int) (x : Int) : Bool := decide (l.getLast? = some x)
theorem pj_ends (g : List (List Int)) (k : Nat) (s : List Int) (i : Nat) : ends (pj g k s i) (k : Int) = decide ((i : Int) ∈ s) := by
  unfold ends pj
  by_cases h : (i : Int) ∈ s
  · rw [if_pos h, List.getLast?_append, decide_eq_true h]; simp
  · rw [if_neg h, List.append_nil, decide_eq_false h]
    apply decide_eq_false
    intro hl
    obtain ⟨p, e, h1, _⟩ := pv_lt (List.mem_of_getLast? hl)
    omega
theorem lj_skip {g : List (List Int)} {k : Nat} {s : List Int} {x : Int} (h : ¬ (0 ≤ x ∧ x < (g.length : Int)) ∨ x ∈ s) : lj g k (s ++ [x]) = lj g k s := by
  unfold lj
  apply List.map_congr_left
  intro i hi
  rw [List.mem_range] at hi
  unfold pj
  congr 1
  have : (i : Int) ∈ s ++ [x] ↔ (i : Int) ∈ s := by
    rw [List.mem_append, List.mem_singleton]
    constructor
    · rintro (h1 | h1)
      · exact h1
      · subst h1
        rcases h with h | h
        · exact absurd ⟨by omega, by omega⟩ h
        · exact h
    · exact .inl
  simp only [this]
theorem lj_put {g : List (List Int)} {k : Nat} {s : List Int} {q : Nat} (_ : q < g.length) (h : (q : Int) ∉ s) : lj g k (s ++ [(q : Int)]) = (lj g k s).set q (pj g k s q ++ [(k : Int)]) := by
  apply List.ext_getElem?
  intro i
  by_cases hi : i < g.length
  · rw [lj_at hi]
    by_cases e : q = i
    · subst e
      rw [List.getElem?_set_self (by rw [lj_len]; exact hi)]
      unfold pj
      rw [if_neg h, if_pos (by simp), List.append_nil]
    · rw [List.getElem?_set_ne e, lj_at hi]
      unfold pj
      have : (i : Int) ∈ s ++ [(q : Int)] ↔ (i : Int) ∈ s := by
        rw [List.mem_append, List.mem_singleton]
        exact ⟨fun h => h.resolve_right (by omega), .inl⟩
      simp only [this]
  · rw [List.getElem?_eq_none (by rw [lj_len]; omega), List.getElem?_eq_none (by rw [List.length_set, lj_len]; omega)]
theorem preds_len (g : List (List Int)) : (predsV g).length = g.length := by simp [predsV]
theorem preds_at {g : List (List Int)} {i : Nat} (h : i < g.length) : (predsV g)[i]? = some (pv g g.length i) := by
  unfold predsV
  rw [List.getElem?_map, List.getElem?_range h]; rfl
theorem preds_short (g : List (List Int)) : ∀ l ∈ predsV g, l.length ≤ g.length := by
  intro l hl
  obtain ⟨i, _, rfl⟩ := List.mem_map.1 hl
  exact pv_len g _ i
end Go.Proofs.Ytiohngbmddfgfaa.Fl9
