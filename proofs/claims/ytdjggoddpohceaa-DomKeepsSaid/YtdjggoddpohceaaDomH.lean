/-
  Layer 10, plainly: going up from the points that lead to one, till all was told.
-/
import Derived.Test.YtdjggoddpohceaaDomG
import Derived.Test.YtdjggoddpohceaaDomD
namespace Go.Proofs.Ytdjggoddpohceaa.Dm10
open Fl9

/-- the rows of the frontiers of all numbers below to, and to itself for those of s. -/
def fj (g : List (List Int)) (to : Nat) (s : List Nat) : List (List Int) := (List.range g.length).map fun a => fv g a to ++ if a ∈ s then [(to : Int)] else []
theorem fj_len (g : List (List Int)) (to : Nat) (s : List Nat) : (fj g to s).length = g.length := by simp [fj]
theorem fj_at {g : List (List Int)} {to a : Nat} {s : List Nat} (h : a < g.length) : (fj g to s)[a]? = some (fv g a to ++ if a ∈ s then [(to : Int)] else []) := by
  unfold fj
  rw [List.getElem?_map, List.getElem?_range h]; rfl
theorem fj_zero (g : List (List Int)) : fj g 0 [] = List.replicate g.length [] := by
  apply List.ext_getElem?
  intro i
  by_cases h : i < g.length
  · rw [fj_at h, List.getElem?_replicate, if_pos h]; rfl
  · rw [List.getElem?_eq_none (by rw [fj_len]; omega), List.getElem?_eq_none (by simp; omega)]
theorem fj_next {g : List (List Int)} {to : Nat} {s : List Nat} (h : ∀ a, a < g.length → (a ∈ s ↔ frB g a to = true)) : fj g to s = fj g (to + 1) [] := by
  unfold fj
  apply List.map_congr_left
  intro a ha
  rw [List.mem_range] at ha
  rw [fv_step, if_neg (by simp : ¬ a ∈ ([] : List Nat)), List.append_nil]
  simp only [h a ha]
theorem fj_end (g : List (List Int)) : fj g g.length [] = frontV g := by
  unfold fj frontV
  apply List.map_congr_left
  intro a _
  simp
theorem fv_lt {g : List (List Int)} {a k : Nat} {x : Int} (h : x ∈ fv g a k) : ∃ p : Nat, x = (p : Int) ∧ p < k := by
  unfold fv at h
  obtain ⟨p, hp, rfl⟩ := List.mem_map.1 h
  exact ⟨p, rfl, List.mem_range.1 (List.mem_filter.1 hp).1⟩
theorem fj_ends (g : List (List Int)) (to a : Nat) (s : List Nat) : ends (fv g a to ++ if a ∈ s then [(to : Int)] else []) (to : Int) = decide (a ∈ s) := by
  unfold ends
  by_cases h : a ∈ s
  · rw [if_pos h, List.getLast?_append, decide_eq_true h]; simp
  · rw [if_neg h, List.append_nil, decide_eq_false h]
    apply decide_eq_false
    intro hl
    obtain ⟨p, e, h1⟩ := fv_lt (List.mem_of_getLast? hl)
    omega
theorem fj_put {g : List (List Int)} {to a : Nat} {s : List Nat} (h : a ∉ s) : fj g to (s ++ [a]) = (fj g to s).set a ((fv g a to ++ if a ∈ s then [(to : Int)] else []) ++ [(to : Int)]) := by
  apply List.ext_getElem?
  intro i
  by_cases hi : i < g.length
  · rw [fj_at hi]
    by_cases e : a = i
    · subst e
      rw [List.getElem?_set_self (by rw [fj_len]; exact hi), if_neg h, if_pos (by simp), List.append_nil]
    · rw [List.getElem?_set_ne e, fj_at hi]
      have : i ∈ s ++ [a] ↔ i ∈ s := by
        rw [List.mem_append, List.mem_singleton]
        exact ⟨fun h => h.resolve_right (fun e2 => e e2.symm), .inl⟩
      simp only [this]
  · rw [List.getElem?_eq_none (by rw [fj_len]; omega), List.getElem?_eq_none (by rw [List.length_set, fj_len]; omega)]
theorem fj_row (g : List (List Int)) (to a : Nat) (s : List Nat) : (fv g a to ++ if a ∈ s then [(to : Int)] else []).length ≤ to + 1 := by
  have := fv_len g a to
  rw [List.length_append]
  split <;> simp <;> omega
/-- a stands above to's nearest one. -/
def Cut (near : List Int) (to a : Nat) : Prop := ∃ c : Nat, near[to]? = some (c : Int) ∧ Anc near a c
/-- who was told of to, behind the points of l that lead there. -/
structure Fr (g : List (List Int)) (near : List Int) (to : Nat) (s : List Nat) (l : List Int) : Prop where
  snd : ∀ a ∈ s, frB g a to = true
  up : ∀ a ∈ s, ∀ b : Nat, near[a]? = some (b : Int) → near[to]? ≠ some (b : Int) → b ∈ s
  all : ∀ p : Nat, (p : Int) ∈ l → Come g p → ∀ a, Anc near a p → ¬ Cut near to a → a ∈ s
/-- .. while one way up is gone: it stands at x. -/
structure Cl (g : List (List Int)) (near : List Int) (to : Nat) (s : List Nat) (l : List Int) (p : Nat) (x : Int) : Prop where
  snd : ∀ a ∈ s, frB g a to = true
  up : ∀ a ∈ s, ∀ b : Nat, near[a]? = some (b : Int) → near[to]? ≠ some (b : Int) → b ∈ s ∨ x = (b : Int)
  all : ∀ p : Nat, (p : Int) ∈ l → Come g p → ∀ a, Anc near a p → ¬ Cut near to a → a ∈ s
  rest : ∀ a, Anc near a p → ¬ Cut near to a → a ∈ s ∨ ∃ y : Nat, x = (y : Int) ∧ Anc near a y
  at9 : (∃ y : Nat, x = (y : Int) ∧ Anc near y p ∧ Come g y ∧ ∀ c : Nat, near[to]? = some (c : Int) → Anc near c y) ∨ (x = -1 ∧ near[to]? = some (-1))
theorem fr_start {g : List (List Int)} {near : List Int} {to : Nat} : Fr g near to [] [] := ⟨by simp, by simp, by simp⟩
theorem Fr.skip {g : List (List Int)} {near : List Int} {to p : Nat} {s : List Nat} {l : List Int} (h : Fr g near to s l) (hp : ¬ Come g p) : Fr g near to s (l ++ [(p : Int)]) := by
  refine ⟨h.snd, h.up, fun q hq hc => ?_⟩
  rcases List.mem_append.1 hq with hq | hq
  · exact h.all q hq hc
  · rw [List.mem_singleton] at hq
    obtain rfl : q = p := by omega
    exact absurd hc hp
theorem Fr.go {g : List (List Int)} {near : List Int} {to p : Nat} {s : List Nat} {l : List Int} (hf : Fix g near) (h : Fr g near to s l) (hp : Come g p) (hl : (to : Int) ∈ g.getD p []) (hto : to < g.length) : Cl g near to s l p (p : Int) := by
  refine ⟨h.snd, fun a ha b h1 h2 => .inl (h.up a ha b h1 h2), h.all, fun a ha hc => .inr ⟨p, rfl, ha⟩, .inl ⟨p, rfl, .refl, hp, fun c hc => ?_⟩⟩
  have hto0 : to ≠ 0 := fun e => by
    subst e
    rw [hf.top9 0 hto (.inl rfl)] at hc
    simp only [Option.some.injEq] at hc
    omega
  exact hf.pred9 p to c hp hto0 hl hto hc
theorem Cl.stop {g : List (List Int)} {near : List Int} {to p : Nat} {s : List Nat} {l : List Int} {x : Int} (h : Cl g near to s l p x) (hx : near[to]? = some x) : Fr g near to s (l ++ [(p : Int)]) := by
  refine ⟨h.snd, fun a ha b h1 h2 => ?_, fun q hq hc a ha hn => ?_⟩
  · rcases h.up a ha b h1 h2 with h3 | h3
    · exact h3
    · rw [h3] at hx; exact absurd hx h2
  · rcases List.mem_append.1 hq with hq | hq
    · exact h.all q hq hc a ha hn
    · rw [List.mem_singleton] at hq
      obtain rfl : q = p := by omega
      rcases h.rest a ha hn with h1 | ⟨y, h1, h2⟩
      · exact h1
      · exact absurd ⟨y, by rw [hx, h1], h2⟩ hn
theorem Cl.met {g : List (List Int)} {near : List Int} {to p y : Nat} {s : List Nat} {l : List Int} (h : Cl g near to s l p (y : Int)) (hy : y ∈ s) : Fr g near to s (l ++ [(p : Int)]) := by
  have hup : ∀ a ∈ s, ∀ b : Nat, near[a]? = some (b : Int) → near[to]? ≠ some (b : Int) → b ∈ s := by
    intro a ha b h1 h2
    rcases h.up a ha b h1 h2 with h3 | h3
    · exact h3
    · obtain rfl : y = b := by omega
      exact hy
  refine ⟨h.snd, hup, fun q hq hc a ha hn => ?_⟩
  rcases List.mem_append.1 hq with hq | hq
  · exact h.all q hq hc a ha hn
  · rw [List.mem_singleton] at hq
    obtain rfl : q = p := by omega
    rcases h.rest a ha hn with h1 | ⟨y2, h1, h2⟩
    · exact h1
    · obtain rfl : y = y2 := by omega
      clear h1
      induction h2 with
      | refl => exact hy
      | up e h3 ih =>
        rename_i b c
        by_cases hcc : near[to]? = some (c : Int)
        · exact absurd ⟨c, hcc, h3⟩ hn
        · have hcs := hup b hy c e hcc
          clear ih
          -- up from c
          have : ∀ {u v : Nat}, Anc near u v → v ∈ s → ¬ Cut near to u → u ∈ s := by
            intro u v huv
            induction huv with
            | refl => intro hv _; exact hv
            | up e2 h5 ih2 =>
              rename_i v c2
              intro hv hnu
              by_cases h6 : near[to]? = some (c2 : Int)
              · exact absurd ⟨c2, h6, h5⟩ hnu
              · exact ih2 (hup v hv c2 e2 h6) hnu
          exact this h3 hcs hn
theorem Cl.step {g : List (List Int)} {near : List Int} {to p y : Nat} {s : List Nat} {l : List Int} {x : Int} (hf : Fix g near) (hs : ∀ b c : Nat, near[b]? = some (c : Int) → Come g b ∧ b ≠ 0 ∧ Come g c ∧ pos g c < pos g b) (h : Cl g near to s l p (y : Int)) (hp : Come g p) (hl : (to : Int) ∈ g.getD p []) (hto : to < g.length) (hy : near[to]? ≠ some (y : Int)) (hx : near[y]? = some x) : Cl g near to (s ++ [y]) l p x := by
  obtain ⟨y2, e, hyp, hyc, hcy⟩ := h.at9.resolve_right (fun h => by omega)
  obtain rfl : y = y2 := by omega
  have htc : Come g to := .step hp hl hto trivial
  have hle : ∀ {a b : Nat}, Anc near a b → pos g a ≤ pos g b := by
    intro a b hab
    induction hab with
    | refl => exact Nat.le_refl _
    | up e2 _ ih => have := (hs _ _ e2).2.2.2; omega
  have hne : ∀ c : Nat, near[to]? = some (c : Int) → c ≠ y := fun c hc e2 => hy (by rw [hc, e2])
  have hncut : ¬ Cut near to y := by
    rintro ⟨c, hc, h1⟩
    have h2 := hcy c hc
    have h3 := hle h1
    cases h2 with
    | refl => exact hne _ hc rfl
    | up e2 h4 =>
      have h5 := hle h4
      have h6 := (hs _ _ e2).2.2.2
      omega
  refine ⟨fun a ha => ?_, fun a ha b h1 h2 => ?_, fun q hq hc a ha hn => List.mem_append_left _ (h.all q hq hc a ha hn), fun a ha hn => ?_, ?_⟩
  · rcases List.mem_append.1 ha with ha | ha
    · exact h.snd a ha
    · rw [List.mem_singleton] at ha
      subst ha
      by_cases h0 : to = 0
      · subst h0
        exact (fr_zero hf).2 ⟨p, hp, hl, hyp⟩
      · obtain ⟨c, hc, _⟩ := hf.up9 to h0 htc
        exact (fr_up hf htc h0 hc).2 ⟨p, hp, hl, hyp, fun h9 => hncut ⟨c, hc, h9⟩⟩
  · rcases List.mem_append.1 ha with ha | ha
    · rcases h.up a ha b h1 h2 with h3 | h3
      · exact .inl (List.mem_append_left _ h3)
      · obtain rfl : y = b := by omega
        exact .inl (by simp)
    · rw [List.mem_singleton] at ha
      subst ha
      rw [hx] at h1
      exact .inr (Option.some.inj h1)
  · rcases h.rest a ha hn with h3 | ⟨y2, h3, h4⟩
    · exact .inl (List.mem_append_left _ h3)
    · obtain rfl : y = y2 := by omega
      cases h4 with
      | refl => exact .inl (by simp)
      | up e2 h5 =>
        rename_i c2
        rw [hx] at e2
        exact .inr ⟨c2, Option.some.inj e2, h5⟩
  · by_cases hy0 : y = 0
    · subst hy0
      have := hf.top9 0 (by have := hyc.last.1; omega) (.inl rfl)
      rw [hx] at this
      refine .inr ⟨Option.some.inj this, ?_⟩
      by_cases h0 : to = 0
      · subst h0; rw [hx]; exact this
      · obtain ⟨c, hc, _⟩ := hf.up9 to h0 htc
        have h2 := hcy c hc
        cases h2 with
        | refl => exact absurd rfl (hne _ hc)
        | up e2 _ => exact absurd rfl (hs 0 _ e2).2.1
    · obtain ⟨c, hc, _⟩ := hf.up9 y hy0 hyc
      rw [hx] at hc
      obtain rfl := Option.some.inj hc
      obtain ⟨_, _, h3, h4⟩ := hs y c hx
      exact .inl ⟨c, rfl, (Anc.up hx .refl).trans hyp, h3, fun d hd => anc_next (hcy d hd) (hne d hd) hx⟩
theorem Fr.done {g : List (List Int)} {near : List Int} {to : Nat} {s : List Nat} (hf : Fix g near) (h : Fr g near to s (pv g g.length to)) : ∀ a, a < g.length → (a ∈ s ↔ frB g a to = true) := by
  intro a _
  refine ⟨h.snd a, fun hb => ?_⟩
  have hto := (fr_iff.1 hb).1
  by_cases h0 : to = 0
  · subst h0
    obtain ⟨p, hp, hl, ha⟩ := (fr_zero hf).1 hb
    refine h.all p (pv_mem hp.last.1 hl) hp a ha ?_
    rintro ⟨c, hc, _⟩
    rw [hf.top9 0 hto.last.1 (.inl rfl)] at hc
    simp only [Option.some.injEq] at hc
    omega
  · obtain ⟨c, hc, _⟩ := hf.up9 to h0 hto
    obtain ⟨p, hp, hl, ha, hn⟩ := (fr_up hf hto h0 hc).1 hb
    refine h.all p (pv_mem hp.last.1 hl) hp a ha ?_
    rintro ⟨c2, hc2, h9⟩
    rw [hc] at hc2
    simp only [Option.some.injEq] at hc2
    obtain rfl : c = c2 := by omega
    exact hn h9
end Go.Proofs.Ytdjggoddpohceaa.Dm10
