/-
  Layer 10, plainly: two ways up until they meet, and what a round keeps.
-/
import Derived.Test.YtiohngbmddfgfaaDomX
namespace Go.Proofs.Ytiohngbmddfgfaa.Dm10
open Fl9

/-- two ways up are gone until they meet; who stands further behind goes up. -/
inductive Meet (near : List Int) (pos : Nat → Nat) : Nat → Nat → Nat → Prop
  | same (p : Nat) : Meet near pos p p p
  | left {p q c m : Nat} : pos q < pos p → near[p]? = some (c : Int) → Meet near pos c q m → Meet near pos p q m
  | right {p q c m : Nat} : pos p < pos q → near[q]? = some (c : Int) → Meet near pos p c m → Meet near pos p q m
/-- who has a place behind the first stands behind its nearest one, from which a way leads to it that goes through nothing ahead of that. -/
structure Ups (g : List (List Int)) (pos : Nat → Nat) (near : List Int) : Prop where
  lt : ∀ b c : Nat, b ≠ 0 → near[b]? = some (c : Int) → pos c < pos b
  way : ∀ b c : Nat, b ≠ 0 → near[b]? = some (c : Int) → ∀ a : Nat, pos a < pos c → Way g (fun p => p ≠ a) 0 c → Way g (fun p => p ≠ a) 0 b
  zero : ∀ c : Nat, near[0]? = some (c : Int) → c = 0
theorem Ups.le {g : List (List Int)} {pos : Nat → Nat} {near : List Int} (h : Ups g pos near) {a b : Nat} (k : Anc near a b) : pos a ≤ pos b := by
  induction k with
  | refl => exact Nat.le_refl _
  | up e h9 ih =>
    rename_i b c
    by_cases hb : b = 0
    · subst hb
      rw [h.zero c e] at ih
      exact ih
    · have := h.lt b c hb e
      omega
theorem Ups.top {g : List (List Int)} {pos : Nat → Nat} {near : List Int} (h : Ups g pos near) {a b : Nat} (k : Anc near a b) (hb : b = 0) : a = 0 := by
  induction k with
  | refl => exact hb
  | up e h9 ih =>
    rename_i b c
    subst hb
    exact ih (h.zero c e)
/-- what stands above both stands above where they meet, which stands above both. -/
theorem Meet.ok {g : List (List Int)} {pos : Nat → Nat} {near : List Int} (h : Ups g pos near) {p q m : Nat} (k : Meet near pos p q m) : Anc near m p ∧ Anc near m q ∧ ∀ a, Anc near a p → Anc near a q → Anc near a m := by
  induction k with
  | same p => exact ⟨.refl, .refl, fun a h _ => h⟩
  | left hlt e h9 ih =>
    rename_i p q c m
    refine ⟨.up e ih.1, ih.2.1, fun a hp hq => ih.2.2 a ?_ hq⟩
    cases hp with
    | refl => have := h.le hq; omega
    | up e2 h2 =>
      rw [e] at e2
      simp only [Option.some.injEq] at e2
      rename_i c2
      obtain rfl : c = c2 := by omega
      exact h2
  | right hlt e h9 ih =>
    rename_i p q c m
    refine ⟨ih.1, .up e ih.2.1, fun a hp hq => ih.2.2 a hp ?_⟩
    cases hq with
    | refl => have := h.le hp; omega
    | up e2 h2 =>
      rw [e] at e2
      simp only [Option.some.injEq] at e2
      rename_i c2
      obtain rfl : c = c2 := by omega
      exact h2
/-- what dominates b and stands above its nearest one dominates that. -/
theorem Ups.dom {g : List (List Int)} {pos : Nat → Nat} {near : List Int} (h : Ups g pos near) {a b c : Nat} (hb : b ≠ 0) (e : near[b]? = some (c : Int)) (hc : Come g c) (hd : Dom g a b) (ha : Anc near a c) : Dom g a c := by
  by_cases hac : a = c
  · subst hac; exact Dom.self hc
  · refine ⟨hc, hd.2.1, fun w => hd.2.2 (h.way b c hb e a ?_ w)⟩
    -- a stands above c, and isn't c: so it is ahead
    cases ha with
    | refl => exact absurd rfl hac
    | up e2 h2 =>
      rename_i c2
      have h1 := h.le h2
      by_cases hc0 : c = 0
      · subst hc0
        rw [h.zero c2 e2] at h2
        exact absurd (h.top h2 rfl) hac
      · have := h.lt c c2 hc0 e2
        omega
/-- what dominates a point that has its nearest one stands above it. -/
def Sound (g : List (List Int)) (near : List Int) : Prop := ∀ a b : Nat, Dom g a b → (b = 0 ∨ ∃ c : Nat, near[b]? = some (c : Int)) → Anc near a b
/-- one step of a round: k gets what all that dominates it stands above. -/
theorem step_ok {g : List (List Int)} {pos : Nat → Nat} {near : List Int} {k m : Nat} (h : Ups g pos near) (hs : Sound g near) (hk0 : k ≠ 0) (hkl : k < near.length)
    (hcome : ∀ b c : Nat, near[b]? = some (c : Int) → Come g c ∧ (c = 0 ∨ ∃ d : Nat, near[c]? = some (d : Int)))
    (hm : Come g m) (hmp : m = 0 ∨ ∃ d : Nat, near[m]? = some (d : Int)) (hlt : pos m < pos k)
    (hway : ∀ a : Nat, pos a < pos m → Way g (fun p => p ≠ a) 0 m → Way g (fun p => p ≠ a) 0 k)
    (hab : ∀ a, Dom g a k → a ≠ k → Anc near a m) : Ups g pos (near.set k (m : Int)) ∧ Sound g (near.set k (m : Int)) := by
  have hat : ∀ (b c : Nat), (near.set k (m : Int))[b]? = some (c : Int) → (b = k ∧ c = m) ∨ (b ≠ k ∧ near[b]? = some (c : Int)) := by
    intro b c e
    by_cases hb : k = b
    · subst hb
      rw [List.getElem?_set_self hkl] at e
      simp only [Option.some.injEq] at e
      exact .inl ⟨rfl, by omega⟩
    · rw [List.getElem?_set_ne hb] at e
      exact .inr ⟨fun e => hb e.symm, e⟩
  have hu : Ups g pos (near.set k (m : Int)) := by
    refine ⟨fun b c hb e => ?_, fun b c hb e => ?_, fun c e => ?_⟩
    · rcases hat b c e with ⟨rfl, rfl⟩ | ⟨_, e⟩
      · exact hlt
      · exact h.lt b c hb e
    · rcases hat b c e with ⟨rfl, rfl⟩ | ⟨_, e⟩
      · exact hway
      · exact h.way b c hb e
    · rcases hat 0 c e with ⟨e2, _⟩ | ⟨_, e⟩
      · exact absurd e2.symm hk0
      · exact h.zero c e
  refine ⟨hu, ?_⟩
  have hall : ∀ (n : Nat) (a b : Nat), pos b < n → Dom g a b → (b = 0 ∨ ∃ c : Nat, (near.set k (m : Int))[b]? = some (c : Int)) → Anc (near.set k (m : Int)) a b := by
    intro n
    induction n with
    | zero => intro a b hn; omega
    | succ n ih =>
      intro a b hn hd hb
      by_cases hab0 : a = b
      · subst hab0; exact .refl
      · by_cases hb0 : b = 0
        · subst hb0; exact absurd (dom_zero hd) hab0
        · obtain ⟨c, e⟩ := hb.resolve_left hb0
          have hset : ∀ c2 : Nat, (c2 = 0 ∨ ∃ d : Nat, near[c2]? = some (d : Int)) → (c2 = 0 ∨ ∃ d : Nat, (near.set k (m : Int))[c2]? = some (d : Int)) := by
            intro c2 h2
            rcases h2 with h2 | ⟨d, h2⟩
            · exact .inl h2
            · right
              by_cases e3 : k = c2
              · subst e3; exact ⟨m, by rw [List.getElem?_set_self hkl]⟩
              · exact ⟨d, by rw [List.getElem?_set_ne e3]; exact h2⟩
          rcases hat b c e with ⟨rfl, rfl⟩ | ⟨hbk, e1⟩
          · have h1 := hab a hd hab0
            have hdm : Dom g a c := by
              by_cases hac : a = c
              · subst hac; exact Dom.self hm
              · refine ⟨hm, hd.2.1, fun w => hd.2.2 (hway a ?_ w)⟩
                cases h1 with
                | refl => exact absurd rfl hac
                | up e2 h2 =>
                  rename_i c2
                  have h3 := h.le h2
                  by_cases hc0 : c = 0
                  · subst hc0
                    rw [h.zero c2 e2] at h2
                    exact absurd (h.top h2 rfl) hac
                  · have := h.lt c c2 hc0 e2
                    omega
            exact .up e (ih a c (by omega) hdm (hset c hmp))
          · have h0 := hs a b hd (.inr ⟨c, e1⟩)
            have h1 : Anc near a c := by
              cases h0 with
              | refl => exact absurd rfl hab0
              | up e2 h2 =>
                rename_i c2
                rw [e1] at e2
                simp only [Option.some.injEq] at e2
                obtain rfl : c = c2 := by omega
                exact h2
            have hcc := hcome b c e1
            have hdc := h.dom hb0 e1 hcc.1 hd h1
            have hlt2 := h.lt b c hb0 e1
            exact .up e (ih a c (by omega) hdc (hset c hcc.2))
  exact fun a b hd hb => hall (pos b + 1) a b (by omega) hd hb
end Go.Proofs.Ytiohngbmddfgfaa.Dm10
