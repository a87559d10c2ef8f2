/-
  Layer 10, plainly: frontiers, and ways up from a point that leads there.
-/
import Derived.Test.YtdjggoddpohceaaDomX
import Derived.Test.YtdjggoddpohceaaDomF
namespace Go.Proofs.Ytdjggoddpohceaa.Dm10
open Fl9

theorem led_iff {g : List (List Int)} {a k : Nat} : ∀ {m : Nat}, ledB g a k m = true ↔ ∃ p, p < m ∧ Dom g a p ∧ (k : Int) ∈ g.getD p []
  | m => by
    unfold ledB
    rw [List.any_eq_true]
    constructor
    · rintro ⟨p, hp, h⟩
      rw [Bool.and_eq_true, domB_iff, decide_eq_true_iff] at h
      exact ⟨p, List.mem_range.1 hp, h.1, h.2⟩
    · rintro ⟨p, hp, h1, h2⟩
      exact ⟨p, List.mem_range.2 hp, by rw [Bool.and_eq_true, domB_iff, decide_eq_true_iff]; exact ⟨h1, h2⟩⟩
theorem fr_iff {g : List (List Int)} {a k : Nat} : frB g a k = true ↔ Come g k ∧ (∃ p, Dom g a p ∧ (k : Int) ∈ g.getD p []) ∧ (a = k ∨ ¬ Dom g a k) := by
  unfold frB
  rw [Bool.and_eq_true, Bool.and_eq_true, Bool.or_eq_true, getD_true, come_iff, led_iff, decide_eq_true_iff, Bool.not_eq_true', ← Bool.not_eq_true, domB_iff]
  constructor
  · rintro ⟨⟨h1, p, _, h2, h3⟩, h4⟩
    exact ⟨h1, ⟨p, h2, h3⟩, h4⟩
  · rintro ⟨h1, ⟨p, h2, h3⟩, h4⟩
    exact ⟨⟨h1, p, h2.1.last.1, h2, h3⟩, h4⟩
/-- the point 0: whoever stands above a point that leads to it has it in its frontier. -/
theorem fr_zero {g : List (List Int)} {near : List Int} (h : Fix g near) {a : Nat} : frB g a 0 = true ↔ ∃ p, Come g p ∧ ((0 : Nat) : Int) ∈ g.getD p [] ∧ Anc near a p := by
  rw [fr_iff]
  constructor
  · rintro ⟨_, ⟨p, h2, h3⟩, _⟩
    exact ⟨p, h2.1, h3, (h.dom h2.1).2 h2⟩
  · rintro ⟨p, h1, h2, h3⟩
    have hd := (h.dom h1).1 h3
    have h0 : Come g 0 := .refl h1.start.1 trivial
    refine ⟨h0, ⟨p, hd, h2⟩, ?_⟩
    by_cases e : a = 0
    · exact .inl e
    · exact .inr fun h => e (dom_zero h)
/-- other points: whoever stands above a point that leads there, but not above its nearest one. -/
theorem fr_up {g : List (List Int)} {near : List Int} (h : Fix g near) {a k c : Nat} (hk : Come g k) (hk0 : k ≠ 0) (hc : near[k]? = some (c : Int)) : frB g a k = true ↔ ∃ p, Come g p ∧ (k : Int) ∈ g.getD p [] ∧ Anc near a p ∧ ¬ Anc near a c := by
  have hcd := anc_up h hk hc
  rw [fr_iff]
  constructor
  · rintro ⟨_, ⟨p, h2, h3⟩, h4⟩
    refine ⟨p, h2.1, h3, (h.dom h2.1).2 h2, fun h5 => ?_⟩
    have h6 : Dom g a k := (h.dom hcd.come).1 h5 |>.trans hcd
    rcases h4 with rfl | h4
    · -- k above its own nearest one
      have h7 : Dom g a c := (h.dom hcd.come).1 h5
      have h8 := dom_anti h7 hcd
      obtain ⟨c2, e2, hne⟩ := h.up9 a hk0 hk
      rw [hc] at e2
      simp only [Option.some.injEq] at e2
      omega
    · exact h4 h6
  · rintro ⟨p, h1, h2, h3, h4⟩
    refine ⟨hk, ⟨p, (h.dom h1).1 h3, h2⟩, ?_⟩
    by_cases e : a = k
    · exact .inl e
    · exact .inr fun h5 => h4 (h.sound9 a k c h5 e hc)
/-- above one point stands a row: of two one is above the other. -/
theorem anc_row {g : List (List Int)} {near : List Int} (h : Fix g near) {a b p : Nat} (hp : Come g p) (ha : Anc near a p) (hb : Anc near b p) : Anc near a b ∨ Anc near b a := by
  have h1 := (h.dom hp).1 ha
  have h2 := (h.dom hp).1 hb
  rcases dom_row h1 h2 with h3 | h3
  · exact .inl ((h.dom h2.come).2 h3)
  · exact .inr ((h.dom h1.come).2 h3)
end Go.Proofs.Ytdjggoddpohceaa.Dm10
