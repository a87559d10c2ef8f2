/-
  Layer 10, plainly: nearest ones that no way up contradicts are the nearest ones.
-/
import Derived.Test.YtiohngbmddfgfaaDomN
namespace Go.Proofs.Ytiohngbmddfgfaa.Dm10
open Fl9

/-- a is b, or stands above it. -/
inductive Anc (near : List Int) (a : Nat) : Nat → Prop
  | refl : Anc near a a
  | up {b c : Nat} : near[b]? = some (c : Int) → Anc near a c → Anc near a b
theorem Anc.trans {near : List Int} {a b c : Nat} (h : Anc near a b) (k : Anc near b c) : Anc near a c := by
  induction k with
  | refl => exact h
  | up e _ ih => exact .up e ih
/-- what is asked of nearest ones: each has one but 0 and what can't be come to; it stands above each point that leads there; and what dominates stands above it. -/
structure Fix (g : List (List Int)) (near : List Int) : Prop where
  len9 : near.length = g.length
  top9 : ∀ k, k < g.length → (k = 0 ∨ ¬ Come g k) → near[k]? = some (-1)
  up9 : ∀ k, k ≠ 0 → Come g k → ∃ c : Nat, near[k]? = some (c : Int) ∧ c ≠ k
  pred9 : ∀ p k c : Nat, Come g p → k ≠ 0 → (k : Int) ∈ g.getD p [] → k < g.length → near[k]? = some (c : Int) → Anc near c p
  sound9 : ∀ a k c : Nat, Dom g a k → a ≠ k → near[k]? = some (c : Int) → Anc near a c
theorem dom_zero {g : List (List Int)} {a : Nat} (h : Dom g a 0) : a = 0 := Classical.byContradiction fun hn => h.2.2 (.refl h.1.last.1 (fun e => hn e.symm))
theorem Fix.dom {g : List (List Int)} {near : List Int} (h : Fix g near) {a k : Nat} (hk : Come g k) : Anc near a k ↔ Dom g a k := by
  constructor
  · intro ha
    have hno : ∀ q, Way g (fun p => p ≠ a) 0 q → ¬ Anc near a q := by
      intro q hq
      induction hq with
      | refl h1 h2 =>
        intro hanc
        cases hanc with
        | refl => exact h2 rfl
        | up e _ =>
          rw [h.top9 0 h1 (.inl rfl)] at e
          simp only [Option.some.injEq] at e
          omega
      | step h0 h1 h2 h3 ih =>
        rename_i q r
        intro hanc
        cases hanc with
        | refl => exact h3 rfl
        | up e hc =>
          by_cases hr : r = 0
          · subst hr
            rw [h.top9 0 h2 (.inl rfl)] at e
            simp only [Option.some.injEq] at e
            omega
          · exact ih (hc.trans (h.pred9 q r _ (h0.mono fun _ _ => trivial) hr h1 h2 e))
    have hw : ¬ Way g (fun p => p ≠ a) 0 k := fun w => hno k w ha
    refine ⟨hk, Classical.byContradiction fun hlt => hw ?_, hw⟩
    -- no way goes through what is no point
    have hall : ∀ q, Come g q → Way g (fun p => p ≠ a) 0 q := by
      intro q hq
      induction hq with
      | refl h1 _ => exact .refl h1 (by omega)
      | step h0 h1 h2 h9 ih => exact .step ih h1 h2 (by omega)
    exact hall k hk
  · intro hd
    by_cases e : a = k
    · subst e; exact .refl
    · by_cases hk0 : k = 0
      · subst hk0
        exact absurd (dom_zero hd) e
      · obtain ⟨c, hc, _⟩ := h.up9 k hk0 hk
        exact .up hc (h.sound9 a k c hd e hc)
theorem anc_up {g : List (List Int)} {near : List Int} (h : Fix g near) {k c : Nat} (hk : Come g k) (hc : near[k]? = some (c : Int)) : Dom g c k := (h.dom hk).1 (.up hc .refl)
theorem Fix.best {g : List (List Int)} {near : List Int} (h : Fix g near) : near = nearestV g := by
  apply List.ext_getElem?
  intro k
  by_cases hk : k < g.length
  · rw [nearest_at hk]
    by_cases hc : k = 0 ∨ ¬ Come g k
    · rw [h.top9 k hk hc]
      congr 1
      rcases best_ok (g := g) (k := k) g.length with ⟨e, _⟩ | ⟨b, _, _, hbk, hbd, _⟩
      · exact e.symm
      · rcases hc with rfl | hc
        · exact absurd (dom_zero hbd) hbk
        · exact absurd hbd.1 hc
    · have hk0 : k ≠ 0 := fun e => hc (.inl e)
      have hcm : Come g k := Classical.byContradiction fun e => hc (.inr e)
      obtain ⟨c, e1, hck⟩ := h.up9 k hk0 hcm
      have hcd := anc_up h hcm e1
      rw [e1]
      congr 1
      rcases best_ok (g := g) (k := k) g.length with ⟨_, hn⟩ | ⟨b, e2, _, hbk, hbd, hall⟩
      · exact absurd hcd (hn c hcd.2.1 hck)
      · rw [e2]
        have h1 : Dom g c b := hall c hcd.2.1 hck hcd
        have h2 : Dom g b c := (h.dom hcd.come).1 (h.sound9 b k c hbd hbk e1)
        rw [dom_anti h1 h2]
  · rw [List.getElem?_eq_none (by rw [h.len9]; omega), List.getElem?_eq_none (by rw [nearest_len]; omega)]
end Go.Proofs.Ytiohngbmddfgfaa.Dm10
