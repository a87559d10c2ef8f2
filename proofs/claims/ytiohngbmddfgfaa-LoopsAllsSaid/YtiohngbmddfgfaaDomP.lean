/-
  Layer 10, plainly: what can be come to without a point, what dominates, what is nearest.
-/
import Derived.Test.YtiohngbmddfgfaaFlPredV
import Derived.Test.YtiohngbmddfgfaaFlRev
namespace Go.Proofs.Ytiohngbmddfgfaa.Dm10
open Fl9

/-- from p one comes to q by a way that goes through none but points of ok. -/
inductive Way (g : List (List Int)) (ok : Nat → Prop) (p : Nat) : Nat → Prop
  | refl : p < g.length → ok p → Way g ok p p
  | step {q r : Nat} : Way g ok p q → (r : Int) ∈ g.getD q [] → r < g.length → ok r → Way g ok p r
theorem Way.last {g : List (List Int)} {ok : Nat → Prop} {p q : Nat} (h : Way g ok p q) : q < g.length ∧ ok q := by
  cases h with
  | refl h1 h2 => exact ⟨h1, h2⟩
  | step _ _ h1 h2 => exact ⟨h1, h2⟩
theorem Way.start {g : List (List Int)} {ok : Nat → Prop} {p q : Nat} (h : Way g ok p q) : p < g.length ∧ ok p := by
  induction h with
  | refl h1 h2 => exact ⟨h1, h2⟩
  | step _ _ _ _ ih => exact ih
theorem Way.mono {g : List (List Int)} {ok ok2 : Nat → Prop} (hm : ∀ p, ok p → ok2 p) {p q : Nat} (h : Way g ok p q) : Way g ok2 p q := by
  induction h with
  | refl h1 h2 => exact .refl h1 (hm _ h2)
  | step _ h1 h2 h3 ih => exact .step ih h1 h2 (hm _ h3)
theorem Way.trans {g : List (List Int)} {ok : Nat → Prop} {p q r : Nat} (h : Way g ok p q) (k : Way g ok q r) : Way g ok p r := by
  induction k with
  | refl _ _ => exact h
  | step _ h1 h2 h3 ih => exact .step ih h1 h2 h3
abbrev Come (g : List (List Int)) (q : Nat) : Prop := Way g (fun _ => True) 0 q
/-- what comeV tells is what can be come to. -/
theorem come_iff {g : List (List Int)} {q : Nat} : (comeV g)[q]? = some true ↔ Come g q := by
  by_cases h0 : g.length = 0
  · obtain rfl := List.eq_nil_of_length_eq_zero h0
    refine ⟨fun h => by simp [comeV] at h, fun h => ?_⟩
    have := h.last.1
    simp at this
  have hok := start_ok h0
  have e : comeV g = (startV g).1 := by unfold comeV; rw [if_neg h0]
  rw [e]
  constructor
  · intro h
    -- along the order
    have hall : ∀ (n i : Nat) (x : Int), i < n → (startV g).2.reverse[i]? = some x → Come g x.toNat := by
      intro n
      induction n with
      | zero => intro i x hi; omega
      | succ n ih =>
        intro i x hi hx
        obtain ⟨k, rfl, hk⟩ := hok.point x (List.mem_of_getElem? hx)
        rw [Int.toNat_natCast]
        rcases hok.back i _ hx with ⟨_, h2⟩ | ⟨j, y, h1, h2, h3⟩
        · obtain rfl : k = 0 := by omega
          exact .refl (by omega) trivial
        · exact .step (ih j y (by omega) h2) h3 hk trivial
    obtain ⟨i, hi⟩ := List.mem_iff_getElem?.1 ((hok.mem q).2 h)
    have := hall (i + 1) i _ (by omega) hi
    rwa [Int.toNat_natCast] at this
  · intro h
    have h0m : (startV g).1[0]? = some true := by
      refine (hok.mem 0).1 ?_
      exact List.mem_of_getElem? (hok.first (by omega))
    induction h with
    | refl _ _ => exact h0m
    | step _ h1 h2 _ ih => exact hok.lead _ _ ih h1 h2
/-- the graph without a point: nothing leads to it, and it leads to nothing. -/
def cutV (g : List (List Int)) (a : Int) : List (List Int) := (List.range g.length).map fun (i : Nat) => if (i : Int) = a then [] else (g.getD i []).filter fun x => !decide (x = a)
theorem cut_len (g : List (List Int)) (a : Int) : (cutV g a).length = g.length := by simp [cutV]
theorem cut_at {g : List (List Int)} {a : Int} {i : Nat} (h : i < g.length) : (cutV g a).getD i [] = if (i : Int) = a then [] else (g.getD i []).filter fun x => !decide (x = a) := by
  unfold cutV
  rw [List.getD_eq_getElem?_getD, List.getElem?_map, List.getElem?_range h]
  rfl
/-- what can be come to without a point. -/
def withoutV (g : List (List Int)) (a : Nat) : List Bool := if a = 0 then List.replicate g.length false else comeV (cutV g (a : Int))
theorem cut_way {g : List (List Int)} {a q : Nat} (ha : a ≠ 0) : Come (cutV g (a : Int)) q ↔ Way g (fun p => p ≠ a) 0 q ∨ (q = a ∧ False) := by
  constructor
  · intro h
    left
    induction h with
    | refl h1 _ => exact .refl (by rwa [cut_len] at h1) (fun e => ha e.symm)
    | step h0 h1 h2 h9 ih =>
      rename_i q r
      rw [cut_len] at h2
      have hq := ih.last.1
      rw [cut_at hq] at h1
      split at h1
      · simp at h1
      · rw [List.mem_filter] at h1
        refine .step ih h1.1 h2 (fun e => ?_)
        subst e
        simp at h1
  · rintro (h | ⟨_, h⟩)
    · induction h with
      | refl h1 _ => exact .refl (by rwa [cut_len]) trivial
      | step h0 h1 h2 h3 ih =>
        rename_i q r
        refine .step ih ?_ (by rwa [cut_len]) trivial
        rw [cut_at h0.last.1, if_neg (fun e => h0.last.2 (by omega)), List.mem_filter]
        exact ⟨h1, by simp; omega⟩
    · exact h.elim
theorem without_iff {g : List (List Int)} {a q : Nat} : (withoutV g a)[q]? = some true ↔ Way g (fun p => p ≠ a) 0 q := by
  unfold withoutV
  split
  · rename_i h
    subst h
    refine ⟨fun h => ?_, fun h => absurd rfl h.start.2⟩
    rw [List.getElem?_replicate] at h
    split at h <;> simp at h
  · rename_i h
    rw [come_iff, cut_way h]
    simp
theorem without_len (g : List (List Int)) (a : Nat) : (withoutV g a).length = g.length := by
  unfold withoutV
  split
  · simp
  · unfold comeV
    split
    · rename_i h; simp; rw [cut_len] at h; omega
    · rename_i h
      rw [(start_ok h).len, cut_len]
/-- a dominates b, which can be come to: each way to b goes through a. -/
def Dom (g : List (List Int)) (a b : Nat) : Prop := Come g b ∧ a < g.length ∧ ¬ Way g (fun p => p ≠ a) 0 b
theorem Dom.self {g : List (List Int)} {b : Nat} (h : Come g b) : Dom g b b := ⟨h, h.last.1, fun w => w.last.2 rfl⟩
/-- a way to b, cut at the last a (or it has none). -/
theorem Dom.come {g : List (List Int)} {a b : Nat} (h : Dom g a b) : Come g a := by
  obtain ⟨hb, ha, hn⟩ := h
  have : ∀ q, Come g q → Way g (fun p => p ≠ a) 0 q ∨ Come g a := by
    intro q hq
    induction hq with
    | refl h1 _ =>
      by_cases e : 0 = a
      · subst e; exact .inr (.refl h1 trivial)
      · exact .inl (.refl h1 e)
    | step h0 h1 h2 h9 ih =>
      rename_i q r
      rcases ih with ih | ih
      · by_cases e : r = a
        · subst e; exact .inr (.step h0 h1 h2 trivial)
        · exact .inl (.step ih h1 h2 e)
      · exact .inr ih
  exact (this b hb).resolve_left hn
theorem Dom.trans {g : List (List Int)} {a b c : Nat} (h : Dom g a b) (k : Dom g b c) : Dom g a c := by
  refine ⟨k.1, h.2.1, fun w => ?_⟩
  -- a way to c that avoids a goes through b: so there is one to b that avoids a
  have : ∀ q, Way g (fun p => p ≠ a) 0 q → Way g (fun p => p ≠ b) 0 q ∨ Way g (fun p => p ≠ a) 0 b := by
    intro q hq
    induction hq with
    | refl h1 h2 =>
      by_cases e : 0 = b
      · subst e; exact .inr (.refl h1 h2)
      · exact .inl (.refl h1 e)
    | step h0 h1 h2 h3 ih =>
      rename_i q r
      rcases ih with ih | ih
      · by_cases e : r = b
        · subst e; exact .inr (.step h0 h1 h2 h3)
        · exact .inl (.step ih h1 h2 e)
      · exact .inr ih
  rcases this c w with h1 | h1
  · exact k.2.2 h1
  · exact h.2.2 h1
/-- a point that leads to b and can be come to is dominated by what dominates b, but for b. -/
theorem Dom.pred {g : List (List Int)} {a b p : Nat} (h : Dom g a b) (hp : Come g p) (hl : (b : Int) ∈ g.getD p []) (hne : a ≠ b) : Dom g a p :=
  ⟨hp, h.2.1, fun w => h.2.2 (.step w hl h.1.last.1 (fun e => hne e.symm))⟩
theorem dom_anti {g : List (List Int)} {a b : Nat} (h : Dom g a b) (k : Dom g b a) : a = b := by
  -- a way to a, of points of which none but the last is a or b
  have hfirst : ∀ q, Come g q → (Way g (fun p => p ≠ a ∧ p ≠ b) 0 q) ∨ (Way g (fun p => p ≠ b) 0 a) ∨ (Way g (fun p => p ≠ a) 0 b) ∨ a = b := by
    intro q hq
    induction hq with
    | refl h1 _ =>
      by_cases e : 0 = a
      · by_cases e2 : a = b
        · exact .inr (.inr (.inr e2))
        · subst e; exact .inr (.inl (.refl h1 e2))
      · by_cases e2 : 0 = b
        · subst e2; exact .inr (.inr (.inl (.refl h1 e)))
        · exact .inl (.refl h1 ⟨e, e2⟩)
    | step h0 h1 h2 h9 ih =>
      rename_i q r
      rcases ih with ih | ih
      · by_cases e : r = a
        · by_cases e2 : a = b
          · exact .inr (.inr (.inr e2))
          · subst e; exact .inr (.inl (.step (ih.mono fun _ h => h.2) h1 h2 e2))
        · by_cases e2 : r = b
          · subst e2; exact .inr (.inr (.inl (.step (ih.mono fun _ h => h.1) h1 h2 e)))
          · exact .inl (.step ih h1 h2 ⟨e, e2⟩)
      · exact .inr ih
  rcases hfirst a k.1 with h1 | h1 | h1 | h1
  · exact absurd rfl h1.last.2.1
  · exact absurd h1 k.2.2
  · exact absurd h1 h.2.2
  · exact h1
/-- what dominates one point is a row. -/
theorem dom_row {g : List (List Int)} {a b c : Nat} (h : Dom g a c) (k : Dom g b c) : Dom g a b ∨ Dom g b a := by
  by_cases hab : Dom g a b
  · exact .inl hab
  · right
    have hcb := k.come
    have hca := h.come
    have hw : Way g (fun p => p ≠ a) 0 b := Classical.byContradiction fun hn => hab ⟨hcb, h.2.1, hn⟩
    refine ⟨hca, k.2.1, fun hw2 => ?_⟩
    -- a way to c: behind the last of a and b nothing is a or b: from b (or a) on
    have hlast : ∀ q, Come g q → Way g (fun p => p ≠ a ∧ p ≠ b) 0 q ∨ Way g (fun p => p ≠ a) 0 q ∨ Way g (fun p => p ≠ b) 0 q := by
      intro q hq
      induction hq with
      | refl h1 _ =>
        by_cases e : 0 = a
        · by_cases e2 : 0 = b
          · exact absurd e hw.start.2
          · exact .inr (.inr (.refl h1 e2))
        · exact .inr (.inl (.refl h1 e))
      | step h0 h1 h2 h9 ih =>
        rename_i q r
        by_cases e : r = a
        · subst e; exact .inr (.inr hw2)
        · by_cases e2 : r = b
          · subst e2; exact .inr (.inl hw)
          · rcases ih with ih | ih | ih
            · exact .inl (.step ih h1 h2 ⟨e, e2⟩)
            · exact .inr (.inl (.step ih h1 h2 e))
            · exact .inr (.inr (.step ih h1 h2 e2))
    rcases hlast c h.1 with h1 | h1 | h1
    · exact h.2.2 (h1.mono fun _ h => h.1)
    · exact h.2.2 h1
    · exact k.2.2 h1
end Go.Proofs.Ytiohngbmddfgfaa.Dm10
