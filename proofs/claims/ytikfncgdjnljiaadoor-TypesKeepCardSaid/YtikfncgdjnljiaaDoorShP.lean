/-
  Layer 8, plain facts: names, places, what can be come to, what is right of a shape.
-/
import Derived.Test.YtikfncgdjnljiaaDoorPlainS
namespace Go.Proofs.YtikfncgdjnljiaaDoor.Sh8
open Api

/-- The place of the first one that is so named. -/
def plc : List Wd → Wd → Option Nat
  | [], _ => none
  | y :: r, x => if y = x then some 0 else (plc r x).map (· + 1)
theorem plc_at : ∀ {ns : List Wd} {x : Wd} {k : Nat}, plc ns x = some k → ns[k]? = some x
  | [], _, _, h => by cases h
  | y :: r, x, k, h => by
    unfold plc at h
    split at h
    · rename_i e
      cases h
      simp [e]
    · cases hp : plc r x with
      | none => rw [hp] at h; cases h
      | some j =>
        rw [hp] at h
        cases h
        simpa using plc_at hp
theorem plc_lt {ns : List Wd} {x : Wd} {k : Nat} (h : plc ns x = some k) : k < ns.length := (List.getElem?_eq_some_iff.1 (plc_at h)).1
theorem plc_none : ∀ {ns : List Wd} {x : Wd}, plc ns x = none ↔ x ∉ ns
  | [], x => by simp [plc]
  | y :: r, x => by
    unfold plc
    split
    · rename_i e
      simp [e]
    · rename_i e
      have := plc_none (ns := r) (x := x)
      simp only [Option.map_eq_none_iff, this, List.mem_cons, not_or]
      exact ⟨fun h => ⟨fun h2 => e h2.symm, h⟩, fun h => h.2⟩
theorem plc_mem {ns : List Wd} {x : Wd} (h : x ∈ ns) : ∃ k, plc ns x = some k := by
  cases hp : plc ns x with
  | none => exact absurd h (plc_none.1 hp)
  | some k => exact ⟨k, rfl⟩
theorem plc_first : ∀ {ns : List Wd} {x : Wd} {k : Nat}, ns[k]? = some x → (∀ j, j < k → ns[j]? ≠ some x) → plc ns x = some k
  | [], _, _, h, _ => by simp at h
  | y :: r, x, 0, h, _ => by
    simp at h
    simp [plc, h]
  | y :: r, x, k + 1, h, hj => by
    have h0 := hj 0 (by omega)
    simp at h0
    have := plc_first (ns := r) (x := x) (k := k) (by simpa using h) (fun j hjk => by have := hj (j + 1) (by omega); simpa using this)
    simp [plc, h0, this]
theorem plc_end {ns : List Wd} {x : Wd} (h : ∀ j, j < ns.length → ns[j]? ≠ some x) : plc ns x = none := by
  refine plc_none.2 fun hm => ?_
  obtain ⟨j, hj, e⟩ := List.mem_iff_getElem.1 hm
  exact h j hj (by rw [List.getElem?_eq_getElem hj, e])
theorem plc_nodup {ns : List Wd} {x : Wd} {k : Nat} (hn : ns.Nodup) (h : ns[k]? = some x) : plc ns x = some k := by
  refine plc_first h fun j hj e => ?_
  obtain ⟨h1, e1⟩ := List.getElem?_eq_some_iff.1 h
  obtain ⟨h2, e2⟩ := List.getElem?_eq_some_iff.1 e
  have := (List.nodup_iff_pairwise_ne.1 hn)
  exact (List.pairwise_iff_getElem.1 this j k h2 h1 hj) (e2.trans e1.symm)
/-- What is found: the place, and whether there is one. -/
def plN (r : Option Nat) : Nat := r.getD 0
def plB (r : Option Nat) : Bool := r.isSome

abbrev Bl := Api.Block
def names (bl : List Bl) : List Wd := bl.map (·.name)
theorem names_at {bl : List Bl} {k : Nat} {b : Bl} (h : bl[k]? = some b) : (names bl)[k]? = some b.name := by simp [names, h]
theorem names_len (bl : List Bl) : (names bl).length = bl.length := by simp [names]
theorem at_names {bl : List Bl} {k : Nat} {x : Wd} (h : (names bl)[k]? = some x) : ∃ b, bl[k]? = some b ∧ b.name = x := by
  simpa [names] using h
theorem mem_names {bl : List Bl} {b : Bl} (h : b ∈ bl) : b.name ∈ names bl := List.mem_map.2 ⟨b, h, rfl⟩
/-- What can be come to, by name. -/
inductive Reach (bl : List Bl) : Wd → Prop
  | head {b : Bl} {r : List Bl} (h : bl = b :: r) : Reach bl b.name
  | step {b : Bl} {x : Wd} (hb : b ∈ bl) (h : Reach bl b.name) (hx : x ∈ b.fin.dest) : Reach bl x
/-- The end of a block is right. -/
def EndOk (ns : List Wd) (to : List Wd) : Prop := to.Nodup ∧ ∀ x ∈ to, x ∈ ns ∧ ns[0]? ≠ some x
def RightP (bl : List Bl) : Prop := bl ≠ [] ∧ (names bl).Nodup ∧ (∀ b ∈ bl, EndOk (names bl) b.fin.dest) ∧ ∀ b ∈ bl, Reach bl b.name
def insN (p : Api.Phi) : List Wd := p.ins.map (·.name)
/-- Few blocks, ends and Ins. -/
def FewP (bl : List Bl) : Prop := bl.length ≤ 60 ∧ ∀ b ∈ bl, b.fin.dest.length ≤ 8 ∧ b.phis.length ≤ 40 ∧ ∀ p ∈ b.phis, p.ins.length ≤ 60

/-! ### a set of names that is closed holds all that can be come to -/
theorem reach_in {bl : List Bl} (hn : (names bl).Nodup) (C : Nat → Prop) (h0 : C 0)
    (hc : ∀ i k b x, bl[i]? = some b → C i → x ∈ b.fin.dest → (names bl)[k]? = some x → C k) {x : Wd} (h : Reach bl x) : ∀ k, (names bl)[k]? = some x → C k := by
  induction h with
  | @head b r e =>
    intro k hk
    have h1 : (names bl)[0]? = some b.name := by rw [e]; rfl
    have := (plc_nodup hn hk).symm.trans (plc_nodup hn h1)
    cases this
    exact h0
  | @step b x hb _ hx ih =>
    intro k hk
    obtain ⟨i, hi, e⟩ := List.mem_iff_getElem.1 hb
    have hi2 : bl[i]? = some b := by rw [List.getElem?_eq_getElem hi, e]
    exact hc i k b x hi2 (ih i (names_at hi2)) hx hk
theorem reach_zero {bl : List Bl} {x : Wd} (h : (names bl)[0]? = some x) : Reach bl x := by
  cases bl with
  | nil => simp [names] at h
  | cons b r =>
    simp [names] at h
    subst h
    exact .head rfl

/-! ### the same with blocks in another order -/
theorem reach_mono {bl cl : List Bl} (h : ∀ b, b ∈ bl → b ∈ cl) (h0 : ∀ b r, bl = b :: r → Reach cl b.name) {x : Wd} (hr : Reach bl x) : Reach cl x := by
  induction hr with
  | head e => exact h0 _ _ e
  | step hb _ hx ih => exact .step (h _ hb) ih hx
theorem reach_perm {b : Bl} {r s : List Bl} (h : r.Perm s) {x : Wd} (hr : Reach (b :: r) x) : Reach (b :: s) x :=
  reach_mono (fun c hc => (h.cons b).mem_iff.1 hc) (fun c t e => by cases e; exact .head rfl) hr
theorem right_perm1 {b : Bl} {r s : List Bl} (h : r.Perm s) (hr : RightP (b :: r)) : RightP (b :: s) := by
  obtain ⟨_, h2, h3, h4⟩ := hr
  have hp : (b :: r).Perm (b :: s) := h.cons b
  have hnp : (names (b :: r)).Perm (names (b :: s)) := hp.map _
  refine ⟨by simp, hnp.nodup_iff.1 h2, fun c hc => ?_, fun c hc => reach_perm h (h4 c (hp.mem_iff.2 hc))⟩
  obtain ⟨e1, e2⟩ := h3 c (hp.mem_iff.2 hc)
  refine ⟨e1, fun x hx => ⟨hnp.mem_iff.1 (e2 x hx).1, ?_⟩⟩
  have := (e2 x hx).2
  simpa [names] using this
theorem right_perm {b : Bl} {r s : List Bl} (h : r.Perm s) : RightP (b :: r) ↔ RightP (b :: s) := ⟨right_perm1 h, right_perm1 h.symm⟩
/-! ### one block more, one less -/
theorem reach_names {bl : List Bl} (he : ∀ b ∈ bl, EndOk (names bl) b.fin.dest) {x : Wd} (h : Reach bl x) : x ∈ names bl := by
  cases h with
  | head e => rw [e]; simp [names]
  | step hb _ hx => exact ((he _ hb).2 _ hx).1
theorem not_more {bl : List Bl} {c : Bl} (h : RightP bl) (hc : c.fin.dest = []) : ¬ RightP (bl ++ [c]) := by
  intro g
  obtain ⟨h1, h2, h3, h4⟩ := h
  obtain ⟨g1, g2, g3, g4⟩ := g
  have hnot : c.name ∉ names bl := by
    intro hm
    have : (names bl ++ [c.name]).Nodup := by simpa [names] using g2
    exact (List.nodup_append.1 this).2.2 _ hm _ (by simp) rfl
  have hr : ∀ x, Reach (bl ++ [c]) x → x ∈ names bl := by
    intro x hx
    induction hx with
    | @head b r e =>
      cases bl with
      | nil => exact absurd rfl h1
      | cons d t =>
        cases e
        simp [names]
    | @step b x hb _ hx ih =>
      rcases List.mem_append.1 hb with hb | hb
      · exact ((h3 b hb).2 x hx).1
      · simp at hb
        subst hb
        rw [hc] at hx
        cases hx
  exact hnot (hr _ (g4 c (by simp)))
theorem not_less {bl : List Bl} {k i : Nat} {b c : Bl} (h : RightP bl) (hk : bl[k]? = some b) (hi : bl[i]? = some c) (hne : i ≠ k) (hx : b.name ∈ c.fin.dest) : ¬ RightP (bl.take k ++ bl.drop (k + 1)) := by
  intro g
  obtain ⟨h1, h2, h3, h4⟩ := h
  obtain ⟨g1, g2, g3, g4⟩ := g
  obtain ⟨hkl, ek⟩ := List.getElem?_eq_some_iff.1 hk
  obtain ⟨hil, ei⟩ := List.getElem?_eq_some_iff.1 hi
  have hmem : c ∈ bl.take k ++ bl.drop (k + 1) := by
    rw [List.mem_append]
    by_cases hlt : i < k
    · left
      exact List.mem_take_iff_getElem.2 ⟨i, by omega, ei⟩
    · right
      refine List.mem_drop_iff_getElem.2 ⟨i - (k + 1), by omega, ?_⟩
      have : k + 1 + (i - (k + 1)) = i := by omega
      simpa [this] using ei
  have hin := ((g3 c hmem).2 _ hx).1
  obtain ⟨d, hd, e⟩ := List.mem_map.1 hin
  have hsplit : bl = bl.take k ++ b :: bl.drop (k + 1) := by
    rw [← ek, ← List.drop_eq_getElem_cons hkl, List.take_append_drop]
  have hn2 : (names (bl.take k) ++ b.name :: names (bl.drop (k + 1))).Nodup := by
    have := h2
    rw [hsplit] at this
    simpa [names] using this
  obtain ⟨n1, n2, n3⟩ := List.nodup_append.1 hn2
  rcases List.mem_append.1 hd with hd | hd
  · exact n3 _ (mem_names hd) _ (by simp) e
  · have : b.name ∉ names (bl.drop (k + 1)) := (List.nodup_cons.1 n2).1
    exact this (e ▸ mem_names hd)
end Go.Proofs.YtikfncgdjnljiaaDoor.Sh8
