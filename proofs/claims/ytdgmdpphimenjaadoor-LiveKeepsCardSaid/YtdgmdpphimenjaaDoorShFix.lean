/-
  Layer 8, plain: going round till there are no more finds just what can be come to.
-/
import Derived.Test.YtdgmdpphimenjaaDoorShDfs
namespace Go.Proofs.YtdgmdpphimenjaaDoor.Sh8
open Api

def Lds (bl : List Bl) (i k : Nat) : Prop := ∃ b, bl[i]? = some b ∧ ∃ x ∈ b.fin.dest, plc (names bl) x = some k
/-- what is marked can be come to. -/
structure Fx (bl : List Bl) (C : List Bool) : Prop where
  len : C.length = bl.length
  sound : ∀ (p : Nat) (x : Wd), C[p]? = some true → (names bl)[p]? = some x → Reach bl x
/-- within a round: which blocks are gone through, and how far the next one. -/
structure Rd (bl : List Bl) (c0 : Nat) (C : List Bool) (m : Bool) (i k : Nat) : Prop where
  fx : Fx bl C
  zero : C[0]? = some true
  cnt : c0 ≤ cntT C
  more : m = true → c0 + 1 ≤ cntT C
  shut : m = false → ∀ (a q : Nat), a < i → C[a]? = some true → Lds bl a q → C[q]? = some true
  part : m = false → ∀ (q : Nat), q < k → C[i]? = some true → Lds bl i q → C[q]? = some true
variable {bl : List Bl} {C : List Bool} {c0 i k : Nat} {m : Bool}
theorem fx_start (bl : List Bl) : Fx bl (List.replicate bl.length false) := by
  refine ⟨by simp, fun p x hp _ => ?_⟩
  have := (List.mem_replicate.1 (List.mem_of_getElem? hp)).2
  cases this
theorem Fx.head (h : Fx bl C) (h0 : 0 < bl.length) : Fx bl (C.set 0 true) ∧ (C.set 0 true)[0]? = some true ∧ cntT C ≤ cntT (C.set 0 true) := by
  have hl : 0 < C.length := by rw [h.len]; exact h0
  refine ⟨⟨by simp [h.len], fun p x hp hx => ?_⟩, List.getElem?_set_self hl, ?_⟩
  · by_cases e : p = 0
    · subst e
      exact reach_zero hx
    · exact h.sound p x (of_set hp e) hx
  · cases hc : C[0]? with
    | none => rw [List.getElem?_eq_none_iff] at hc; omega
    | some b =>
      cases b with
      | true => rw [cnt_same hc]; exact Nat.le_refl _
      | false => rw [cnt_set hc]; omega
theorem rd_start (h : Fx bl C) (h0 : C[0]? = some true) (hc : c0 ≤ cntT C) : Rd bl c0 C false 0 0 :=
  ⟨h, h0, hc, fun e => (by cases e), fun _ a q ha => (by omega), fun _ q hq => by omega⟩
theorem Rd.skip (h : Rd bl c0 C m i k) (hs : C[k]? = some true ∨ ¬ Lds bl i k) : Rd bl c0 C m i (k + 1) :=
  ⟨h.fx, h.zero, h.cnt, h.more, h.shut, fun hm q hq hi hl => by
    by_cases e : q < k
    · exact h.part hm q e hi hl
    · obtain rfl : q = k := by omega
      rcases hs with hs | hs
      · exact hs
      · exact absurd hl hs⟩
theorem Rd.mark (h : Rd bl c0 C m i k) (hk : C[k]? = some false) (hi : C[i]? = some true) (hl : Lds bl i k) : Rd bl c0 (C.set k true) true i (k + 1) := by
  refine ⟨⟨by simp [h.fx.len], fun p x hp hx => ?_⟩, set_true h.zero, by rw [cnt_set hk]; have := h.cnt; omega, fun _ => by rw [cnt_set hk]; have := h.cnt; omega, fun e => (by cases e), fun e => (by cases e)⟩
  by_cases e : p = k
  · subst e
    obtain ⟨b, hb, y, hy, hp2⟩ := hl
    have := plc_at hp2
    rw [hx] at this
    cases this
    exact .step (List.mem_of_getElem? hb) (h.fx.sound i _ hi (names_at hb)) hy
  · exact h.fx.sound p x (of_set hp e) hx
theorem Rd.next (h : Rd bl c0 C m i k) (hk : bl.length ≤ k ∨ C[i]? = some false) : Rd bl c0 C m (i + 1) 0 :=
  ⟨h.fx, h.zero, h.cnt, h.more, fun hm a q ha hi hl => (by
    by_cases e : a < i
    · exact h.shut hm a q e hi hl
    · obtain rfl : a = i := by omega
      rcases hk with hk | hk
      · obtain ⟨b, hb, y, hy, hp2⟩ := hl
        have hq := plc_lt hp2
        rw [names_len] at hq
        exact h.part hm q (by omega) hi ⟨b, hb, y, hy, hp2⟩
      · rw [hk] at hi
        cases hi), fun _ q hq => (by omega)⟩
/-- what is known between the rounds. -/
def Btw (bl : List Bl) (C : List Bool) (m : Bool) : Prop := Fx bl C ∧ (m = true → 0 < bl.length) ∧ (m = false → 0 < bl.length → C[0]? = some true ∧ ∀ (a q : Nat), C[a]? = some true → Lds bl a q → C[q]? = some true)
theorem btw_start (bl : List Bl) : Btw bl (List.replicate bl.length false) (decide (0 < bl.length)) :=
  ⟨fx_start bl, fun h => by simpa using h, fun h h0 => by have := of_decide_eq_false h; omega⟩
theorem Rd.fin (h : Rd bl c0 C m i 0) (hi : bl.length ≤ i) (h0 : 0 < bl.length) : Btw bl C m :=
  ⟨h.fx, fun _ => h0, fun hm _ => ⟨h.zero, fun a q ha hl => h.shut hm a q (by
    have := (List.getElem?_eq_some_iff.1 ha).1
    rw [h.fx.len] at this
    omega) ha hl⟩⟩
theorem Btw.fin (h : Btw bl C false) (hn : (names bl).Nodup) (h0 : 0 < bl.length) : (∀ p, p < bl.length → C[p]? = some true) ↔ ∀ b ∈ bl, Reach bl b.name := by
  obtain ⟨h1, _, h2⟩ := h
  obtain ⟨hz, hc⟩ := h2 rfl h0
  constructor
  · intro ha b hb
    obtain ⟨i, hi, e⟩ := List.mem_iff_getElem.1 hb
    have hi2 : bl[i]? = some b := by rw [List.getElem?_eq_getElem hi, e]
    exact h1.sound i _ (ha i hi) (names_at hi2)
  · intro hr
    rw [← h1.len]
    exact all_true hn h1.len hz (fun i b hb hi x hx p hp => hc i p hi ⟨b, hb, x, hx, hp⟩) hr
end Go.Proofs.YtdgmdpphimenjaaDoor.Sh8
