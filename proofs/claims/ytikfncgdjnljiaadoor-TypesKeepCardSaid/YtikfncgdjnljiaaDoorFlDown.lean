/-
  Layer 9: going down, as a plain function.
-/
import Derived.Test.YtikfncgdjnljiaaDoorPlainS
namespace Go.Proofs.YtikfncgdjnljiaaDoor.Fl9

/-- how many are not marked. -/
def un : List Bool → Nat
  | [] => 0
  | b :: r => (if b then 0 else 1) + un r
theorem un_set : ∀ {m : List Bool} {k : Nat}, m[k]? = some false → un (m.set k true) + 1 = un m
  | [], k, h => by simp at h
  | b :: r, 0, h => by
    simp at h
    subst h
    simp [un]
    omega
  | b :: r, k + 1, h => by
    have := un_set (m := r) (k := k) (by simpa using h)
    simp only [List.set_cons_succ, un]
    omega
def stepV (n : Nat) (rec : Nat → List Bool → List Int → List Bool × List Int) (s : List Bool × List Int) (k : Int) : List Bool × List Int :=
  if 0 ≤ k ∧ k < (n : Int) ∧ s.1[k.toNat]? = some false then rec k.toNat s.1 s.2 else s
def downV (g : List (List Int)) : Nat → Nat → List Bool → List Int → List Bool × List Int
  | 0, _, m, l => (m, l)
  | f + 1, p, m, l => (((g.getD p []).foldl (stepV g.length (downV g f)) (m.set p true, l)).1, ((g.getD p []).foldl (stepV g.length (downV g f)) (m.set p true, l)).2 ++ [(p : Int)])
/-- what is known of the state while p's list is gone through. -/
structure Dn (n f : Nat) (m : List Bool) (l : List Int) (s : List Bool × List Int) : Prop where
  len : s.1.length = n
  sum : s.2.length + un s.1 + 1 = l.length + un m
  fuel : un s.1 ≤ f
  low : l.length ≤ s.2.length
def Good (n f : Nat) (rec : Nat → List Bool → List Int → List Bool × List Int) : Prop := ∀ p m l, m[p]? = some false → un m ≤ f → m.length = n → (rec p m l).1.length = n ∧ (rec p m l).2.length + un (rec p m l).1 = l.length + un m ∧ un (rec p m l).1 ≤ un m ∧ l.length ≤ (rec p m l).2.length
theorem Dn.step {n f : Nat} {rec : Nat → List Bool → List Int → List Bool × List Int} {m : List Bool} {l : List Int} {s : List Bool × List Int} (h : Dn n f m l s) (hr : Good n f rec) (k : Int) : Dn n f m l (stepV n rec s k) := by
  unfold stepV
  split
  · rename_i hk
    obtain ⟨h1, h2, h3, h4⟩ := hr k.toNat s.1 s.2 hk.2.2 h.fuel h.len
    exact ⟨h1, by rw [h2]; exact h.sum, Nat.le_trans h3 h.fuel, Nat.le_trans h.low h4⟩
  · exact h
theorem Dn.all {n f : Nat} {rec : Nat → List Bool → List Int → List Bool × List Int} {m : List Bool} {l : List Int} (hr : Good n f rec) : ∀ (ks : List Int) {s : List Bool × List Int}, Dn n f m l s → Dn n f m l (ks.foldl (stepV n rec) s)
  | [], _, h => h
  | k :: r, _, h => Dn.all hr r (h.step hr k)
theorem Dn.start {n f p : Nat} {m : List Bool} {l : List Int} (hp : m[p]? = some false) (hf : un m ≤ f + 1) (hl : m.length = n) : Dn n f m l (m.set p true, l) := by
  have := un_set hp
  exact ⟨by simp [hl], by show l.length + un (m.set p true) + 1 = _; omega, by show un (m.set p true) ≤ f; omega, Nat.le_refl _⟩
theorem down_good (g : List (List Int)) : ∀ f, Good g.length f (downV g f)
  | 0 => fun p m l hp hf hl => by
    have := un_set hp
    omega
  | f + 1 => fun p m l hp hf hl => by
    have h := Dn.all (down_good g f) (g.getD p []) (Dn.start (l := l) hp hf hl)
    have h0 := un_set hp
    unfold downV
    simp only [List.length_append, List.length_singleton]
    refine ⟨h.len, by have := h.sum; omega, by have := h.low; have := h.sum; omega, by have := h.low; omega⟩
theorem fold_next {n : Nat} {rec : Nat → List Bool → List Int → List Bool × List Int} {ks : List Int} {j : Nat} {k : Int} (h : ks[j]? = some k) (s : List Bool × List Int) : (ks.take (j + 1)).foldl (stepV n rec) s = stepV n rec ((ks.take j).foldl (stepV n rec) s) k := by
  obtain ⟨hj, e⟩ := List.getElem?_eq_some_iff.1 h
  rw [List.take_succ_eq_append_getElem hj, e, List.foldl_append]
  rfl
end Go.Proofs.YtikfncgdjnljiaaDoor.Fl9
