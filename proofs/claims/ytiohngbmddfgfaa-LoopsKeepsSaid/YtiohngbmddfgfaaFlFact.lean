/-
  Layer 9: what follows of going down: what is marked, what is left, and in which order.
-/
import Derived.Test.YtiohngbmddfgfaaFlIter
namespace Go.Proofs.Ytiohngbmddfgfaa.Fl9

/-- going on from s to t: what is left anew. Each of it has one behind it that leads to it, or stands in ks. -/
structure Gone (g : List (List Int)) (ks : List Int) (s t : List Bool × List Int) (new : List Int) : Prop where
  left : t.2 = s.2 ++ new
  len : t.1.length = s.1.length
  mark : ∀ x : Nat, t.1[x]? = some true ↔ (s.1[x]? = some true ∨ (x : Int) ∈ new)
  was : ∀ x ∈ new, ∃ q : Nat, x = (q : Int) ∧ q < g.length ∧ s.1[q]? = some false
  nd : new.Nodup
  lead : ∀ x ∈ new, ∀ q : Nat, (q : Int) ∈ g.getD x.toNat [] → q < g.length → t.1[q]? = some true
  back : ∀ (i : Nat) (x : Int), new[i]? = some x → (∃ (j : Nat) (y : Int), i < j ∧ new[j]? = some y ∧ x ∈ g.getD y.toNat []) ∨ x ∈ ks
theorem Gone.refl (g : List (List Int)) (s : List Bool × List Int) : Gone g [] s s [] := ⟨by simp, rfl, by simp, by simp, List.nodup_nil, by simp, by simp⟩
theorem Gone.trans {g : List (List Int)} {k1 k2 : List Int} {s t u : List Bool × List Int} {n1 n2 : List Int} (h : Gone g k1 s t n1) (k : Gone g k2 t u n2) : Gone g (k1 ++ k2) s u (n1 ++ n2) := by
  refine ⟨by rw [k.left, h.left, List.append_assoc], k.len.trans h.len, fun x => ?_, fun x hx => ?_, ?_, fun x hx q hq hl => ?_, fun i x hx => ?_⟩
  · rw [k.mark, h.mark, List.mem_append, or_assoc]
  · rcases List.mem_append.1 hx with hx | hx
    · exact h.was x hx
    · obtain ⟨q, e, h1, h2⟩ := k.was x hx
      refine ⟨q, e, h1, ?_⟩
      have hl : q < t.1.length := (List.getElem?_eq_some_iff.1 h2).1
      cases hc : s.1[q]? with
      | none => rw [List.getElem?_eq_none_iff] at hc; have := h.len; omega
      | some b =>
        cases b with
        | false => rfl
        | true =>
          have := (h.mark q).2 (.inl hc)
          rw [h2] at this
          cases this
  · rw [List.nodup_append]
    refine ⟨h.nd, k.nd, fun a ha b hb e => ?_⟩
    subst e
    obtain ⟨q, e, _, h2⟩ := k.was a hb
    subst e
    have := (h.mark q).2 (.inr ha)
    rw [h2] at this
    cases this
  · rcases List.mem_append.1 hx with hx | hx
    · exact (k.mark q).2 (.inl (h.lead x hx q hq hl))
    · exact k.lead x hx q hq hl
  · by_cases hi : i < n1.length
    · rw [List.getElem?_append_left hi] at hx
      rcases h.back i x hx with ⟨j, y, h1, h2, h3⟩ | h3
      · exact .inl ⟨j, y, h1, by rw [List.getElem?_append_left (List.getElem?_eq_some_iff.1 h2).1]; exact h2, h3⟩
      · exact .inr (List.mem_append_left _ h3)
    · rw [List.getElem?_append_right (by omega)] at hx
      rcases k.back _ x hx with ⟨j, y, h1, h2, h3⟩ | h3
      · exact .inl ⟨n1.length + j, y, by omega, by rw [List.getElem?_append_right (by omega), Nat.add_sub_cancel_left]; exact h2, h3⟩
      · exact .inr (List.mem_append_right _ h3)
def Goes (g : List (List Int)) (f : Nat) (rec : Nat → List Bool → List Int → List Bool × List Int) : Prop := ∀ (p : Nat) (m : List Bool) (l : List Int), m[p]? = some false → un m ≤ f → m.length = g.length → ∃ new, Gone g [(p : Int)] (m, l) (rec p m l) new ∧ (p : Int) ∈ new
/-- one list gone through. -/
theorem gone_all {g : List (List Int)} {f : Nat} {rec : Nat → List Bool → List Int → List Bool × List Int} {m : List Bool} {l : List Int} (hr : Good g.length f rec) (hg : Goes g f rec) : ∀ (ks : List Int) {s : List Bool × List Int}, Dn g.length f m l s → ∃ new, Gone g ks s (ks.foldl (stepV g.length rec) s) new ∧ ∀ q : Nat, (q : Int) ∈ ks → q < g.length → (ks.foldl (stepV g.length rec) s).1[q]? = some true
  | [], s, _ => ⟨[], Gone.refl g s, fun q h => by cases h⟩
  | k :: r, s, h => by
    obtain ⟨n1, h1, h2⟩ : ∃ n1, Gone g [k] s (stepV g.length rec s k) n1 ∧ ∀ q : Nat, k = (q : Int) → q < g.length → (stepV g.length rec s k).1[q]? = some true := by
      unfold stepV
      split
      · rename_i hk
        obtain ⟨n1, h1, h2⟩ := hg k.toNat s.1 s.2 hk.2.2 h.fuel h.len
        have e : ((k.toNat : Nat) : Int) = k := Int.toNat_of_nonneg hk.1
        rw [e] at h1 h2
        exact ⟨n1, h1, fun q e2 _ => (h1.mark q).2 (.inr (by rw [← e2]; exact h2))⟩
      · rename_i hk
        refine ⟨[], ⟨by simp, rfl, by simp, by simp, List.nodup_nil, by simp, by simp⟩, fun q e2 hq => ?_⟩
        subst e2
        cases hc : s.1[q]? with
        | none => rw [List.getElem?_eq_none_iff] at hc; have := h.len; omega
        | some b =>
          cases b with
          | true => rfl
          | false => exact absurd ⟨by omega, by omega, by rw [Int.toNat_natCast]; exact hc⟩ hk
    obtain ⟨n2, h3, h4⟩ := gone_all hr hg r (h.step hr k)
    refine ⟨n1 ++ n2, h1.trans h3, fun q hq hl => ?_⟩
    rcases List.mem_cons.1 hq with e | hq
    · exact (h3.mark q).2 (.inl (h2 q e.symm hl))
    · exact h4 q hq hl
theorem down_goes (g : List (List Int)) : ∀ f, Goes g f (downV g f)
  | 0 => fun p m l hp hf hl => by
    have := un_set hp
    omega
  | f + 1 => fun p m l hp hf hl => by
    obtain ⟨new, h1, h2⟩ := gone_all (down_good g f) (down_goes g f) (g.getD p []) (Dn.start (l := l) hp hf hl)
    have hpl : p < m.length := (List.getElem?_eq_some_iff.1 hp).1
    have hpn : (p : Int) ∉ new := fun h => by
      obtain ⟨q, e, _, h3⟩ := h1.was _ h
      obtain rfl : p = q := by omega
      simp only at h3
      rw [List.getElem?_set_self hpl] at h3
      cases h3
    obtain ⟨T, hT⟩ : ∃ T, (g.getD p []).foldl (stepV g.length (downV g f)) (m.set p true, l) = T := ⟨_, rfl⟩
    rw [hT] at h1 h2
    have e : downV g (f + 1) p m l = (T.1, T.2 ++ [(p : Int)]) := by rw [downV, hT]
    rw [e]
    refine ⟨new ++ [(p : Int)], ⟨by simp [h1.left], by simpa using h1.len, fun x => ?_, fun x hx => ?_, ?_, fun x hx q hq hl2 => ?_, fun i x hx => ?_⟩, by simp⟩
    · show T.1[x]? = some true ↔ _
      rw [h1.mark x, List.mem_append, List.mem_singleton]
      simp only
      by_cases e2 : p = x
      · subst e2
        rw [List.getElem?_set_self hpl]
        simp
      · rw [List.getElem?_set_ne e2]
        constructor
        · rintro (h | h)
          · exact .inl h
          · exact .inr (.inl h)
        · rintro (h | h | h)
          · exact .inl h
          · exact .inr h
          · omega
    · rcases List.mem_append.1 hx with hx | hx
      · obtain ⟨q, e3, h3, h4⟩ := h1.was x hx
        refine ⟨q, e3, h3, ?_⟩
        have hne : p ≠ q := fun e => hpn (by rw [e, ← e3]; exact hx)
        simp only at h4
        rw [List.getElem?_set_ne hne] at h4
        exact h4
      · rw [List.mem_singleton] at hx
        exact ⟨p, hx, by omega, hp⟩
    · rw [List.nodup_append]
      refine ⟨h1.nd, by simp, fun a ha b hb e2 => ?_⟩
      rw [List.mem_singleton] at hb
      subst e2
      subst hb
      exact hpn ha
    · rcases List.mem_append.1 hx with hx | hx
      · exact h1.lead x hx q hq hl2
      · rw [List.mem_singleton] at hx
        subst hx
        rw [Int.toNat_natCast] at hq
        exact h2 q hq hl2
    · by_cases hi : i < new.length
      · rw [List.getElem?_append_left hi] at hx
        rcases h1.back i x hx with ⟨j, y, k1, k2, k3⟩ | k3
        · exact .inl ⟨j, y, k1, by rw [List.getElem?_append_left (List.getElem?_eq_some_iff.1 k2).1]; exact k2, k3⟩
        · exact .inl ⟨new.length, (p : Int), hi, by simp, by rw [Int.toNat_natCast]; exact k3⟩
      · rw [List.getElem?_append_right (by omega)] at hx
        right
        cases hj : i - new.length with
        | zero => rw [hj] at hx; simp at hx; simp [hx]
        | succ j => rw [hj] at hx; simp at hx
theorem nodup_at {α : Type} {l : List α} (h : l.Nodup) {i j : Nat} {x : α} (hi : l[i]? = some x) (hj : l[j]? = some x) : i = j := by
  obtain ⟨a1, a2⟩ := List.getElem?_eq_some_iff.1 hi
  obtain ⟨b1, b2⟩ := List.getElem?_eq_some_iff.1 hj
  have h2 := List.pairwise_iff_getElem.1 h
  rcases Nat.lt_trichotomy i j with e | e | e
  · exact absurd (a2.trans b2.symm) (h2 i j a1 b1 e)
  · exact e
  · exact absurd (b2.trans a2.symm) (h2 j i b1 a1 e)
/-- what is told of the order and of what is come to. -/
structure OrderOk (g : List (List Int)) (o : List Int) (m : List Bool) : Prop where
  len : m.length = g.length
  first : 0 < g.length → o[0]? = some 0
  mem : ∀ q : Nat, (q : Int) ∈ o ↔ m[q]? = some true
  point : ∀ x ∈ o, ∃ q : Nat, x = (q : Int) ∧ q < g.length
  nd : o.Nodup
  lead : ∀ p q : Nat, m[p]? = some true → (q : Int) ∈ g.getD p [] → q < g.length → m[q]? = some true
  back : ∀ (i : Nat) (x : Int), o[i]? = some x → (i = 0 ∧ x = 0) ∨ ∃ (j : Nat) (y : Int), j < i ∧ o[j]? = some y ∧ x ∈ g.getD y.toNat []
theorem start_ok {g : List (List Int)} (h0 : g.length ≠ 0) : OrderOk g (startV g).2.reverse (startV g).1 := by
  have hp : (List.replicate g.length false)[0]? = some false := by rw [List.getElem?_replicate, if_pos (by omega)]
  obtain ⟨new, h1, h2⟩ := down_goes g g.length 0 (List.replicate g.length false) [] hp (by rw [un_none]; exact Nat.le_refl _) (by simp)
  obtain ⟨S, hS⟩ : ∃ S, startV g = S := ⟨_, rfl⟩
  unfold startV at hS
  rw [hS] at h1
  have e : startV g = S := hS
  rw [e]
  have hl : S.2 = new := by have := h1.left; simpa using this
  have hnot : ∀ q : Nat, (List.replicate g.length false)[q]? ≠ some true := fun q h => by
    rw [List.getElem?_replicate] at h
    split at h <;> simp at h
  -- the last one is 0: it stands nowhere else
  have hlast : ∃ pre, new = pre ++ [(0 : Int)] := by
    obtain ⟨F, hF⟩ : ∃ F, g.length = F + 1 := ⟨g.length - 1, by omega⟩
    have e2 := hS
    rw [hF, downV] at e2
    refine ⟨((g.getD 0 []).foldl (stepV g.length (downV g F)) ((List.replicate (F + 1) false).set 0 true, [])).2, ?_⟩
    rw [← hl, ← e2]
    rfl
  obtain ⟨pre, hpre⟩ := hlast
  refine ⟨by have := h1.len; simpa using this, fun _ => ?_, fun q => ?_, fun x hx => ?_, ?_, fun p q hp hq hl2 => ?_, fun i x hx => ?_⟩
  · rw [hl, hpre]; simp
  · rw [List.mem_reverse, hl, h1.mark q]
    constructor
    · exact .inr
    · rintro (h | h)
      · exact absurd h (hnot q)
      · exact h
  · rw [List.mem_reverse, hl] at hx
    obtain ⟨q, e3, h3, _⟩ := h1.was x hx
    exact ⟨q, e3, h3⟩
  · rw [hl]
    exact (List.reverse_perm new).nodup_iff.2 h1.nd
  · rcases (h1.mark p).1 hp with h | h
    · exact absurd h (hnot p)
    · exact h1.lead _ h q (by rw [Int.toNat_natCast]; exact hq) hl2
  · rw [hl] at hx
    have hi : i < new.length := by have := (List.getElem?_eq_some_iff.1 hx).1; simpa using this
    rw [List.getElem?_reverse hi] at hx
    by_cases hi0 : i = 0
    · subst hi0
      left
      rw [hpre] at hx
      simp at hx
      exact ⟨rfl, hx.symm⟩
    · right
      have hx0 : x ≠ 0 := fun e3 => by
        subst e3
        have hz : new[new.length - 1]? = some 0 := by rw [hpre]; simp
        have := nodup_at h1.nd hx hz
        omega
      rcases h1.back _ x hx with ⟨j, y, k1, k2, k3⟩ | k3
      · have hj := (List.getElem?_eq_some_iff.1 k2).1
        refine ⟨new.length - 1 - j, y, by omega, ?_, k3⟩
        rw [hl, List.getElem?_reverse (by omega), show new.length - 1 - (new.length - 1 - j) = j by omega]
        exact k2
      · simp at k3
        exact absurd k3 hx0
end Go.Proofs.Ytiohngbmddfgfaa.Fl9
