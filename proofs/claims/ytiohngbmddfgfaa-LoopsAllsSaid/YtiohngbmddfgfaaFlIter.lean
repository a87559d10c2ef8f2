/-
  Layer 9: going down with a stack, as a plain invariant: it comes to what the recursion does.
-/
import Derived.Test.YtiohngbmddfgfaaFlDown
namespace Go.Proofs.Ytiohngbmddfgfaa.Fl9

theorem un_le : ∀ m : List Bool, un m ≤ m.length
  | [] => Nat.le_refl _
  | b :: r => by
    have := un_le r
    unfold un
    simp only [List.length_cons]
    split <;> omega
/-- more fuel changes nothing. -/
theorem fold_fuel {n f : Nat} {r1 r2 : Nat → List Bool → List Int → List Bool × List Int} {m : List Bool} {l : List Int} (hr : Good n f r2)
    (he : ∀ p m l, m[p]? = some false → un m ≤ f → m.length = n → r1 p m l = r2 p m l) : ∀ (ks : List Int) {s : List Bool × List Int}, Dn n f m l s → ks.foldl (stepV n r1) s = ks.foldl (stepV n r2) s
  | [], _, _ => rfl
  | k :: ks, s, h => by
    have e : stepV n r1 s k = stepV n r2 s k := by
      unfold stepV
      split
      · rename_i hk
        exact he _ _ _ hk.2.2 h.fuel h.len
      · rfl
    rw [List.foldl_cons, List.foldl_cons, e]
    exact fold_fuel hr he ks (h.step hr k)
theorem down_fuel (g : List (List Int)) : ∀ f p m l, m[p]? = some false → un m ≤ f → m.length = g.length → downV g (f + 1) p m l = downV g f p m l
  | 0, p, m, l, hp, hf, hl => by
    have := un_set hp
    omega
  | f + 1, p, m, l, hp, hf, hl => by
    have h := fold_fuel (down_good g f) (down_fuel g f) (g.getD p []) (Dn.start (l := l) hp hf hl)
    show downV g (f + 1 + 1) p m l = downV g (f + 1) p m l
    rw [downV, downV, h]
/-- what is left to do with a stack, its top first, of which the points' lists are gone through so far. -/
def finV (g : List (List Int)) (F : Nat) (c : List Nat) : List Nat → List Bool × List Int → List Bool × List Int
  | [], s => s
  | p :: r, s => finV g F c r ((((g.getD p []).drop (c.getD p 0)).foldl (stepV g.length (downV g F)) s).1, (((g.getD p []).drop (c.getD p 0)).foldl (stepV g.length (downV g F)) s).2 ++ [(p : Int)])
theorem fin_set {g : List (List Int)} {F : Nat} {c : List Nat} {p k : Nat} : ∀ {r : List Nat} {s : List Bool × List Int}, p ∉ r → finV g F (c.set p k) r s = finV g F c r s
  | [], _, _ => rfl
  | q :: r, s, h => by
    have hq : p ≠ q := fun e => h (by simp [e])
    have e : (c.set p k).getD q 0 = c.getD q 0 := by
      rw [List.getD_eq_getElem?_getD, List.getD_eq_getElem?_getD, List.getElem?_set_ne hq]
    rw [finV, finV, e]
    exact fin_set (fun h2 => h (by simp [h2]))
def startV (g : List (List Int)) : List Bool × List Int := downV g g.length 0 (List.replicate g.length false) []
structure It (g : List (List Int)) (m : List Bool) (l : List Int) (c T : List Nat) : Prop where
  lm : m.length = g.length
  lc : c.length = g.length
  nd : T.Nodup
  stk : ∀ p ∈ T, m[p]? = some true
  cz : ∀ p : Nat, m[p]? = some false → c[p]? = some 0
  cb : ∀ (p k : Nat), c[p]? = some k → k ≤ (g.getD p []).length
  sum : l.length + un m + T.length = g.length
  fin : finV g g.length c T (m, l) = startV g
theorem un_none : ∀ n, un (List.replicate n false) = n
  | 0 => rfl
  | n + 1 => by simp [List.replicate_succ, un, un_none n]; omega
/-- the list of a point that was not marked: gone through from the point's own marking on. -/
theorem down_open (g : List (List Int)) {q : Nat} {m : List Bool} {l : List Int} (hq : m[q]? = some false) (hl : m.length = g.length) :
    downV g g.length q m l = (((g.getD q []).foldl (stepV g.length (downV g g.length)) (m.set q true, l)).1, ((g.getD q []).foldl (stepV g.length (downV g g.length)) (m.set q true, l)).2 ++ [(q : Int)]) := by
  have hu := un_le m
  obtain ⟨F, hF⟩ : ∃ F, g.length = F + 1 := ⟨g.length - 1, by have := un_set hq; omega⟩
  have h := fold_fuel (down_good g F) (down_fuel g F) (g.getD q []) (Dn.start (l := l) (f := F) hq (by omega) hl)
  have e : downV g g.length = downV g (F + 1) := by rw [hF]
  rw [e, h]
  rfl
theorem it_start {g : List (List Int)} (h0 : g.length ≠ 0) : It g ((List.replicate g.length false).set 0 true) [] (List.replicate g.length 0) [0] := by
  have hq : (List.replicate g.length false)[0]? = some false := by rw [List.getElem?_replicate, if_pos (by omega)]
  have hu := un_set hq
  rw [un_none] at hu
  refine ⟨by simp, by simp, by simp, fun p hp => ?_, fun p hp => ?_, fun p k hk => ?_, by simp; omega, ?_⟩
  · simp at hp
    subst hp
    rw [List.getElem?_set_self (by simp; omega)]
  · have hp2 := (List.getElem?_eq_some_iff.1 hp).1
    simp at hp2
    rw [List.getElem?_replicate, if_pos hp2]
  · rw [List.getElem?_replicate] at hk
    split at hk
    · cases hk; exact Nat.zero_le _
    · cases hk
  · unfold startV
    rw [down_open g hq (by simp)]
    have e : (List.replicate g.length 0).getD 0 0 = 0 := by
      rw [List.getD_eq_getElem?_getD, List.getElem?_replicate, if_pos (by omega)]; rfl
    rw [finV, finV, e, List.drop_zero]
theorem It.pop {g : List (List Int)} {m : List Bool} {l : List Int} {c T : List Nat} {p : Nat} (h : It g m l c (p :: T)) (hc : c[p]? = some (g.getD p []).length) : It g m (l ++ [(p : Int)]) c T := by
  refine ⟨h.lm, h.lc, (List.nodup_cons.1 h.nd).2, fun q hq => h.stk q (by simp [hq]), h.cz, h.cb, by have := h.sum; simp only [List.length_cons, List.length_append, List.length_nil] at this ⊢; omega, ?_⟩
  have hf := h.fin
  rw [finV, List.getD_eq_getElem?_getD (l := c), hc, Option.getD_some, List.drop_length, List.foldl_nil] at hf
  exact hf
theorem getD_set_self {c : List Nat} {p k : Nat} (hp : p < c.length) : (c.set p k).getD p 0 = k := by
  rw [List.getD_eq_getElem?_getD, List.getElem?_set_self hp]; rfl
theorem drop_at {l : List Int} {k : Nat} {x : Int} (h : l[k]? = some x) : l.drop k = x :: l.drop (k + 1) := by
  obtain ⟨hk, e⟩ := List.getElem?_eq_some_iff.1 h
  rw [List.drop_eq_getElem_cons hk, e]
theorem It.cset {g : List (List Int)} {m : List Bool} {l : List Int} {c T : List Nat} {p k : Nat} {x : Int} (h : It g m l c (p :: T)) (hx : (g.getD p [])[k]? = some x) : (∀ q : Nat, m[q]? = some false → (c.set p (k + 1))[q]? = some 0) ∧ (∀ (q j : Nat), (c.set p (k + 1))[q]? = some j → j ≤ (g.getD q []).length) := by
  have hm := h.stk p (by simp)
  refine ⟨fun q hq => ?_, fun q j hj => ?_⟩
  · have : p ≠ q := fun e => by rw [← e, hm] at hq; cases hq
    rw [List.getElem?_set_ne this]
    exact h.cz q hq
  · by_cases e : p = q
    · subst e
      have hp : p < c.length := by have := (List.getElem?_eq_some_iff.1 hj).1; simpa using this
      rw [List.getElem?_set_self hp] at hj
      cases hj
      exact (List.getElem?_eq_some_iff.1 hx).1
    · rw [List.getElem?_set_ne e] at hj
      exact h.cb q j hj
theorem It.skip {g : List (List Int)} {m : List Bool} {l : List Int} {c T : List Nat} {p k : Nat} {x : Int} (h : It g m l c (p :: T)) (hc : c[p]? = some k) (hx : (g.getD p [])[k]? = some x) (hn : ¬ (0 ≤ x ∧ x < (g.length : Int) ∧ m[x.toNat]? = some false)) : It g m l (c.set p (k + 1)) (p :: T) := by
  obtain ⟨h1, h2⟩ := h.cset hx
  refine ⟨h.lm, by simp [h.lc], h.nd, h.stk, h1, h2, h.sum, ?_⟩
  have hf := h.fin
  have hp : p < c.length := (List.getElem?_eq_some_iff.1 hc).1
  have e : stepV g.length (downV g g.length) (m, l) x = (m, l) := by unfold stepV; rw [if_neg hn]
  rw [finV, List.getD_eq_getElem?_getD (l := c), hc, Option.getD_some, drop_at hx, List.foldl_cons, e] at hf
  rw [finV, getD_set_self hp, fin_set (List.nodup_cons.1 h.nd).1]
  exact hf
theorem It.push {g : List (List Int)} {m : List Bool} {l : List Int} {c T : List Nat} {p k q : Nat} (h : It g m l c (p :: T)) (hc : c[p]? = some k) (hx : (g.getD p [])[k]? = some (q : Int)) (hq : m[q]? = some false) : It g (m.set q true) l (c.set p (k + 1)) (q :: p :: T) := by
  obtain ⟨h1, h2⟩ := h.cset hx
  have hm := h.stk p (by simp)
  have hne : p ≠ q := fun e => by rw [e, hq] at hm; cases hm
  have hql : q < m.length := (List.getElem?_eq_some_iff.1 hq).1
  have hu := un_set hq
  refine ⟨by simp [h.lm], by simp [h.lc], List.nodup_cons.2 ⟨fun hmem => ?_, h.nd⟩, fun r hr => ?_, fun r hr => ?_, h2, ?_, ?_⟩
  · have := h.stk q hmem
    rw [hq] at this
    cases this
  · by_cases e : q = r
    · subst e; rw [List.getElem?_set_self hql]
    · rw [List.getElem?_set_ne e]
      exact h.stk r (by simpa [Ne.symm e] using hr)
  · by_cases e : q = r
    · subst e; rw [List.getElem?_set_self hql] at hr; cases hr
    · rw [List.getElem?_set_ne e] at hr
      exact h1 r hr
  · have := h.sum
    simp only [List.length_cons] at this ⊢
    omega
  · have hf := h.fin
    have hp : p < c.length := (List.getElem?_eq_some_iff.1 hc).1
    have e : stepV g.length (downV g g.length) (m, l) (q : Int) = downV g g.length q m l := by
      unfold stepV
      rw [if_pos ⟨by omega, by have := h.lm; omega, by rw [Int.toNat_natCast]; exact hq⟩, Int.toNat_natCast]
    rw [finV, List.getD_eq_getElem?_getD (l := c), hc, Option.getD_some, drop_at hx, List.foldl_cons, e, down_open g hq h.lm] at hf
    have e0 : (c.set p (k + 1)).getD q 0 = 0 := by
      rw [List.getD_eq_getElem?_getD, List.getElem?_set_ne hne, h.cz q hq]; rfl
    rw [finV, e0, List.drop_zero, finV, getD_set_self hp, fin_set (List.nodup_cons.1 h.nd).1]
    exact hf
/-- how much is left to look at. -/
def remV : List (List Int) → List Nat → Nat
  | a :: g, k :: c => (a.length - k) + remV g c
  | _, _ => 0
theorem rem_set : ∀ {g : List (List Int)} {c : List Nat} {p k : Nat} {a : List Int}, c[p]? = some k → g[p]? = some a → k < a.length → remV g (c.set p (k + 1)) + 1 = remV g c
  | [], _, p, _, _, _, h, _ => by simp at h
  | _ :: _, [], p, _, _, h, _, _ => by simp at h
  | b :: g, j :: c, 0, k, a, hc, hg, hk => by
    simp at hc hg
    subst hc
    subst hg
    simp only [List.set_cons_zero, remV]
    omega
  | b :: g, j :: c, p + 1, k, a, hc, hg, hk => by
    have := rem_set (g := g) (c := c) (p := p) (by simpa using hc) (by simpa using hg) hk
    simp only [List.set_cons_succ, remV]
    omega
end Go.Proofs.Ytiohngbmddfgfaa.Fl9
