/-
  Layer 9: rows of rows of numbers that a call owns.
-/
import Derived.Test.YtiohngbmddfgfaaFlRev
namespace Go.Proofs.Ytiohngbmddfgfaa.Fl9
open Go.RowKit Api Mem

abbrev innR (v : Value) (l : List Int) : Hold.Rec := ⟨3, 1, v, l.length, iC l⟩
def inn (vs : List Value) (L : List (List Int)) : List Hold.Rec := List.zipWith innR vs L
abbrev outR (v : Value) (vs : List Value) : Hold.Rec := ⟨31, 1, v, vs.length, vs⟩
/-- a row of rows of the call's own, and other rows beside it. -/
def GOwn (w : World) (base : Nat) (v : Value) (L : List (List Int)) : Prop := ∃ vs, vs.length = L.length ∧ Hold.Apart w base (outR v vs :: inn vs L)
theorem snoc9 {w : World} {base : Nat} {v : Value} {l : List Int} {x : Int} {R : List Hold.Rec} (h : Hold.Apart w base (⟨3, 1, v, l.length + 1, iC l ++ [i64 x]⟩ :: R)) : Hold.Apart w base (innR v (l ++ [x]) :: R) := by
  have e : innR v (l ++ [x]) = ⟨3, 1, v, l.length + 1, iC l ++ [i64 x]⟩ := by simp [innR, iC]
  rw [e]
  exact h
theorem thaw9 {w : World} {base n m cap g size : Nat} {e : TypeId} {xs : List Value} (h : w.ownsRow base e size (.slice (some ⟨g, 0, none⟩) m cap) n xs) (i : Nat) : w.frozen? ⟨g, i, none⟩ = false ∧ g < w.heap.size ∧ (i < n * size → w.cell? ⟨g, i, none⟩ = xs[i]?) := by
  rcases h.2 with ⟨e, _⟩ | ⟨g', cap', cur, e, hb, hg, hnc, r⟩
  · cases e
  · have e2 := e
    simp only [Value.slice.injEq, Option.some.injEq, Addr.mk.injEq, and_true] at e2
    obtain ⟨rfl, rfl, rfl⟩ := e2
    exact ⟨h.frozenAt i, (Array.getElem?_eq_some_iff.1 hg).1, fun hi => h.cellAt i hi⟩
theorem inn_at : ∀ {vs : List Value} {L : List (List Int)} {i : Nat} {v : Value} {l : List Int}, vs[i]? = some v → L[i]? = some l → ∃ rest, ∀ v' l', (inn (vs.set i v') (L.set i l')).Perm (innR v' l' :: rest)
  | [], _, _, _, _, h, _ => by simp at h
  | _ :: _, [], _, _, _, _, h => by simp at h
  | a :: vs, b :: L, 0, v, l, h1, h2 => ⟨inn vs L, fun v' l' => List.Perm.refl _⟩
  | a :: vs, b :: L, i + 1, v, l, h1, h2 => by
    obtain ⟨rest, hr⟩ := inn_at (vs := vs) (L := L) (i := i) (by simpa using h1) (by simpa using h2)
    exact ⟨innR a b :: rest, fun v' l' => ((hr v' l').cons (innR a b)).trans (List.Perm.swap _ _ _)⟩
theorem set_same {α : Type} : ∀ {l : List α} {i : Nat} {x : α}, l[i]? = some x → l.set i x = l
  | [], _, _, h => by simp at h
  | a :: l, 0, x, h => by simp at h; simp [h]
  | a :: l, i + 1, x, h => by
    rw [List.set_cons_succ, set_same (by simpa using h)]
theorem inn_len {vs : List Value} {L : List (List Int)} (h : vs.length = L.length) : (inn vs L).length = L.length := by simp [inn, h]
theorem inn_get {vs : List Value} {L : List (List Int)} {i : Nat} {v : Value} {l : List Int} (h1 : vs[i]? = some v) (h2 : L[i]? = some l) : innR v l ∈ inn vs L := by
  refine List.mem_of_getElem? (i := i) ?_
  unfold inn
  rw [List.getElem?_zipWith, h1, h2]
theorem flat_one {α : Type} (f : α → Value) : ∀ l : List α, (l.map fun x => [f x]).flatten = l.map f
  | [] => rfl
  | a :: l => by rw [List.map_cons, List.flatten_cons, flat_one f l]; rfl
theorem ints_own {w : World} {base hi : Nat} {v : Value} {l : List Int} (h : w.ownsRow base 3 1 v l.length (iC l)) (hh : w.heap.size ≤ hi) (hl : l.length ≤ 4611686018427387903) : Ints base hi w v l :=
  Hold.Rec.on.row (r := innR v l) (ys := l.map fun x => [i64 x]) h hh hl rfl (by simp) (flat_one i64 l).symm (by
    intro i c x hc hx
    rw [List.getElem?_map, hx] at hc
    cases hc
    exact ⟨rfl, rfl⟩)
theorem bools_own {w : World} {base hi : Nat} {v : Value} {l : List Bool} (h : w.ownsRow base 4 1 v l.length (bC l)) (hh : w.heap.size ≤ hi) (hl : l.length ≤ 4611686018427387903) : Bools base hi w v l :=
  Hold.Rec.on.row (r := ⟨4, 1, v, l.length, bC l⟩) (ys := l.map fun x => [.bool x]) h hh hl rfl (by simp) (flat_one Value.bool l).symm (by
    intro i c x hc hx
    rw [List.getElem?_map, hx] at hc
    cases hc
    exact ⟨rfl, rfl⟩)
theorem GOwn.graph {w : World} {base hi : Nat} {v : Value} {L : List (List Int)} (h : GOwn w base v L) (hh : w.heap.size ≤ hi) (hl : L.length ≤ 4611686018427387903) (hs : ∀ l ∈ L, l.length ≤ 4611686018427387903) : Graph base hi w v L := by
  obtain ⟨vs, hv, ha⟩ := h
  exact Hold.Rec.on.row (r := outR v vs) (ys := vs.map fun x => [x]) ha.head hh (by rw [← hv] at hl; exact hl) hv (by simp [hv]) (by rw [flat_one (fun x => x)]; simp) (by
    intro i c x hc hx
    have hi := (List.getElem?_eq_some_iff.1 hx).1
    rw [List.getElem?_map] at hc
    obtain ⟨u, hu, rfl⟩ := Option.map_eq_some_iff.1 hc
    exact ⟨rfl, u, rfl, ints_own (ha.1 (innR u x) (by simp [inn_get hu hx])) hh (hs x (List.mem_of_getElem? hx))⟩)
theorem GOwn.below {w w' : World} {base : Nat} {v : Value} {L : List (List Int)} (h : GOwn w base v L) (hb : Below w.heap.size w w') : GOwn w' base v L := by
  obtain ⟨vs, hv, ha⟩ := h
  exact ⟨vs, hv, ha.below hb⟩
theorem GOwn.lower {w : World} {base b : Nat} {v : Value} {L : List (List Int)} (h : GOwn w base v L) (hb : b ≤ base) : GOwn w b v L := by
  obtain ⟨vs, hv, ha⟩ := h
  exact ⟨vs, hv, ha.lower hb⟩
theorem GOwn.form {w : World} {base : Nat} {v : Value} {L : List (List Int)} (h : GOwn w base v L) : ∃ A cap, v = .slice A L.length cap := by
  obtain ⟨vs, hv, ha⟩ := h
  obtain ⟨A, cap, e⟩ := ha.head.form
  exact ⟨A, cap, by rw [← hv]; exact e⟩
/-- one of the rows, brought to the front: its cell, and what comes of putting another one there. -/
theorem GOwn.pick {w : World} {base : Nat} {v : Value} {L : List (List Int)} (h : GOwn w base v L) {i : Nat} {l : List Int} (hl : L[i]? = some l) : ∃ g cap u rest vs, v = .slice (some ⟨g, 0, none⟩) L.length cap ∧ base ≤ g ∧ g < w.heap.size ∧ w.cell? ⟨g, i, none⟩ = some u ∧ w.frozen? ⟨g, i, none⟩ = false ∧ vs.length = L.length ∧ vs[i]? = some u ∧ Hold.Apart w base (innR u l :: outR v vs :: rest) ∧
    ∀ (w' : World) (u' : Value) (l' : List Int), Hold.Apart w' base (innR u' l' :: outR v vs :: rest) → GOwn (w'.setCell ⟨g, i, none⟩ u') base v (L.set i l') := by
  obtain ⟨vs, hv, ha⟩ := h
  have hi := (List.getElem?_eq_some_iff.1 hl).1
  obtain ⟨u, hu⟩ : ∃ u, vs[i]? = some u := ⟨_, List.getElem?_eq_getElem (by omega)⟩
  obtain ⟨rest, hr⟩ := inn_at hu hl
  have h0 := hr u l
  rw [set_same hu, set_same hl] at h0
  obtain ⟨g, cap, e, hg1, hg2, hg3⟩ := form9 (w := w) (v := v) ha.head (by show 0 < vs.length; omega)
  have hpl : w.ownsRow base 31 1 v vs.length vs := ha.head
  obtain rfl : v = .slice (some ⟨g, 0, none⟩) vs.length cap := e
  refine ⟨g, cap, u, rest, vs, by rw [hv], hg1, hg2, (hpl.cellAt i (by simp; omega)).trans hu, hpl.frozenAt i, hv, hu, ha.perm ((h0.cons _).trans (List.Perm.swap _ _ _)), fun w' u' l' ha' => ?_⟩
  refine ⟨vs.set i u', by simp [hv], ?_⟩
  have ha2 := (ha'.perm (List.Perm.swap _ _ _)).store (g := g) (cap := cap) (q := i) (u := u') rfl
  have := ha2.perm (((hr u' l').symm).cons _)
  unfold outR
  rw [List.length_set]
  exact this
theorem none_inn {n i : Nat} {r : Hold.Rec} (hi : (inn (List.replicate n (.slice none 0 0)) (List.replicate n []))[i]? = some r) : r = innR (.slice none 0 0) [] := by
  unfold inn at hi
  rw [List.getElem?_zipWith, List.getElem?_replicate, List.getElem?_replicate] at hi
  by_cases h : i < n
  · simp [h] at hi
    exact hi.symm
  · simp [h] at hi
/-- n rows of nothing, just made. -/
theorem gown_made {w : World} (n b : Nat) (hb : b = w.heap.size) (hn : n ≤ 1000) : GOwn (w.alloc (.cells (List.replicate n (.slice none 0 0)).toArray 31)) b (.slice (some ⟨b, 0, none⟩) n n) (List.replicate n []) := by
  have hrow := row_made9 (e := 31) (z := .slice none 0 0) n b rfl hb hn
  refine ⟨List.replicate n (.slice none 0 0), by simp, fun r hr => ?_, ?_⟩
  · rcases List.mem_cons.1 hr with rfl | hr
    · have := hrow
      unfold Hold.Rec.on
      simpa using this
    · obtain ⟨i, hi⟩ := List.mem_iff_getElem?.1 hr
      have := none_inn hi
      subst this
      exact World.ownsRow_nil _ _ _ _
  · have e : ((inn (List.replicate n (.slice none 0 0)) (List.replicate n [])).filterMap fun r => r.v.ownBlock) = [] := by
      rw [List.filterMap_eq_nil_iff]
      intro r hr
      obtain ⟨i, hi⟩ := List.mem_iff_getElem?.1 hr
      have := none_inn hi
      subst this
      rfl
    rw [List.filterMap_cons, e]
    simp [Value.ownBlock]
end Go.Proofs.Ytiohngbmddfgfaa.Fl9
