/-
  Layer 10: the document's Nearest walked.
-/
import Derived.Test.YtiohngbmddfgfaaDomA
namespace Go.Proofs.Ytiohngbmddfgfaa.Dm10
open Go.RowKit Api Mem Fl9

/-- the nearest one of k among those below j, so far. -/
def bestV (g : List (List Int)) (k : Nat) : Nat → Int
  | 0 => -1
  | j + 1 => if j ≠ k ∧ domB g j k = true ∧ (bestV g k j < 0 ∨ domB g (bestV g k j).toNat j = true) then (j : Int) else bestV g k j
theorem best_in (g : List (List Int)) (k : Nat) : ∀ j, bestV g k j = -1 ∨ ∃ b : Nat, bestV g k j = (b : Int) ∧ b < j
  | 0 => .inl rfl
  | j + 1 => by
    unfold bestV
    split
    · exact .inr ⟨j, rfl, by omega⟩
    · rcases best_in g k j with h | ⟨b, h1, h2⟩
      · exact .inl h
      · exact .inr ⟨b, h1, by omega⟩
def nearestV (g : List (List Int)) : List Int := (List.range g.length).map fun k => bestV g k g.length
theorem nearest_len (g : List (List Int)) : (nearestV g).length = g.length := by simp [nearestV]
theorem nearest_at {g : List (List Int)} {k : Nat} (h : k < g.length) : (nearestV g)[k]? = some (bestV g k g.length) := by unfold nearestV; rw [List.getElem?_map, List.getElem?_range h]; rfl
/-- nobody dominates: there is none; else the one that all others dominate. -/
theorem best_ok {g : List (List Int)} {k : Nat} : ∀ j, (bestV g k j = -1 ∧ ∀ i, i < j → i ≠ k → ¬ Dom g i k) ∨ ∃ b : Nat, bestV g k j = (b : Int) ∧ b < j ∧ b ≠ k ∧ Dom g b k ∧ ∀ i, i < j → i ≠ k → Dom g i k → Dom g i b
  | 0 => .inl ⟨rfl, fun i h => by omega⟩
  | j + 1 => by
    have h := best_ok (g := g) (k := k) j
    unfold bestV
    split
    · rename_i hc
      obtain ⟨h1, h2, h3⟩ := hc
      right
      refine ⟨j, rfl, by omega, h1, domB_iff.1 h2, fun i hi hne hd => ?_⟩
      by_cases e : i = j
      · subst e; exact Dom.self hd.come
      · rcases h with ⟨e2, hn⟩ | ⟨b, e2, hb, hbk, hbd, hall⟩
        · exact absurd hd (hn i (by omega) hne)
        · have := hall i (by omega) hne hd
          rcases h3 with h3 | h3
          · omega
          · rw [e2, Int.toNat_natCast] at h3
            exact this.trans (domB_iff.1 h3)
    · rename_i hc
      rcases h with ⟨e2, hn⟩ | ⟨b, e2, hb, hbk, hbd, hall⟩
      · left
        refine ⟨e2, fun i hi hne hd => ?_⟩
        by_cases e : i = j
        · subst e
          exact hc ⟨hne, domB_iff.2 hd, .inl (by omega)⟩
        · exact hn i (by omega) hne hd
      · right
        refine ⟨b, e2, by omega, hbk, hbd, fun i hi hne hd => ?_⟩
        by_cases e : i = j
        · subst e
          rcases dom_row hd hbd with h5 | h5
          · exact h5
          · exact absurd ⟨hne, domB_iff.2 hd, .inr (by rw [e2, Int.toNat_natCast]; exact domB_iff.2 h5)⟩ hc
        · exact hall i (by omega) hne hd
def NearP (g : List (List Int)) (w : World) (e : Ending) (w' : World) : Prop := ∃ v, e = .returned v ∧ w'.ownsRow w.heap.size 3 1 v g.length (iC (nearestV g)) ∧ Below w.heap.size w w'
theorem cell_bb {lo hi : Nat} {w wr : World} {A : Option Addr} {n c : Nat} {D : List (List Bool)} (h : BGraph lo hi w (.slice A n c) D) (hb : Below hi w wr) {i k : Nat} {l : List Bool} {x : Bool} (hl : D[i]? = some l) (hx : l[k]? = some x) : ∃ b o b2 o2 c2, A = some ⟨b, o, none⟩ ∧ wr.cell? ⟨b, o + i, none⟩ = some (.slice (some ⟨b2, o2, none⟩) l.length c2) ∧ wr.cell? ⟨b2, o2 + k, none⟩ = some (.bool x) := by
  have hn : n = D.length := by obtain ⟨_, _, h, _⟩ := Row.get h; exact h
  obtain ⟨b, o, rfl⟩ := addr_of9 h (by have := (List.getElem?_eq_some_iff.1 hl).1; omega)
  obtain ⟨c1, _, ⟨u1, rfl, kx⟩, n1⟩ := cell_of h hl hb
  obtain ⟨A3, k3, rfl⟩ := Row.form kx
  obtain ⟨b2, o2, rfl⟩ := addr_of9 kx (by have := (List.getElem?_eq_some_iff.1 hx).1; omega)
  obtain ⟨c2, _, rfl, n2⟩ := cell_of kx hx hb
  exact ⟨b, o, b2, o2, k3, rfl, n1 _ rfl, n2 _ rfl⟩
end Go.Proofs.Ytiohngbmddfgfaa.Dm10
