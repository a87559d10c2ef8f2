/-
  Package syntax: lastFunc, lastBlock, lastInstr, lengthen.
-/
import Derived.Test.YtdgmdpphimenjaaDoorSt
namespace Go.Proofs.YtdgmdpphimenjaaDoor.Rd5
open Go.RowKit Api Hold Mem Syn WordM Tree

variable {w w' w1 w2 : World} {lo hi rb base N : Nat} {rc : RC} {v : Value} {l ws : List Wd} {row : Option Nat} {a : Tree.Act} {D : List Rec} {p : Prog}
/-- Only the count of draws has turned. -/
def SameH (w w' : World) : Prop := w'.heap = w.heap ∧ w'.os = w.os ∧ w'.tape = w.tape ∧ w'.output = w.output
theorem SameH.refl (w : World) : SameH w w := ⟨rfl, rfl, rfl, rfl⟩
theorem SameH.trans (h : SameH w w1) (h2 : SameH w1 w2) : SameH w w2 := ⟨h2.1.trans h.1, h2.2.1.trans h.2.1, h2.2.2.1.trans h.2.2.1, h2.2.2.2.trans h.2.2.2⟩
theorem SameH.grown (h : SameH w w') (row : Option Nat) : w.grownBy w' row := ⟨h.2.1, h.2.2.1, h.2.2.2, by rw [h.1]; exact Nat.le_refl _, fun k _ _ => by rw [h.1]⟩
theorem SameH.drew (h : SameH w w') : SameH w w'.drew := ⟨h.1, h.2.1, h.2.2.1, h.2.2.2⟩
theorem SameH.drewN (w : World) (n : Nat) : SameH w (w.drewN n) := ⟨rfl, rfl, rfl, rfl⟩
theorem SameH.cell (h : SameH w w') {q : Addr} {u : Value} (hc : w.cell? q = some u) : w'.cell? q = some u := (World.cell?_of_block (by rw [h.1])).trans hc
theorem SameH.thaw (h : SameH w w') {q : Addr} {u : Bool} (hc : w.frozen? q = u) : w'.frozen? q = u := (World.frozen?_of_block (by rw [h.1])).trans hc

/-- The last thing of a row that has some: where it lies. -/
theorem row_at {r : Rec} {n : Nat} (h : r.on w base) (hn : r.n = n) (h0 : n ≠ 0) : ∃ m g cap, n = m + 1 ∧ r.v = .slice (some ⟨g, 0, none⟩) (m + 1) cap ∧ base ≤ g ∧ g < w.heap.size ∧ (∀ j u, r.cs[j]? = some u → w.cell? ⟨g, j, none⟩ = some u) ∧ (∀ j, w.frozen? ⟨g, j, none⟩ = false) ∧ n ≤ 9223372036854775807 := by
  obtain ⟨g, cap, cur, e, hb, hg, _, _, hm⟩ := h.at (by omega)
  refine ⟨n - 1, g, cap, by omega, by rw [e, hn]; congr 1; omega, hb, (Array.getElem?_eq_some_iff.1 hg).1, fun j u hj => h.cell e hj, fun j => h.thaw e j, by omega⟩

/-! ### where the last function, block, instruction lie -/
theorem last_of {α : Type} {l init : List α} {x z : α} (h : l = init ++ [x]) : l.getLast?.getD z = x := by rw [h]; simp
theorem ap_ne {A B : List Rec} {r x : Rec} {k : Nat} (h : Apart w base (A ++ r :: B)) (hx : x ∈ A ++ B) (hk : x.v.ownBlock = some k) : some k ≠ r.v.ownBlock := by
  rcases (ap_front h).other hx with e | e
  · rw [hk] at e; cases e
  · rw [← hk]; exact e
/-- a cell of another row than the one that has grown. -/
theorem grew_cell {t : TypeId} {cs : List Value} {r : Rec} {v' : Value} {news : List Value} {g q : Nat} {u : Value} (G : Grew (w.alloc (.cells cs.toArray t)) w' base r v' news) (hg : g < w.heap.size) (hne : some g ≠ r.v.ownBlock) (hc : w.cell? ⟨g, q, none⟩ = some u) (hz : w.frozen? ⟨g, q, none⟩ = false) :
    w'.cell? ⟨g, q, none⟩ = some u ∧ w'.frozen? ⟨g, q, none⟩ = false ∧ g < w'.heap.size := by
  have hb : w'.heap[g]? = w.heap[g]? := (G.grow.block g (by simp; omega) hne).trans (heap_alloc_old w _ hg)
  exact ⟨(World.cell?_of_block (a := ⟨g, q, none⟩) hb).trans hc, (World.frozen?_of_block (a := ⟨g, q, none⟩) hb).trans hz, by have := G.grow.size; simp at this; omega⟩
theorem grown_cell {g q : Nat} {u : Value} (hg : w.grownBy w' (some rb)) (hne : g ≠ rb) (hc : w.cell? ⟨g, q, none⟩ = some u) (hz : w.frozen? ⟨g, q, none⟩ = false) : w'.cell? ⟨g, q, none⟩ = some u ∧ w'.frozen? ⟨g, q, none⟩ = false ∧ g < w'.heap.size := by
  have hlt := World.block_lt_of_cell? w _ hc
  have hb : w'.heap[g]? = w.heap[g]? := hg.block g hlt (by intro e; injection e with e; exact hne e)
  exact ⟨(World.cell?_of_block (a := ⟨g, q, none⟩) hb).trans hc, (World.frozen?_of_block (a := ⟨g, q, none⟩) hb).trans hz, by have := hg.size; have : g < w.heap.size := hlt; omega⟩
end Go.Proofs.YtdgmdpphimenjaaDoor.Rd5
