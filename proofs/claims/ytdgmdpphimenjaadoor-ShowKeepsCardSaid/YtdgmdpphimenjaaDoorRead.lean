/-
  Package syntax: the lines, one behind the other.
-/
import Derived.Test.YtdgmdpphimenjaaDoorGood
import Derived.Test.YtdgmdpphimenjaaDoorCatch
namespace Go.Proofs.YtdgmdpphimenjaaDoor.Rd5
open Go.RowKit Api Hold Mem Syn WordM Tree Go.Maps

variable {w w' w1 w2 : World} {lo hi rb base N : Nat} {rc : RC} {v : Value} {l ws : List Wd} {row : Option Nat} {a : Tree.Act} {D D2 : List Rec} {p : Prog} {L T : Rec}
def act0 : Tree.Act := ⟨.empty 49 2, .empty 82 2, .empty 82 2, .empty 51 2, .empty 37 5, .empty 82 2, .empty 82 2, .empty 60 9, .empty 63 2, .empty 72 6, .empty 109 4, .empty 113 2⟩
def prog0 : Prog := ⟨false, [], [], [], []⟩
theorem build0 (w : World) (base : Nat) : Build w base act0 [] prog0 0 := by
  have h0 : Apart w base [] := ⟨fun _ h => absurd h (List.not_mem_nil), by simp⟩
  refine ⟨?_, Shape.start, fun r hr => ?_⟩
  · show Apart w base (act0.l ++ [])
    rw [List.append_nil]
    exact ((((((((((((h0.empty _ _).empty _ _).empty _ _).empty _ _).empty _ _).empty _ _).empty _ _).empty _ _).empty _ _).empty _ _).empty _ _).empty _ _)
  · simp only [act0, Tree.Act.l, List.mem_cons, List.not_mem_nil, or_false] at hr
    rcases hr with rfl | rfl | rfl | rfl | rfl | rfl | rfl | rfl | rfl | rfl | rfl | rfl <;> exact Nat.le_refl 0
/-- The reader ahead of the first line. -/
def rc0 : RC := ⟨.bool false, .slice none 0 0, .slice none 0 0, .slice none 0 0, .slice none 0 0, 1, 0, .string ⟨#[]⟩, .slice none 0 0, false⟩
/-- A row of lines: each has words. -/
def LinsR (lo hi : Nat) (w : World) (b off : Nat) (l : List (Nat × List Wd)) : Prop :=
  ∀ i x, l[i]? = some x → ∃ lv, lo ≤ b ∧ b < hi ∧ w.cell? ⟨b, off + i * 2, none⟩ = some (i64 (x.1 : Int)) ∧ w.cell? ⟨b, off + i * 2 + 1, none⟩ = some lv ∧ lv.oneCell' = true ∧ Ws lo hi w lv x.2 ∧ x.2 ≠ [] ∧ x.2.length ≤ 4194304
theorem LinsR.move {l : List (Nat × List Wd)} {b off : Nat} (h : LinsR lo hi w b off l) (hk : ∀ k, lo ≤ k → k < hi → w'.heap[k]? = w.heap[k]?) : LinsR lo hi w' b off l := by
  intro i x hx
  obtain ⟨lv, h1, h2, h3, h4, h5, h6, h7, h8⟩ := h i x hx
  exact ⟨lv, h1, h2, (World.cell?_of_block (w := w) (hk b h1 h2)).trans h3, (World.cell?_of_block (w := w) (hk b h1 h2)).trans h4, h5, h6.move hk, h7, h8⟩
theorem readE_err {s : Prog × Int × Int} {l1 l2 : List (Nat × List Wd)} {x : Nat × Int} (h : readE s l1 = .error x) : readE s (l1 ++ l2) = .error x := by
  induction l1 generalizing s with
  | nil => cases h
  | cons y l ih =>
    obtain ⟨k, ws⟩ := y
    simp only [List.cons_append, readE] at h ⊢
    cases hE : lineE (lineO s.1 s.2.1 s.2.2 (ws.headD []) ws.tail) with
    | error e => rw [hE] at h; exact h
    | ok s' => rw [hE] at h; exact ih h
theorem beside_down {B : Nat} (h : Below B w w1) (h2 : Beside base rb w1 w2) (hB : B ≤ base) : Beside B rb w w2 :=
  ⟨h2.os.trans h.os, h2.tape.trans h.tape, h2.output.trans h.output, Nat.le_trans h.size h2.size, fun k hk hn => (h2.block k (by omega) hn).trans (h.block k hk)⟩
end Go.Proofs.YtdgmdpphimenjaaDoor.Rd5
