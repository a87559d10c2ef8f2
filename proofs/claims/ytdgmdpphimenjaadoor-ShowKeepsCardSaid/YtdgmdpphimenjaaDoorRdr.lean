/-
  Package syntax: what takes one word of a line: next, name, kind, declared, number, count, value, argument, in; and stands, limit, refuse.
-/
import Derived.Test.YtdgmdpphimenjaaDoorKeep
import Derived.Test.YtdgmdpphimenjaaDoorCallsW
import Derived.Test.YtdgmdpphimenjaaDoorCallsN
import Derived.WalkLawsBesides
import Derived.Lib.Hide
namespace Go.Proofs.YtdgmdpphimenjaaDoor.Rd5
open Go.RowKit Api Hold Mem Syn WordM

abbrev chain (k : Int) : List PanicEntry := [{ v := .iface 31 (.int .i64 k), recovered := false }]
/-- The reader's cells. -/
structure RC where
  ssa : Value
  c : Value
  g : Value
  e : Value
  u : Value
  place : Int
  long : Int
  first : Value
  rest : Value
  over : Bool
def RC.l (rc : RC) : List Value := [rc.ssa, rc.c, rc.g, rc.e, rc.u, i64 rc.place, i64 rc.long, rc.first, rc.rest, .bool rc.over]
/-- v is a row of words. -/
def Ws (lo hi : Nat) (w : World) (v : Value) (l : List Wd) : Prop :=
  ∃ A n cap b off, v = .slice A n cap ∧ n = l.length ∧ n ≤ cap ∧ cap ≤ 9223372036854775807 ∧ (0 < n → A = some ⟨b, off, none⟩ ∧ lo ≤ b ∧ b < hi) ∧ (∀ i x, l[i]? = some x → w.cell? ⟨b, off + i, none⟩ = some (str x)) ∧ ∀ x ∈ l, x.length ≤ 4194304
variable {w w' w1 : World} {lo hi rb base : Nat} {rc : RC} {v : Value} {l ws : List Wd}
theorem Ws.move (h : Ws lo hi w v l) (hk : ∀ k, lo ≤ k → k < hi → w'.heap[k]? = w.heap[k]?) : Ws lo hi w' v l := by
  obtain ⟨A, n, cap, b, off, e, hn, hc, hm, ha, hw, hs⟩ := h
  refine ⟨A, n, cap, b, off, e, hn, hc, hm, ha, fun i x hx => ?_, hs⟩
  have hi := (List.getElem?_eq_some_iff.1 hx).1
  obtain ⟨_, h1, h2⟩ := ha (by omega)
  exact (World.cell?_of_block (w := w) (hk b h1 h2)).trans (hw i x hx)
theorem Ws.grown {row : Option Nat} (h : Ws lo hi w v l) (hg : w.grownBy w' row) (hr : ∀ k, row = some k → hi ≤ k) (hh : hi ≤ w.heap.size) : Ws lo hi w' v l :=
  h.move fun k _ hk => hg.block k (by omega) (fun e => by have := hr k e.symm; omega)
theorem grown_trans {row : Option Nat} (h : w.grownBy w1 row) (h2 : w1.grownBy w' row) : w.grownBy w' row := h.trans h2
theorem grown_below {B : Nat} {row : Option Nat} (hB : w.heap.size ≤ B) (h : Below B w w') : w.grownBy w' row := ⟨h.os, h.tape, h.output, h.size, fun k hk _ => h.block k (by omega)⟩

/-- The words as the walk meets them: none; or one, and the others. -/
theorem Ws.none (h : Ws lo hi w v []) : ∃ A cap, v = .slice A 0 cap := by
  obtain ⟨A, n, cap, b, off, e, rfl, _⟩ := h
  exact ⟨A, cap, e⟩
def takeWord : List Wd → Option (Wd × List Wd) | [] => none | x :: l => some (x, l)

end Go.Proofs.YtdgmdpphimenjaaDoor.Rd5
