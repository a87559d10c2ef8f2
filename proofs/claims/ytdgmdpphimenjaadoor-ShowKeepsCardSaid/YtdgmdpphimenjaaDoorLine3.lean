/-
  Package syntax: a line.
-/
import Derived.Test.YtdgmdpphimenjaaDoorLine2
import Derived.RegionTactic
import Derived.BigRegion
import Derived.ChangeAlike
namespace Go.Proofs.YtdgmdpphimenjaaDoor.Rd5
open Go.RowKit Api Hold Mem Syn WordM Tree Go.Maps

variable {w w' w1 w2 : World} {lo hi rb base N : Nat} {rc : RC} {v : Value} {l ws : List Wd} {row : Option Nat} {a : Tree.Act} {D D2 : List Rec} {p : Prog} {L T : Rec}
theorem Ws.some {y : Wd} (h : Ws lo hi w v (y :: l)) : ∃ A m cap, v = .slice A m cap ∧ (0 : Int) < (m : Int) := by
  obtain ⟨A, n, cap, b, off, e, hn, _⟩ := h
  exact ⟨A, n, cap, e, by simp at hn; omega⟩
theorem xsize {x : Wd} (h : x.length ≤ 4194304) : (⟨x.toArray⟩ : ByteArray).size ≤ maxLen := by
  have : (⟨x.toArray⟩ : ByteArray).size = x.length := by show x.toArray.size = _; simp
  unfold maxLen; omega
end Go.Proofs.YtdgmdpphimenjaaDoor.Rd5
