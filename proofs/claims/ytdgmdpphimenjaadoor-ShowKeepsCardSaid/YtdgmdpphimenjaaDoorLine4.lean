/-
  Package syntax: a line, whatever its words.
-/
import Derived.Test.YtdgmdpphimenjaaDoorLine3
namespace Go.Proofs.YtdgmdpphimenjaaDoor.Rd5
open Go.RowKit Api Hold Mem Syn WordM Tree Go.Maps

variable {w w' w1 w2 : World} {lo hi rb base N : Nat} {rc : RC} {v : Value} {l ws : List Wd} {row : Option Nat} {a : Tree.Act} {D D2 : List Rec} {p : Prog} {L T : Rec}
/-- Lines, one behind the other: the state; or the line's number and the error. -/
def readE : Prog × Int × Int → List (Nat × List Wd) → Except (Nat × Int) (Prog × Int × Int)
  | s, [] => .ok s
  | s, (k, ws) :: l => match lineE (lineO s.1 s.2.1 s.2.2 (ws.headD []) ws.tail) with
    | .error e => .error (k, e)
    | .ok s' => readE s' l
/-- A text's lines: the program; or a line's number and the error. -/
def parseE (l : List (Nat × List Wd)) : Except (Nat × Int) Prog := match readE (⟨false, [], [], [], []⟩, 1, 0) l with
  | .error e => .error e
  | .ok (p, pl, _) => if stB pl 519 = true then .ok p else .error (0, 3)
theorem readE_snoc (s : Prog × Int × Int) (l : List (Nat × List Wd)) (x : Nat × List Wd) : readE s (l ++ [x]) = match readE s l with
    | .error e => .error e
    | .ok s' => readE s' [x] := by
  induction l generalizing s with
  | nil => rfl
  | cons y l ih =>
    obtain ⟨k, ws⟩ := y
    simp only [List.cons_append, readE]
    cases lineE (lineO s.1 s.2.1 s.2.2 (ws.headD []) ws.tail) with
    | error e => rfl
    | ok s' => exact ih s'
end Go.Proofs.YtdgmdpphimenjaaDoor.Rd5
