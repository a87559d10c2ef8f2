/-
  Package syntax: what reads a line, by its first word.
-/
import Derived.Test.YtdgmdpphimenjaaDoorLine
namespace Go.Proofs.YtdgmdpphimenjaaDoor.Rd5
open Go.RowKit Api Hold Mem Syn WordM Tree

variable {w w' w1 w2 : World} {lo hi rb base N : Nat} {rc : RC} {v : Value} {l ws : List Wd} {row : Option Nat} {a : Tree.Act} {D D2 : List Rec} {p : Prog} {L T : Rec}
/-- What stands where: where a part of a function may stand there is a function, and so on. -/
structure Fits (p : Prog) (pl : Int) : Prop where
  cls : stB pl 4 = true → p.classes ≠ []
  par : stB pl 8 = true → p.funcs ≠ []
  var : stB pl 24 = true → p.funcs ≠ []
  blk : stB pl 536 = true → p.funcs ≠ []
  fb : FitB p pl
  fi : FitI p pl
  obj : stB pl 384 = true → p.funcs ≠ [] ∧ lastB p ≠ [] ∧ (theB p).code ≠ []
  frm : stB pl 128 = true → p.funcs ≠ [] ∧ lastB p ≠ [] ∧ (theB p).code ≠ []
  phi : stB pl 32 = true → p.funcs ≠ [] ∧ lastB p ≠ []
/-- A line by its first word. -/
def dispD (p : Prog) (pl lg : Int) (x : Wd) (ws : List Wd) : Out :=
  if x = [116, 114, 97, 112] then trapD p pl lg false ws else if x = [114, 101, 116] then retD p pl lg false ws else if x = [98, 114, 97, 110, 99, 104] then branchD p pl lg false ws else if x = [106, 117, 109, 112] then jumpD p pl lg false ws else if x = [111, 98, 106] then objD p pl lg false ws else if x = [97, 116] then frmD p pl lg false ws else if x = [103, 117, 97, 114, 100] then insD p pl lg false [] x ws else if x = [111, 117, 116] then insD p pl lg false [] x ws else if x = [103, 115, 116, 111, 114, 101] then insD p pl lg false [] x ws else if x = [115, 116, 111, 114, 101] then insD p pl lg false [] x ws else if x = [112, 104, 105] then phiD p pl lg false ws else if x = [98, 108, 111, 99, 107] then blockD p pl lg ws else if x = [118, 97, 114] then varD p pl lg ws else if x = [112, 97, 114, 97, 109] then paramD p pl lg ws else if x = [102, 117, 110, 99] then funcD p pl lg ws else if x = [101, 120, 116, 101, 114, 110] then externD p pl lg ws else if x = [103, 108, 111, 98, 97, 108] then globalD p pl lg ws else if x = [102, 105, 101, 108, 100] then fieldD p pl lg ws else if x = [99, 108, 97, 115, 115] then classD p pl lg ws else if x = [115, 115, 97] then ssaD p pl lg false ws else none
theorem enters {P : Program} {f : FuncId} {fn : Func} {c : Code} (hf : P.funcs[f]? = some fn) (hname : (fn.name == "runtime.NumGoroutine") = false) (hb : fn.body = some c) (args : Array Value) (w : World) :
    (callFunc f args).run P w = .ok (.enter f args) w := by
  have h1 : fn.name ≠ "runtime.NumGoroutine" := by simpa using hname
  simp [callFunc, go_sem, hf, h1, hb]
/-- A line. -/
def lineO (p : Prog) (pl lg : Int) (x : Wd) (l : List Wd) : Out := if l.head? = some [61] then setD p pl lg false x l else dispD p pl lg x l
/-- What a line's reading leaves: a panic with its error; or the program, the place, how long. -/
def lineE (o : Out) : Except Int (Prog × Int × Int) := match o with
  | none => .error 3
  | some (p, pl, lg, ov, ws) => if ws ≠ [] then .error 3 else if ov then .error 2 else .ok (p, pl, lg)
end Go.Proofs.YtdgmdpphimenjaaDoor.Rd5
