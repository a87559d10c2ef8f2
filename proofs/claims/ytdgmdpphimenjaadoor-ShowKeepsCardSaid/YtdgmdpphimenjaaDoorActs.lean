/-
  Package syntax: ssa, act, set.
-/
import Derived.Test.YtdgmdpphimenjaaDoorInstr
namespace Go.Proofs.YtdgmdpphimenjaaDoor.Rd5
open Go.RowKit Api Hold Mem Syn WordM Tree

variable {w w' w1 w2 : World} {lo hi rb base N : Nat} {rc : RC} {v : Value} {l ws : List Wd} {row : Option Nat} {a : Tree.Act} {D D2 : List Rec} {p : Prog} {L T : Rec}
def ssaD (p : Prog) (pl lg : Int) (ov : Bool) (ws : List Wd) : Out := if stB pl 1 = false then none else some ({ p with ssa := true }, 2, lg, ov, ws)
theorem ssaD_no {pl lg : Int} {ov : Bool} (h : stB pl 1 = false) : ssaD p pl lg ov ws = none := by unfold ssaD; rw [if_pos h]
def setD (p : Prog) (pl lg : Int) (ov : Bool) (x : Wd) (ws : List Wd) : Out :=
  if nameV x = false then none else match takeWord ws with
  | none => none
  | some (_, l) => match takeWord l with
    | none => none
    | some (y, l) => insD p pl lg ov x y l
theorem setD_no {pl lg : Int} {ov : Bool} {x : Wd} (h : nameV x = false) : setD p pl lg ov x ws = none := by unfold setD; rw [if_pos h]
theorem takeWord_less {y : Wd} (h : takeWord ws = some (y, l)) : l.length + 1 = ws.length := by
  cases ws with
  | nil => cases h
  | cons x m => simp only [takeWord] at h; simp at h; simp [h.2]
theorem setD_1 {pl lg : Int} {ov : Bool} {x : Wd} (h : takeWord ws = none) : setD p pl lg ov x ws = none := by
  unfold setD
  rw [h]
  split <;> rfl
theorem setD_2 {pl lg : Int} {ov : Bool} {x y : Wd} (h : takeWord ws = some (y, l)) (h2 : takeWord l = none) : setD p pl lg ov x ws = none := by
  unfold setD
  rw [h]
  simp only
  rw [h2]
  split <;> rfl
theorem setD_3 {pl lg : Int} {ov : Bool} {x y z : Wd} {l2 : List Wd} (h0 : nameV x = true) (h : takeWord ws = some (y, l)) (h2 : takeWord l = some (z, l2)) : setD p pl lg ov x ws = insD p pl lg ov x z l2 := by
  unfold setD
  rw [if_neg (by rw [h0]; simp), h]
  simp only
  rw [h2]
theorem laid_grown {rb : Nat} (h : LaidS w) (hg : w.grownBy w' (some rb)) (hr : 1 < rb) : LaidS w' := h.of_block (hg.block _ h.lt (by intro e; injection e with e; omega))
end Go.Proofs.YtdgmdpphimenjaaDoor.Rd5
