/-
  Package syntax: lines that grow a row of the last class, or of the last function: field, param, variable, block.
-/
import Derived.Test.YtdgmdpphimenjaaDoorHeads
import Derived.Test.YtdgmdpphimenjaaDoorLast
namespace Go.Proofs.YtdgmdpphimenjaaDoor.Rd5
open Go.RowKit Api Hold Mem Syn WordM Tree

variable {w w' w1 w2 : World} {lo hi rb base N : Nat} {rc : RC} {v : Value} {l ws : List Wd} {row : Option Nat} {a : Tree.Act} {D : List Rec} {p : Prog}
theorem blk_info : (Tryd.prog.info? 60).map (fun i => (i.zero, i.size, i.bytes)) = some (some (.agg #[.string ⟨#[]⟩, .slice none 0 0, .slice none 0 0, .int .i64 0, .int .i64 0, .string ⟨#[]⟩, .int .i64 0, .slice none 0 0, .int .i64 0]), 9, 136) := by kernel_rfl
theorem ones_blk (x : Wd) : ∀ u ∈ (str x :: .slice none 0 0 :: .slice none 0 0 :: nilTerm), u.oneCell' = true := by
  intro u hu
  simp only [nilTerm, List.mem_cons, List.not_mem_nil, or_false] at hu
  rcases hu with rfl | rfl | rfl | rfl | rfl | rfl | rfl | rfl | rfl <;> rfl
/-- field. -/
def fieldD (p : Prog) (pl lg : Int) (ws : List Wd) : Out :=
  if stB pl 4 = false then none else match takeVar ws with
  | none => none
  | some (y, l) => some ({ p with classes := Syn.last (fun c => { c with fields := c.fields ++ [y] }) p.classes }, pl, lg, decide ((8 : Int) < (((p.classes.getLast?.getD ⟨[], []⟩).fields.length + 1 : Nat) : Int)), l)
theorem fieldD_none {pl lg : Int} (h : takeVar ws = none) : fieldD p pl lg ws = none := by
  unfold fieldD
  rw [h]
  split <;> rfl
theorem fieldD_no {pl lg : Int} (h : stB pl 4 = false) : fieldD p pl lg ws = none := by unfold fieldD; rw [if_pos h]
/-- param. -/
def paramD (p : Prog) (pl lg : Int) (ws : List Wd) : Out :=
  if stB pl 8 = false then none else match takeVar ws with
  | none => none
  | some (y, l) => some ({ p with funcs := Syn.last (fun f => { f with params := f.params ++ [y] }) p.funcs }, pl, lg, decide ((6 : Int) < (((p.funcs.getLast?.getD funcZ).params.length + 1 : Nat) : Int)), l)
theorem paramD_none {pl lg : Int} (h : takeVar ws = none) : paramD p pl lg ws = none := by
  unfold paramD
  rw [h]
  split <;> rfl
theorem paramD_no {pl lg : Int} (h : stB pl 8 = false) : paramD p pl lg ws = none := by unfold paramD; rw [if_pos h]
/-- variable. -/
def varD (p : Prog) (pl lg : Int) (ws : List Wd) : Out :=
  if stB pl 24 = false then none else match takeVar ws with
  | none => none
  | some (y, l) => some ({ p with funcs := Syn.last (fun f => { f with vars := f.vars ++ [y] }) p.funcs }, 16, lg, decide ((1024 : Int) < (((p.funcs.getLast?.getD funcZ).vars.length + 1 : Nat) : Int)), l)
theorem varD_none {pl lg : Int} (h : takeVar ws = none) : varD p pl lg ws = none := by
  unfold varD
  rw [h]
  split <;> rfl
theorem varD_no {pl lg : Int} (h : stB pl 24 = false) : varD p pl lg ws = none := by unfold varD; rw [if_pos h]
/-- block. -/
def blockD (p : Prog) (pl lg : Int) (ws : List Wd) : Out :=
  if stB pl 536 = false then none else match takeName ws with
  | none => none
  | some (x, l) => some ({ p with funcs := Syn.last (fun f => { f with blocks := f.blocks ++ [⟨x, [], [], termZ⟩] }) p.funcs }, 32, lg, decide ((256 : Int) < (((p.funcs.getLast?.getD funcZ).blocks.length + 1 : Nat) : Int)), l)
theorem blockD_none {pl lg : Int} (h : takeName ws = none) : blockD p pl lg ws = none := by
  unfold blockD
  rw [h]
  split <;> rfl
theorem blockD_no {pl lg : Int} (h : stB pl 536 = false) : blockD p pl lg ws = none := by unfold blockD; rw [if_pos h]
end Go.Proofs.YtdgmdpphimenjaaDoor.Rd5
