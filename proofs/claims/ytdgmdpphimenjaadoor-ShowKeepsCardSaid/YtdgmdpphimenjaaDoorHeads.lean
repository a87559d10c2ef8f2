/-
  Package syntax: a line that is no part of a function: class, global, extern, func.
-/
import Derived.Test.YtdgmdpphimenjaaDoorSt
namespace Go.Proofs.YtdgmdpphimenjaaDoor.Rd5
open Go.RowKit Api Hold Mem Syn WordM Tree

variable {w w' w1 w2 : World} {lo hi rb base N : Nat} {rc : RC} {v : Value} {l ws : List Wd} {row : Option Nat} {a : Tree.Act} {D : List Rec} {p : Prog}
theorem cls_info : (Tryd.prog.info? 49).map (fun i => (i.zero, i.size, i.bytes)) = some (some (.agg #[.string ⟨#[]⟩, .slice none 0 0]), 2, 40) := by kernel_rfl
theorem var_info : (Tryd.prog.info? 82).map (fun i => (i.zero, i.size, i.bytes)) = some (some (.agg #[.string ⟨#[]⟩, .string ⟨#[]⟩]), 2, 32) := by kernel_rfl
theorem ext_info : (Tryd.prog.info? 51).map (fun i => (i.zero, i.size, i.bytes)) = some (some (.agg #[.string ⟨#[]⟩, .int .i64 0]), 2, 24) := by kernel_rfl
theorem fn_info : (Tryd.prog.info? 37).map (fun i => (i.zero, i.size, i.bytes)) = some (some (.agg #[.string ⟨#[]⟩, .string ⟨#[]⟩, .slice none 0 0, .slice none 0 0, .slice none 0 0]), 5, 104) := by kernel_rfl
theorem ones_class (x : Wd) : ∀ u ∈ [str x, .slice none 0 0], u.oneCell' = true := by
  intro u hu
  simp only [List.mem_cons, List.not_mem_nil, or_false] at hu
  rcases hu with rfl | rfl <;> rfl
theorem ones_var (x y : Wd) : ∀ u ∈ [str x, str y], u.oneCell' = true := by
  intro u hu
  simp only [List.mem_cons, List.not_mem_nil, or_false] at hu
  rcases hu with rfl | rfl <;> rfl
theorem ones_ext (x : Wd) (n : Int) : ∀ u ∈ [str x, i64 n], u.oneCell' = true := by
  intro u hu
  simp only [List.mem_cons, List.not_mem_nil, or_false] at hu
  rcases hu with rfl | rfl <;> rfl
theorem ones_fn (x y : Wd) : ∀ u ∈ [str x, str y, .slice none 0 0, .slice none 0 0, .slice none 0 0], u.oneCell' = true := by
  intro u hu
  simp only [List.mem_cons, List.not_mem_nil, or_false] at hu
  rcases hu with rfl | rfl | rfl | rfl | rfl <;> rfl

/-- class. -/
def classD (p : Prog) (pl lg : Int) (ws : List Wd) : Out :=
  if stB pl 519 = false then none else match takeName ws with
  | none => none
  | some (x, l) => some ({ p with classes := p.classes ++ [⟨x, []⟩] }, 4, lg, decide ((8 : Int) < ((p.classes.length + 1 : Nat) : Int)), l)
theorem classD_none {pl lg : Int} (h : takeName ws = none) : classD p pl lg ws = none := by
  unfold classD
  rw [h]
  split <;> rfl
theorem classD_no {pl lg : Int} (h : stB pl 519 = false) : classD p pl lg ws = none := by unfold classD; rw [if_pos h]
/-- global. -/
def globalD (p : Prog) (pl lg : Int) (ws : List Wd) : Out :=
  if stB pl 519 = false then none else match takeVar ws with
  | none => none
  | some (y, l) => some ({ p with globals := p.globals ++ [y] }, 2, lg, decide ((8 : Int) < ((p.globals.length + 1 : Nat) : Int)), l)
theorem globalD_none {pl lg : Int} (h : takeVar ws = none) : globalD p pl lg ws = none := by
  unfold globalD
  rw [h]
  split <;> rfl
theorem globalD_no {pl lg : Int} (h : stB pl 519 = false) : globalD p pl lg ws = none := by unfold globalD; rw [if_pos h]
/-- extern. -/
def externD (p : Prog) (pl lg : Int) (ws : List Wd) : Out :=
  if stB pl 519 = false then none else match takeName ws with
  | none => none
  | some (x, l) => match takeCount 8 l with
    | none => none
    | some (n, l) => some ({ p with externs := p.externs ++ [⟨x, n⟩] }, 2, lg, decide ((8 : Int) < ((p.externs.length + 1 : Nat) : Int)), l)
theorem externD_none {pl lg : Int} (h : takeName ws = none) : externD p pl lg ws = none := by
  unfold externD
  rw [h]
  split <;> rfl
theorem externD_none2 {pl lg : Int} {x : Wd} (h : takeName ws = some (x, l)) (h2 : takeCount 8 l = none) : externD p pl lg ws = none := by
  unfold externD
  rw [h]
  simp only
  rw [h2]
  split <;> rfl
theorem externD_no {pl lg : Int} (h : stB pl 519 = false) : externD p pl lg ws = none := by unfold externD; rw [if_pos h]
/-- function. -/
def funcD (p : Prog) (pl _ : Int) (ws : List Wd) : Out :=
  if stB pl 519 = false then none else match takeName ws with
  | none => none
  | some (x, l) => match takeKind l with
    | none => none
    | some (z, l) => some ({ p with funcs := p.funcs ++ [⟨x, z, [], [], []⟩] }, 8, 0, decide ((8 : Int) < ((p.funcs.length + 1 : Nat) : Int)), l)
theorem funcD_none {pl lg : Int} (h : takeName ws = none) : funcD p pl lg ws = none := by
  unfold funcD
  rw [h]
  split <;> rfl
theorem funcD_none2 {pl lg : Int} {x : Wd} (h : takeName ws = some (x, l)) (h2 : takeKind l = none) : funcD p pl lg ws = none := by
  unfold funcD
  rw [h]
  simp only
  rw [h2]
  split <;> rfl
theorem funcD_no {pl lg : Int} (h : stB pl 519 = false) : funcD p pl lg ws = none := by unfold funcD; rw [if_pos h]
end Go.Proofs.YtdgmdpphimenjaaDoor.Rd5
