/-
  Programs that can be written, plainly: what is right of each part, and its lines.
-/
import Derived.Test.YtikfncgdjnljiaaDoorPars
import Derived.Test.YtikfncgdjnljiaaDoorPlainN
namespace Go.Proofs.YtikfncgdjnljiaaDoor.Rd5
open Go.RowKit Api Syn WordM

/-! ### what is right of each part -/
def ofA (a : Arg) : A := (a.kind, ⟨a.s.toArray⟩, a.n)
def argR (a : Arg) : Bool := rightV (ofA a)
def argX (a : Arg) : Bool := (a.kind != 5) && rightV (ofA a)
def varR (v : Var) : Bool := nameV v.name && kindV v.type
def allR {α : Type} (most : Nat) (f : α → Bool) (l : List α) : Bool := decide (l.length ≤ most) && l.all f
def classR (c : Class) : Bool := nameV c.name && allR 8 varR c.fields
def externR (e : Extern) : Bool := nameV e.name && (decide (0 ≤ e.n) && decide (e.n ≤ 8))
def bindR (b : Bind) : Bool := nameV b.name && argR b.a
def inR (b : Bind) : Bool := nameV b.name && argX b.a
def phiR (p : Phi) : Bool := nameV p.dst && (decide (0 < p.ins.length) && allR 256 inR p.ins)
def frameR (f : Api.Frame) : Bool := nameV f.func && (nameV f.block && ((decide (0 ≤ f.pos) && decide (f.pos ≤ 1024)) && allR 16 bindR f.vars))
def virtR (v : Virt) : Bool := nameV v.cls && allR 8 argR v.vals
def noneR (s : Wd) (must : Bool) : Bool := if must then nameV s else s == []
def stateR (i : Instr) : Bool := if i.op ≠ 31 ∧ i.op ≠ 34 then (decide (i.frames.length = 0) && decide (i.objs.length = 0)) else (allR 16 frameR i.frames && allR 99 virtR i.objs)
def instrR (i : Instr) : Bool :=
  (formV i.op).2 && (noneR i.dst (formV i.op).1.dst && (noneR i.name (formV i.op).1.named && (decide ((formV i.op).1.least ≤ (i.args.length : Int)) && ((decide ((i.args.length : Int) ≤ (formV i.op).1.most) && i.args.all argX) && stateR i))))
def argN (a : Arg) : Bool := (a.kind == 0) && ((a.s == []) && (a.n == 0))
def destsR (n : Nat) (l : List Wd) : Bool := decide (l.length = n) && l.all nameV
def finR (t : Api.Term) : Bool :=
  if t.kind = 1 then argN t.a && (destsR 1 t.dest && (t.n == 0))
  else if t.kind = 2 then argX t.a && (destsR 2 t.dest && (t.n == 0))
  else if t.kind = 3 then argX t.a && (destsR 0 t.dest && (t.n == 0))
  else if t.kind = 4 then argN t.a && destsR 0 t.dest
  else false
def blockR (b : Api.Block) : Bool := nameV b.name && (allR 1024 phiR b.phis && (allR 1024 instrR b.code && finR b.fin))
def longB (b : Api.Block) : Nat := b.phis.length + b.code.length
def longF (l : List Api.Block) : Nat := (l.map longB).sum
def funcR (f : Api.Func) : Bool :=
  nameV f.name && (kindV f.result && (allR 6 varR f.params && (allR 1024 varR f.vars && ((decide (0 < f.blocks.length) && decide (longF f.blocks ≤ 1024)) && allR 256 blockR f.blocks))))
def progR (p : Prog) : Bool := allR 8 classR p.classes && (allR 8 varR p.globals && (allR 8 externR p.externs && allR 8 funcR p.funcs))

/-! ### numbers within their type -/
def argI (a : Arg) : Prop := NumM.In a.n
def instrI (i : Instr) : Prop := (∀ a ∈ i.args, argI a) ∧ (∀ f ∈ i.frames, ∀ b ∈ f.vars, argI b.a) ∧ (∀ o ∈ i.objs, ∀ a ∈ o.vals, argI a)
def phiI (p : Phi) : Prop := ∀ b ∈ p.ins, argI b.a
def finI (t : Api.Term) : Prop := argI t.a ∧ NumM.In t.n
def blockI (b : Api.Block) : Prop := (∀ p ∈ b.phis, phiI p) ∧ (∀ i ∈ b.code, instrI i) ∧ finI b.fin
def funcI (f : Api.Func) : Prop := ∀ b ∈ f.blocks, blockI b
def progI (p : Prog) : Prop := ∀ f ∈ p.funcs, funcI f

/-! ### lines -/
def putA (a : Arg) : Wd := wput (ofA a)
def varL (k : Wd) (v : Var) : List Wd := [k, v.name, v.type]
def classLs (c : Class) : List (List Wd) := [kClass, c.name] :: c.fields.map (varL kField)
def externL (e : Extern) : List Wd := [kExtern, e.name, NumM.dec e.n]
def bindL (b : Bind) : List Wd := [b.name, putA b.a]
def phiL (p : Phi) : List Wd := kPhi :: p.dst :: p.ins.flatMap bindL
def instrW (i : Instr) : List Wd := (opWords.getD i.op.toNat []) :: ((i.args.take (aheadV i.op)).map putA ++ ((if (formV i.op).1.named then [i.name] else []) ++ (i.args.drop (aheadV i.op)).map putA))
def instrL (i : Instr) : List Wd := if i.dst = [] then instrW i else i.dst :: kEq :: instrW i
def frameL (f : Api.Frame) : List Wd := kAt :: f.func :: f.block :: NumM.dec f.pos :: f.vars.flatMap bindL
def virtL (v : Virt) : List Wd := kObj :: v.cls :: v.vals.map putA
def instrLs (i : Instr) : List (List Wd) := instrL i :: (i.frames.map frameL ++ i.objs.map virtL)
def endL (t : Api.Term) : List Wd :=
  if t.kind = 1 then kJump :: t.dest else if t.kind = 2 then kBranch :: putA t.a :: t.dest else if t.kind = 3 then [kRet, putA t.a] else [kTrap, NumM.dec t.n]
/-- a block's lines but for its end's, if it has none yet. -/
def finLs (t : Api.Term) : List (List Wd) := if t.kind = 0 then [] else [endL t]
def blockLs (b : Api.Block) : List (List Wd) := [kBlock, b.name] :: (b.phis.map phiL ++ (b.code.flatMap instrLs ++ finLs b.fin))
def funcLs (f : Api.Func) : List (List Wd) := [kFunc, f.name, f.result] :: (f.params.map (varL kParam) ++ (f.vars.map (varL kVar) ++ f.blocks.flatMap blockLs))
def progLs (p : Prog) : List (List Wd) := (if p.ssa then [[kSsa]] else []) ++ (p.classes.flatMap classLs ++ (p.globals.map (varL kGlobal) ++ (p.externs.map externL ++ p.funcs.flatMap funcLs)))

/-! ### reading lines, whatever their numbers -/
abbrev RS := Prog × Int × Int
def step (s : RS) (ws : List Wd) : Option RS := match lineE (lineO s.1 s.2.1 s.2.2 (ws.headD []) ws.tail) with | .ok s' => some s' | .error _ => none
def readW : RS → List (List Wd) → Option RS
  | s, [] => some s
  | s, ws :: l => (step s ws).bind fun s' => readW s' l
theorem readW_append (s : RS) (a b : List (List Wd)) : readW s (a ++ b) = (readW s a).bind fun s' => readW s' b := by
  induction a generalizing s with
  | nil => rfl
  | cons x a ih =>
    simp only [List.cons_append, readW]
    cases step s x with
    | none => rfl
    | some s' => exact ih s'
theorem readW_cons {s s' : RS} {ws : List Wd} (h : step s ws = some s') (l : List (List Wd)) : readW s (ws :: l) = readW s' l := by
  simp only [readW, h, Option.bind_some]
theorem readW_app {s s' : RS} {a : List (List Wd)} (h : readW s a = some s') (b : List (List Wd)) : readW s (a ++ b) = readW s' b := by
  rw [readW_append, h]; rfl
theorem readE_ok {l : List (Nat × List Wd)} : ∀ {s s' : RS}, readE s l = .ok s' ↔ readW s (l.map fun x => x.2) = some s' := by
  induction l with
  | nil => intro s s'; simp [readE, readW]
  | cons x l ih =>
    intro s s'
    obtain ⟨k, ws⟩ := x
    simp only [readE, List.map_cons, readW, step]
    cases lineE (lineO s.1 s.2.1 s.2.2 (ws.headD []) ws.tail) with
    | error e => simp
    | ok s2 => simp only [Option.bind_some]; exact ih
theorem parseE_ok {l : List (Nat × List Wd)} {p : Prog} : parseE l = .ok p ↔ ∃ pl lg, readW (⟨false, [], [], [], []⟩, 1, 0) (l.map fun x => x.2) = some (p, pl, lg) ∧ stB pl 519 = true := by
  unfold parseE
  constructor
  · intro h
    cases hr : readE (⟨false, [], [], [], []⟩, 1, 0) l with
    | error e => rw [hr] at h; cases h
    | ok s =>
      obtain ⟨q, pl, lg⟩ := s
      rw [hr] at h
      simp only at h
      split at h
      · injection h with h; subst h; exact ⟨pl, lg, readE_ok.1 hr, by assumption⟩
      · cases h
  · rintro ⟨pl, lg, h, h2⟩
    rw [readE_ok.2 h]
    simp only
    rw [if_pos h2]
end Go.Proofs.YtikfncgdjnljiaaDoor.Rd5
