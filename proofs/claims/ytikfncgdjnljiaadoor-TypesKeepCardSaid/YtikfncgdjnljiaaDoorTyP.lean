/-
  Package types, as plain functions.
-/
import Derived.Test.YtikfncgdjnljiaaDoorPlainS
namespace Go.Proofs.YtikfncgdjnljiaaDoor.Ty7
open Go.RowKit Api Syn WordM

def intW : Wd := [105, 110, 116]
def floatW : Wd := [102, 108, 111, 97, 116]
def nullW : Wd := [110, 117, 108, 108]
def numT (t : Wd) : Bool := (t == intW) || (t == floatW)
def fitsT (a b : Wd) : Bool := (a == b) || ((a == nullW) && !(numT b))
def varIn (l : List Var) (s : Wd) : Option Var := l.find? fun x => x.name == s
def classIn (l : List Class) (s : Wd) : Option Class := l.find? fun x => x.name == s
def extIn (l : List Extern) (s : Wd) : Option Extern := l.find? fun x => x.name == s
def funcIn (l : List Api.Func) (s : Wd) : Option Api.Func := l.find? fun x => x.name == s
def varOf (f : Api.Func) (s : Wd) : Option Var := (varIn f.params s).or (varIn f.vars s)
def fieldIn (p : Prog) (c s : Wd) : Option Var := (classIn p.classes c).bind fun c => varIn c.fields s
/-- An argument's type. -/
def typeA (f : Api.Func) (a : Arg) : Option Wd :=
  if a.kind = 1 then (varOf f a.s).map fun v => v.type else if a.kind = 2 then some intW else if a.kind = 3 then some floatW else if a.kind = 4 then some nullW else none
def typesA (f : Api.Func) : List Arg → Option (List Wd)
  | [] => some []
  | a :: l => match typeA f a with | none => none | some t => (typesA f l).map fun r => t :: r
def allFitT (ts : List Wd) (vs : List Var) : Bool := decide (ts.length = vs.length) && (ts.zip vs).all fun x => fitsT x.1 x.2.type
def allAreT (ts : List Wd) (t : Wd) : Bool := ts.all fun x => x == t
def sameT (a b : Wd) : Bool := !(numT a) && (!(numT b) && ((a == b) || ((a == nullW) || (b == nullW))))
def ofNums (op : Int) : Wd × Wd := if op ≤ 14 then (intW, intW) else if op ≤ 18 then (floatW, floatW) else if op = 22 then (intW, floatW) else (floatW, intW)
/-- What the argument types ts, and dst of its Dst, make of an instruction. -/
def suitsT (p : Prog) (x : Instr) (ts : List Wd) (dst : Wd) : Bool :=
  if x.op = 24 then fitsT (ts.getD 0 []) dst
  else if x.op = 25 then (match classIn p.classes x.name with | some c => (c.name == dst) && (decide (ts.length = 0) || allFitT ts c.fields) | none => false)
  else if x.op = 26 then (match fieldIn p (ts.getD 0 []) x.name with | some v => decide ((x.args.getD 0 ⟨0, [], 0⟩).kind = 1) && (v.type == dst) | none => false)
  else if x.op = 27 then (match fieldIn p (ts.getD 0 []) x.name with | some v => decide ((x.args.getD 0 ⟨0, [], 0⟩).kind = 1) && fitsT (ts.getD 1 []) v.type | none => false)
  else if x.op = 28 then sameT (ts.getD 0 []) (ts.getD 1 []) && (dst == intW)
  else if x.op = 29 then (match varIn p.globals x.name with | some v => v.type == dst | none => false)
  else if x.op = 30 then (match varIn p.globals x.name with | some v => fitsT (ts.getD 0 []) v.type | none => false)
  else if x.op = 31 then (match funcIn p.funcs x.name with | some f => allFitT ts f.params && (f.result == dst) | none => false)
  else if x.op = 32 then (match extIn p.externs x.name with | some e => decide ((ts.length : Int) = e.n) && (allAreT ts intW && (dst == intW)) | none => false)
  else if x.op = 33 then numT (ts.getD 0 [])
  else if x.op = 34 then true
  else allAreT ts (ofNums x.op).1 && (dst == (ofNums x.op).2)
/-- Has the instruction x its types? -/
def instrT (p : Prog) (f : Api.Func) (x : Instr) : Bool :=
  (formV x.op).2 && (decide ((formV x.op).1.least ≤ (x.args.length : Int)) && (decide ((x.args.length : Int) ≤ (formV x.op).1.most) && (!((formV x.op).1.dst && (varOf f x.dst).isNone) &&
    match typesA f x.args with | some ts => suitsT p x ts (((varOf f x.dst).map fun v => v.type).getD []) | none => false)))
def endT (f : Api.Func) (t : Api.Term) : Bool :=
  if t.kind = 1 then true else if t.kind = 2 then typeA f t.a == some intW else if t.kind = 3 then (match typeA f t.a with | some a => fitsT a f.result | none => false) else if t.kind = 4 then decide (10 ≤ t.n) else false
def unlikeT (l : List Wd) : Bool := decide l.Nodup
def isT (cs : List Wd) (t : Wd) : Bool := cs.contains t || numT t
def declT (cs : List Wd) (l : List Var) : Bool := (l.all fun v => isT cs v.type) && unlikeT (l.map fun v => v.name)
/-- Are heads right? -/
def headsT (p : Prog) : Bool :=
  unlikeT (p.classes.map fun x => x.name) && (unlikeT (p.externs.map fun x => x.name) && (unlikeT (p.funcs.map fun x => x.name) &&
    ((p.classes.all fun c => declT (p.classes.map fun x => x.name) c.fields) && ((p.funcs.all fun f => isT (p.classes.map fun x => x.name) f.result && declT (p.classes.map fun x => x.name) (f.params ++ f.vars)) && declT (p.classes.map fun x => x.name) p.globals))))
end Go.Proofs.YtikfncgdjnljiaaDoor.Ty7
