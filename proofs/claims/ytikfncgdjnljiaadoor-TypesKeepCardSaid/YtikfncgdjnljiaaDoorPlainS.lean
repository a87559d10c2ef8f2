/-
  Programs as plain data (the types of package api), and how they lie in memory: what is read. No program is named here.
  Layer 5's plain facts: forms, words as arguments, names, types' words. No program is named here.
  Layer 5's plain facts: the document's parser of lines, as a step of a state. No program is named here.
-/
import Derived.WalkKit
import Derived.Below
import Derived.Test.YtikfncgdjnljiaaDoorPlainN
namespace Go.Proofs.YtikfncgdjnljiaaDoor.Api
open Go.RowKit

abbrev Wd := List UInt8
structure Arg where
  kind : Int
  s : Wd
  n : Int
structure Var where
  name : Wd
  type : Wd
structure Class where
  name : Wd
  fields : List Var
structure Extern where
  name : Wd
  n : Int
structure Bind where
  name : Wd
  a : Arg
structure Frame where
  func : Wd
  block : Wd
  pos : Int
  vars : List Bind
structure Virt where
  cls : Wd
  vals : List Arg
structure Instr where
  op : Int
  dst : Wd
  name : Wd
  args : List Arg
  frames : List Frame
  objs : List Virt
structure Phi where
  dst : Wd
  ins : List Bind
structure Term where
  kind : Int
  a : Arg
  dest : List Wd
  n : Int
structure Block where
  name : Wd
  phis : List Phi
  code : List Instr
  fin : Term
structure Func where
  name : Wd
  result : Wd
  params : List Var
  vars : List Var
  blocks : List Block
structure Prog where
  ssa : Bool
  classes : List Class
  globals : List Var
  externs : List Extern
  funcs : List Func

/-- a text in a cell. -/
abbrev str (x : Wd) : Value := .string ⟨x.toArray⟩
abbrev i64 (n : Int) : Value := .int .i64 n

/-- v is a row of things, of so many cells each, in blocks from lo on and below hi: of each its cells say what it is. -/
def Row {α : Type} (lo hi : Nat) (w : World) (size : Nat) (P : List Value → α → Prop) (v : Value) (xs : List α) : Prop :=
  ∃ A n cap b off, v = .slice A n cap ∧ n = xs.length ∧ (n ≤ 4611686018427387903 ∧ n ≤ cap) ∧ (0 < n → A = some ⟨b, off, none⟩ ∧ lo ≤ b ∧ b < hi) ∧
    ∀ i x, xs[i]? = some x → ∃ cs, cs.length = size ∧ (∀ j u, cs[j]? = some u → w.cell? ⟨b, off + i * size + j, none⟩ = some u) ∧ P cs x

def argC (x : Arg) : List Value := [i64 x.kind, str x.s, i64 x.n]
def varC (x : Var) : List Value := [str x.name, str x.type]
def externC (x : Extern) : List Value := [str x.name, i64 x.n]
def bindC (x : Bind) : List Value := str x.name :: argC x.a
section
variable (lo hi : Nat) (w : World)
def Args (v : Value) (l : List Arg) : Prop := Row lo hi w 3 (fun cs x => cs = argC x) v l
def Vars (v : Value) (l : List Var) : Prop := Row lo hi w 2 (fun cs x => cs = varC x) v l
def Externs (v : Value) (l : List Extern) : Prop := Row lo hi w 2 (fun cs x => cs = externC x) v l
def Binds (v : Value) (l : List Bind) : Prop := Row lo hi w 4 (fun cs x => cs = bindC x) v l
def Texts (v : Value) (l : List Wd) : Prop := Row lo hi w 1 (fun cs x => cs = [str x]) v l
def ClassC (cs : List Value) (x : Class) : Prop := ∃ u, cs = [str x.name, u] ∧ Vars lo hi w u x.fields
def Classes (v : Value) (l : List Class) : Prop := Row lo hi w 2 (ClassC lo hi w) v l
def FrameC (cs : List Value) (x : Frame) : Prop := ∃ u, cs = [str x.func, str x.block, i64 x.pos, u] ∧ Binds lo hi w u x.vars
def Frames (v : Value) (l : List Frame) : Prop := Row lo hi w 4 (FrameC lo hi w) v l
def VirtC (cs : List Value) (x : Virt) : Prop := ∃ u, cs = [str x.cls, u] ∧ Args lo hi w u x.vals
def Virts (v : Value) (l : List Virt) : Prop := Row lo hi w 2 (VirtC lo hi w) v l
def InstrC (cs : List Value) (x : Instr) : Prop := ∃ u1 u2 u3, cs = [i64 x.op, str x.dst, str x.name, u1, u2, u3] ∧ Args lo hi w u1 x.args ∧ Frames lo hi w u2 x.frames ∧ Virts lo hi w u3 x.objs
def Instrs (v : Value) (l : List Instr) : Prop := Row lo hi w 6 (InstrC lo hi w) v l
def PhiC (cs : List Value) (x : Phi) : Prop := ∃ u, cs = [str x.dst, u] ∧ Binds lo hi w u x.ins
def Phis (v : Value) (l : List Phi) : Prop := Row lo hi w 2 (PhiC lo hi w) v l
def TermC (cs : List Value) (x : Term) : Prop := ∃ u, cs = [i64 x.kind, i64 x.a.kind, str x.a.s, i64 x.a.n, u, i64 x.n] ∧ Texts lo hi w u x.dest
def BlockC (cs : List Value) (x : Block) : Prop := ∃ u1 u2 cs2, cs = str x.name :: u1 :: u2 :: cs2 ∧ Phis lo hi w u1 x.phis ∧ Instrs lo hi w u2 x.code ∧ TermC lo hi w cs2 x.fin
def Blocks (v : Value) (l : List Block) : Prop := Row lo hi w 9 (BlockC lo hi w) v l
def FuncC (cs : List Value) (x : Func) : Prop := ∃ u1 u2 u3, cs = [str x.name, str x.result, u1, u2, u3] ∧ Vars lo hi w u1 x.params ∧ Vars lo hi w u2 x.vars ∧ Blocks lo hi w u3 x.blocks
def Funcs (v : Value) (l : List Func) : Prop := Row lo hi w 5 (FuncC lo hi w) v l
/-- The cells of a program. -/
def ProgC (cs : List Value) (x : Prog) : Prop := ∃ u1 u2 u3 u4, cs = [.bool x.ssa, u1, u2, u3, u4] ∧ Classes lo hi w u1 x.classes ∧ Vars lo hi w u2 x.globals ∧ Externs lo hi w u3 x.externs ∧ Funcs lo hi w u4 x.funcs
end

variable {α : Type} {w w' : World} {lo hi lo' hi' size : Nat} {P P' : List Value → α → Prop} {v : Value} {xs : List α}
/-- The same blocks, and what cells say stays: the same row. -/
theorem Row.move (h : Row lo hi w size P v xs) (hk : ∀ k, lo ≤ k → k < hi → w'.heap[k]? = w.heap[k]?) (hl : lo' ≤ lo) (hh : hi ≤ hi') (hp : ∀ cs x, P cs x → P' cs x) : Row lo' hi' w' size P' v xs := by
  obtain ⟨A, n, cap, b, off, e, hn, hm, ha, hc⟩ := h
  refine ⟨A, n, cap, b, off, e, hn, hm, fun h0 => ⟨(ha h0).1, by have := (ha h0).2; omega, by have := (ha h0).2; omega⟩, fun i x hx => ?_⟩
  have hi : i < xs.length := (List.getElem?_eq_some_iff.1 hx).1
  obtain ⟨_, h1, h2⟩ := ha (by omega)
  obtain ⟨cs, c1, c2, c3⟩ := hc i x hx
  exact ⟨cs, c1, fun j u hj => (World.cell?_of_block (w := w) (hk b h1 h2)).trans (c2 j u hj), hp cs x c3⟩
theorem Row.form (h : Row lo hi w size P v xs) : ∃ A cap, v = .slice A xs.length cap := by
  obtain ⟨A, n, cap, b, off, rfl, rfl, _⟩ := h
  exact ⟨A, cap, rfl⟩
/-- a row by its places. -/
theorem Row.get {A : Option Addr} {n cap : Nat} (h : Row lo hi w size P (.slice A n cap) xs) : ∃ b off, n = xs.length ∧ n ≤ 4611686018427387903 ∧ (0 < n → A = some ⟨b, off, none⟩ ∧ lo ≤ b ∧ b < hi) ∧
    ∀ i x, xs[i]? = some x → ∃ cs, cs.length = size ∧ (∀ j u, cs[j]? = some u → w.cell? ⟨b, off + i * size + j, none⟩ = some u) ∧ P cs x := by
  obtain ⟨A', n', cap', b, off, e, hn, hm, r⟩ := h
  cases e
  exact ⟨b, off, hn, hm.1, r⟩
/-- a row's length is at most its capacity. -/
theorem Row.cap {A : Option Addr} {n cap : Nat} (h : Row lo hi w size P (.slice A n cap) xs) : n ≤ cap := by
  obtain ⟨A', n', cap', b, off, e, hn, hm, r⟩ := h
  cases e
  exact hm.2
/-- the cells of one thing, in whatever later world they stand still. -/
theorem cells_later {b k : Nat} {cs : List Value} (h : ∀ j u, cs[j]? = some u → w.cell? ⟨b, k + j, none⟩ = some u) {B : Nat} (hb : Below B w w') (hB : b < B) : ∀ j u, cs[j]? = some u → w'.cell? ⟨b, k + j, none⟩ = some u :=
  fun j u hj => (hb.cell (p := ⟨b, k + j, none⟩) hB).trans (h j u hj)

section
variable {lo hi lo' hi' : Nat} {w w' : World}
/-- What lies in [lo, hi) of w lies in [lo', hi') of w'. -/
structure Still (lo hi lo' hi' : Nat) (w w' : World) : Prop where
  keep : ∀ k, lo ≤ k → k < hi → w'.heap[k]? = w.heap[k]?
  low : lo' ≤ lo
  high : hi ≤ hi'
variable (s : Still lo hi lo' hi' w w')
include s
theorem Args.move {v : Value} {l : List Arg} (h : Args lo hi w v l) : Args lo' hi' w' v l := Row.move h s.keep s.low s.high fun _ _ h => h
theorem Vars.move {v : Value} {l : List Var} (h : Vars lo hi w v l) : Vars lo' hi' w' v l := Row.move h s.keep s.low s.high fun _ _ h => h
theorem Externs.move {v : Value} {l : List Extern} (h : Externs lo hi w v l) : Externs lo' hi' w' v l := Row.move h s.keep s.low s.high fun _ _ h => h
theorem Binds.move {v : Value} {l : List Bind} (h : Binds lo hi w v l) : Binds lo' hi' w' v l := Row.move h s.keep s.low s.high fun _ _ h => h
theorem Texts.move {v : Value} {l : List Wd} (h : Texts lo hi w v l) : Texts lo' hi' w' v l := Row.move h s.keep s.low s.high fun _ _ h => h
theorem ClassC.move {cs : List Value} {x : Class} (h : ClassC lo hi w cs x) : ClassC lo' hi' w' cs x := by
  obtain ⟨u, e, h⟩ := h; exact ⟨u, e, Vars.move s h⟩
theorem Classes.move {v : Value} {l : List Class} (h : Classes lo hi w v l) : Classes lo' hi' w' v l := Row.move h s.keep s.low s.high fun _ _ h => ClassC.move s h
theorem FrameC.move {cs : List Value} {x : Frame} (h : FrameC lo hi w cs x) : FrameC lo' hi' w' cs x := by
  obtain ⟨u, e, h⟩ := h; exact ⟨u, e, Binds.move s h⟩
theorem Frames.move {v : Value} {l : List Frame} (h : Frames lo hi w v l) : Frames lo' hi' w' v l := Row.move h s.keep s.low s.high fun _ _ h => FrameC.move s h
theorem VirtC.move {cs : List Value} {x : Virt} (h : VirtC lo hi w cs x) : VirtC lo' hi' w' cs x := by
  obtain ⟨u, e, h⟩ := h; exact ⟨u, e, Args.move s h⟩
theorem Virts.move {v : Value} {l : List Virt} (h : Virts lo hi w v l) : Virts lo' hi' w' v l := Row.move h s.keep s.low s.high fun _ _ h => VirtC.move s h
theorem InstrC.move {cs : List Value} {x : Instr} (h : InstrC lo hi w cs x) : InstrC lo' hi' w' cs x := by
  obtain ⟨u1, u2, u3, e, h1, h2, h3⟩ := h; exact ⟨u1, u2, u3, e, Args.move s h1, Frames.move s h2, Virts.move s h3⟩
theorem Instrs.move {v : Value} {l : List Instr} (h : Instrs lo hi w v l) : Instrs lo' hi' w' v l := Row.move h s.keep s.low s.high fun _ _ h => InstrC.move s h
theorem PhiC.move {cs : List Value} {x : Phi} (h : PhiC lo hi w cs x) : PhiC lo' hi' w' cs x := by
  obtain ⟨u, e, h⟩ := h; exact ⟨u, e, Binds.move s h⟩
theorem Phis.move {v : Value} {l : List Phi} (h : Phis lo hi w v l) : Phis lo' hi' w' v l := Row.move h s.keep s.low s.high fun _ _ h => PhiC.move s h
theorem TermC.move {cs : List Value} {x : Term} (h : TermC lo hi w cs x) : TermC lo' hi' w' cs x := by
  obtain ⟨u, e, h⟩ := h; exact ⟨u, e, Texts.move s h⟩
theorem BlockC.move {cs : List Value} {x : Block} (h : BlockC lo hi w cs x) : BlockC lo' hi' w' cs x := by
  obtain ⟨u1, u2, cs2, e, h1, h2, h3⟩ := h; exact ⟨u1, u2, cs2, e, Phis.move s h1, Instrs.move s h2, TermC.move s h3⟩
theorem Blocks.move {v : Value} {l : List Block} (h : Blocks lo hi w v l) : Blocks lo' hi' w' v l := Row.move h s.keep s.low s.high fun _ _ h => BlockC.move s h
theorem FuncC.move {cs : List Value} {x : Func} (h : FuncC lo hi w cs x) : FuncC lo' hi' w' cs x := by
  obtain ⟨u1, u2, u3, e, h1, h2, h3⟩ := h; exact ⟨u1, u2, u3, e, Vars.move s h1, Vars.move s h2, Blocks.move s h3⟩
theorem Funcs.move {v : Value} {l : List Func} (h : Funcs lo hi w v l) : Funcs lo' hi' w' v l := Row.move h s.keep s.low s.high fun _ _ h => FuncC.move s h
theorem ProgC.move {cs : List Value} {x : Prog} (h : ProgC lo hi w cs x) : ProgC lo' hi' w' cs x := by
  obtain ⟨u1, u2, u3, u4, e, h1, h2, h3, h4⟩ := h; exact ⟨u1, u2, u3, u4, e, Classes.move s h1, Vars.move s h2, Externs.move s h3, Funcs.move s h4⟩
end
theorem Still.of_below (hb : Below hi w w') : Still lo hi lo hi w w' := ⟨fun k _ hk => hb.block k hk, Nat.le_refl _, Nat.le_refl _⟩
theorem Still.wide (w : World) (h1 : lo' ≤ lo) (h2 : hi ≤ hi') : Still lo hi lo' hi' w w := ⟨fun _ _ _ => rfl, h1, h2⟩

/-- one thing of two cells, and so on: the cells as the walk spells them. -/
theorem at2 {b k : Nat} {c0 c1 : Value} (h : ∀ j u, [c0, c1][j]? = some u → w.cell? ⟨b, k + j, none⟩ = some u) : w.cell? ⟨b, k, none⟩ = some c0 ∧ w.cell? ⟨b, k + 1, none⟩ = some c1 := ⟨h 0 _ rfl, h 1 _ rfl⟩
theorem at3 {b k : Nat} {c0 c1 c2 : Value} (h : ∀ j u, [c0, c1, c2][j]? = some u → w.cell? ⟨b, k + j, none⟩ = some u) : w.cell? ⟨b, k, none⟩ = some c0 ∧ w.cell? ⟨b, k + 1, none⟩ = some c1 ∧ w.cell? ⟨b, k + 2, none⟩ = some c2 := ⟨h 0 _ rfl, h 1 _ rfl, h 2 _ rfl⟩
theorem at4 {b k : Nat} {c0 c1 c2 c3 : Value} (h : ∀ j u, [c0, c1, c2, c3][j]? = some u → w.cell? ⟨b, k + j, none⟩ = some u) : w.cell? ⟨b, k, none⟩ = some c0 ∧ w.cell? ⟨b, k + 1, none⟩ = some c1 ∧ w.cell? ⟨b, k + 2, none⟩ = some c2 ∧ w.cell? ⟨b, k + 3, none⟩ = some c3 := ⟨h 0 _ rfl, h 1 _ rfl, h 2 _ rfl, h 3 _ rfl⟩
theorem at5 {b k : Nat} {c0 c1 c2 c3 c4 : Value} (h : ∀ j u, [c0, c1, c2, c3, c4][j]? = some u → w.cell? ⟨b, k + j, none⟩ = some u) : w.cell? ⟨b, k, none⟩ = some c0 ∧ w.cell? ⟨b, k + 1, none⟩ = some c1 ∧ w.cell? ⟨b, k + 2, none⟩ = some c2 ∧ w.cell? ⟨b, k + 3, none⟩ = some c3 ∧ w.cell? ⟨b, k + 4, none⟩ = some c4 := ⟨h 0 _ rfl, h 1 _ rfl, h 2 _ rfl, h 3 _ rfl, h 4 _ rfl⟩
theorem at6 {b k : Nat} {c0 c1 c2 c3 c4 c5 : Value} (h : ∀ j u, [c0, c1, c2, c3, c4, c5][j]? = some u → w.cell? ⟨b, k + j, none⟩ = some u) : w.cell? ⟨b, k, none⟩ = some c0 ∧ w.cell? ⟨b, k + 1, none⟩ = some c1 ∧ w.cell? ⟨b, k + 2, none⟩ = some c2 ∧ w.cell? ⟨b, k + 3, none⟩ = some c3 ∧ w.cell? ⟨b, k + 4, none⟩ = some c4 ∧ w.cell? ⟨b, k + 5, none⟩ = some c5 := ⟨h 0 _ rfl, h 1 _ rfl, h 2 _ rfl, h 3 _ rfl, h 4 _ rfl, h 5 _ rfl⟩
theorem at9 {b k : Nat} {c0 c1 c2 c3 c4 c5 c6 c7 c8 : Value} (h : ∀ j u, [c0, c1, c2, c3, c4, c5, c6, c7, c8][j]? = some u → w.cell? ⟨b, k + j, none⟩ = some u) : w.cell? ⟨b, k, none⟩ = some c0 ∧ w.cell? ⟨b, k + 1, none⟩ = some c1 ∧ w.cell? ⟨b, k + 2, none⟩ = some c2 ∧ w.cell? ⟨b, k + 3, none⟩ = some c3 ∧ w.cell? ⟨b, k + 4, none⟩ = some c4 ∧ w.cell? ⟨b, k + 5, none⟩ = some c5 ∧ w.cell? ⟨b, k + 6, none⟩ = some c6 ∧ w.cell? ⟨b, k + 7, none⟩ = some c7 ∧ w.cell? ⟨b, k + 8, none⟩ = some c8 := ⟨h 0 _ rfl, h 1 _ rfl, h 2 _ rfl, h 3 _ rfl, h 4 _ rfl, h 5 _ rfl, h 6 _ rfl, h 7 _ rfl, h 8 _ rfl⟩
end Go.Proofs.YtikfncgdjnljiaaDoor.Api

namespace Go.Proofs.YtikfncgdjnljiaaDoor.Syn
open WordM Api

/-- The words of the instructions, by their numbers. -/
def opWords : List Wd := [[], [97, 100, 100], [115, 117, 98], [109, 117, 108], [100, 105, 118], [114, 101, 109], [97, 110, 100], [111, 114], [120, 111, 114], [115, 104, 108], [115, 104, 114], [101, 113], [110, 101], [108, 116], [108, 101], [102, 97, 100, 100], [102, 115, 117, 98], [102, 109, 117, 108], [102, 100, 105, 118], [102, 101, 113], [102, 108, 116], [102, 108, 101], [105, 116, 111, 102], [102, 116, 111, 105], [109, 111, 118], [110, 101, 119], [108, 111, 97, 100], [115, 116, 111, 114, 101], [115, 97, 109, 101], [103, 108, 111, 97, 100], [103, 115, 116, 111, 114, 101], [99, 97, 108, 108], [101, 120, 116], [111, 117, 116], [103, 117, 97, 114, 100]]
/-- The first number from k on, of those below 35, whose word it is; 0 and false, if there is none. -/
def opFrom (w : Wd) (k : Nat) : Nat × Bool := if _h : k < 35 then (if opWords.getD k [] = w then (k, true) else opFrom w (k + 1)) else (0, false)
termination_by 35 - k
def opV (w : Wd) : Nat × Bool := opFrom w 1

/-- An instruction's form: its word, does it set, does a name stand there, how many arguments at least, and at most. -/
structure Form where
  word : Wd
  dst : Bool
  named : Bool
  least : Int
  most : Int
def formV (op : Int) : Form × Bool :=
  if op < 1 ∨ 34 < op then (⟨[], false, false, 0, 0⟩, false)
  else
    let lm : Int × Int := if op = 22 ∨ op = 23 ∨ op = 24 ∨ op = 26 ∨ op = 30 ∨ op = 33 then (1, 1) else if op = 25 ∨ op = 31 ∨ op = 32 then (0, 8) else if op = 29 ∨ op = 34 then (0, 0) else (2, 2)
    (⟨opWords.getD op.toNat [], op != 27 && op != 30 && op != 33 && op != 34, op == 25 || op == 26 || op == 27 || (decide (29 ≤ op) && decide (op ≤ 32)), lm.1, lm.2⟩, true)

/-- A word as an argument. -/
def argV (w : Wd) : Arg × Bool := ((fun a : A => (⟨a.1, a.2.1.data.toList, a.2.2⟩ : Arg)) (wget ⟨w.toArray⟩).1, (wget ⟨w.toArray⟩).2)
/-- Words as arguments, if all are; objs: virtual objects, too. -/
def argsV (objs : Bool) : List Wd → Option (List Arg)
  | [] => some []
  | w :: l => if (argV w).2 = true ∧ ((argV w).1.kind = 5 → objs = true) then (argsV objs l).map fun r => (argV w).1 :: r else none
def namesV (l : List Wd) : Bool := l.all nameV
def kindV (w : Wd) : Bool := (w == intL) || (w == floatL) || nameV w
def typedV (l : List Wd) : Bool := match l with | [_, n, t] => nameV n && kindV t | _ => false
/-- Names and arguments, two by two. -/
def pairsV (objs : Bool) : List Wd → Option (List Bind)
  | [] => some []
  | [_] => none
  | n :: a :: l => if nameV n = true then (match argsV objs [a] with | some [x] => (pairsV objs l).map fun r => ⟨n, x⟩ :: r | _ => none) else none

theorem argsV_snoc (objs : Bool) (l : List Wd) (w : Wd) : argsV objs (l ++ [w]) = (argsV objs l).bind fun r => if (argV w).2 = true ∧ ((argV w).1.kind = 5 → objs = true) then some (r ++ [(argV w).1]) else none := by
  induction l with
  | nil => simp only [List.nil_append, argsV, Option.map_some, Option.bind_some]
  | cons a l ih =>
    rw [List.cons_append]
    simp only [argsV]
    by_cases h : (argV a).2 = true ∧ ((argV a).1.kind = 5 → objs = true)
    · rw [if_pos h, if_pos h, ih]
      cases argsV objs l with
      | none => rfl
      | some r =>
        simp only [Option.bind_some, Option.map_some]
        split <;> simp
    · rw [if_neg h, if_neg h]; rfl
theorem argsV_none {objs : Bool} {l : List Wd} {k : Nat} (h : argsV objs (l.take k) = none) : argsV objs l = none := by
  induction l generalizing k with
  | nil => simp [argsV] at h
  | cons a l ih =>
    cases k with
    | zero => simp [argsV] at h
    | succ k =>
      rw [List.take_succ_cons] at h
      simp only [argsV] at h ⊢
      by_cases hc : (argV a).2 = true ∧ ((argV a).1.kind = 5 → objs = true)
      · rw [if_pos hc] at h ⊢
        rw [ih (by simpa using h)]; rfl
      · rw [if_neg hc]
end Go.Proofs.YtikfncgdjnljiaaDoor.Syn

namespace Go.Proofs.YtikfncgdjnljiaaDoor.Syn
open WordM Api NumM

def kClass : Wd := [99, 108, 97, 115, 115]
def kField : Wd := [102, 105, 101, 108, 100]
def kGlobal : Wd := [103, 108, 111, 98, 97, 108]
def kExtern : Wd := [101, 120, 116, 101, 114, 110]
def kFunc : Wd := [102, 117, 110, 99]
def kParam : Wd := [112, 97, 114, 97, 109]
def kVar : Wd := [118, 97, 114]
def kBlock : Wd := [98, 108, 111, 99, 107]
def kPhi : Wd := [112, 104, 105]
def kAt : Wd := [97, 116]
def kObj : Wd := [111, 98, 106]
def kJump : Wd := [106, 117, 109, 112]
def kBranch : Wd := [98, 114, 97, 110, 99, 104]
def kRet : Wd := [114, 101, 116]
def kTrap : Wd := [116, 114, 97, 112]
def kSsa : Wd := [115, 115, 97]
def kEq : Wd := [61]

/-- What has been read: the program, where it stands, how many instructions and phis the function has. -/
structure Rd where
  p : Prog
  wh : Int
  long : Nat
def Rd.init : Rd := ⟨⟨false, [], [], [], []⟩, 0, 0⟩
/-- A line's step: not such a line; an error; the next state. -/
inductive Step where
  | pass
  | bad (why : Int)
  | ok (r : Rd)
def outsideV (r : Rd) : Bool := decide (r.wh ≤ 2) || r.wh == 9
def insideV (r : Rd) : Bool := decide (5 ≤ r.wh) && decide (r.wh ≤ 8)
/-- The last one, changed. -/
def last {α : Type} (f : α → α) : List α → List α
  | [] => []
  | [x] => [f x]
  | x :: y :: l => x :: last f (y :: l)
def wd (l : List Wd) (k : Nat) : Wd := l.getD k []
/-- so many already: 2; else the next state. -/
def room (n m : Nat) (r : Rd) : Step := if m ≤ n then .bad 2 else .ok r
def setF (r : Rd) (f : Api.Func → Api.Func) : Prog := { r.p with funcs := last f r.p.funcs }
def setB (r : Rd) (f : Api.Block → Api.Block) : Prog := setF r fun x => { x with blocks := last f x.blocks }
def setX (r : Rd) (f : Api.Instr → Api.Instr) : Prog := setB r fun b => { b with code := last f b.code }
def argZ : Api.Arg := ⟨0, [], 0⟩
def termZ : Api.Term := ⟨0, argZ, [], 0⟩
def funcZ : Api.Func := ⟨[], [], [], [], []⟩
def blockZ : Api.Block := ⟨[], [], [], termZ⟩
def instrZ : Api.Instr := ⟨0, [], [], [], [], []⟩
def func (r : Rd) : Api.Func := r.p.funcs.getLast?.getD funcZ
def block (r : Rd) : Api.Block := (func r).blocks.getLast?.getD blockZ
def instr (r : Rd) : Api.Instr := (block r).code.getLast?.getD instrZ

def headV (r : Rd) (l : List Wd) : Step :=
  if wd l 0 = kClass then
    if outsideV r = false ∨ l.length ≠ 2 ∨ nameV (wd l 1) = false then .bad 3
    else room r.p.classes.length 8 ⟨{ r.p with classes := r.p.classes ++ [⟨wd l 1, []⟩] }, 1, r.long⟩
  else if wd l 0 = kField then
    if r.wh ≠ 1 ∨ typedV l = false then .bad 3
    else room ((r.p.classes.getLast?.getD ⟨[], []⟩).fields.length) 8 ⟨{ r.p with classes := last (fun c => { c with fields := c.fields ++ [⟨wd l 1, wd l 2⟩] }) r.p.classes }, r.wh, r.long⟩
  else if wd l 0 = kGlobal then
    if outsideV r = false ∨ typedV l = false then .bad 3
    else room r.p.globals.length 8 ⟨{ r.p with globals := r.p.globals ++ [⟨wd l 1, wd l 2⟩] }, 2, r.long⟩
  else if wd l 0 = kExtern then
    if outsideV r = false ∨ l.length ≠ 3 ∨ nameV (wd l 1) = false then .bad 3
    else if (getV (wd l 2)).2 = false ∨ (getV (wd l 2)).1 < 0 ∨ 8 < (getV (wd l 2)).1 then .bad 3
    else room r.p.externs.length 8 ⟨{ r.p with externs := r.p.externs ++ [⟨wd l 1, (getV (wd l 2)).1⟩] }, 2, r.long⟩
  else if wd l 0 = kFunc then
    if outsideV r = false ∨ typedV l = false then .bad 3
    else room r.p.funcs.length 8 ⟨{ r.p with funcs := r.p.funcs ++ [⟨wd l 1, wd l 2, [], [], []⟩] }, 3, 0⟩
  else .pass

def partV (r : Rd) (l : List Wd) : Step :=
  if wd l 0 = kParam then
    if r.wh ≠ 3 ∨ typedV l = false then .bad 3
    else room (func r).params.length 6 ⟨setF r fun f => { f with params := f.params ++ [⟨wd l 1, wd l 2⟩] }, r.wh, r.long⟩
  else if wd l 0 = kVar then
    if (r.wh ≠ 3 ∧ r.wh ≠ 4) ∨ typedV l = false then .bad 3
    else room (func r).vars.length 1024 ⟨setF r fun f => { f with vars := f.vars ++ [⟨wd l 1, wd l 2⟩] }, 4, r.long⟩
  else if wd l 0 = kBlock then
    if (r.wh ≠ 3 ∧ r.wh ≠ 4 ∧ r.wh ≠ 9) ∨ l.length ≠ 2 ∨ nameV (wd l 1) = false then .bad 3
    else room (func r).blocks.length 256 ⟨setF r fun f => { f with blocks := f.blocks ++ [⟨wd l 1, [], [], termZ⟩] }, 5, r.long⟩
  else if wd l 0 = kPhi then
    match (if l.length < 2 then none else pairsV false (l.drop 2)) with
    | none => .bad 3
    | some b =>
      if r.wh ≠ 5 ∨ b.length = 0 ∨ nameV (wd l 1) = false then .bad 3
      else if 256 < b.length ∨ 1024 ≤ r.long then .bad 2
      else .ok ⟨setB r fun k => { k with phis := k.phis ++ [⟨wd l 1, b⟩] }, r.wh, r.long + 1⟩
  else .pass

def endsV (l : List Wd) : Option Api.Term :=
  if wd l 0 = kJump ∧ l.length = 2 ∧ nameV (wd l 1) = true then some ⟨1, argZ, [wd l 1], 0⟩
  else if wd l 0 = kBranch ∧ l.length = 4 ∧ nameV (wd l 2) = true ∧ nameV (wd l 3) = true then
    match argsV false [wd l 1] with
    | some [a] => some ⟨2, a, [wd l 2, wd l 3], 0⟩
    | _ => none
  else if wd l 0 = kRet ∧ l.length = 2 then
    match argsV false [wd l 1] with
    | some [a] => some ⟨3, a, [], 0⟩
    | _ => none
  else if wd l 0 = kTrap ∧ l.length = 2 ∧ (getV (wd l 1)).2 = true then some ⟨4, argZ, [], (getV (wd l 1)).1⟩
  else none

def stateV (r : Rd) (l : List Wd) : Step :=
  if wd l 0 = kAt ∨ wd l 0 = kObj ∨ wd l 0 = kJump ∨ wd l 0 = kBranch ∨ wd l 0 = kRet ∨ wd l 0 = kTrap then
    if insideV r = false then .bad 3
    else if wd l 0 = kAt then
      match (if l.length < 4 then none else pairsV true (l.drop 4)) with
      | none => .bad 3
      | some v =>
        if r.wh ≠ 7 ∨ nameV (wd l 1) = false ∨ nameV (wd l 2) = false then .bad 3
        else if (getV (wd l 3)).2 = false ∨ (getV (wd l 3)).1 < 0 ∨ 1024 < (getV (wd l 3)).1 then .bad 3
        else if 16 < v.length ∨ 16 ≤ (instr r).frames.length then .bad 2
        else .ok ⟨setX r fun x => { x with frames := x.frames ++ [⟨wd l 1, wd l 2, (getV (wd l 3)).1, v⟩] }, r.wh, r.long⟩
    else if wd l 0 = kObj then
      if r.wh < 7 ∨ l.length < 2 ∨ 10 < l.length ∨ nameV (wd l 1) = false then .bad 3
      else
        match argsV true (l.drop 2) with
        | none => .bad 3
        | some v => room (instr r).objs.length 99 ⟨setX r fun x => { x with objs := x.objs ++ [⟨wd l 1, v⟩] }, 8, r.long⟩
    else
      match endsV l with
      | none => .bad 3
      | some t => .ok ⟨setB r fun k => { k with fin := t }, 9, r.long⟩
  else .pass

/-- An instruction behind 'd =', or without. -/
def codeL (r : Rd) (dst : Wd) (l : List Wd) : Step :=
  let op := (opV (wd l 0)).1
  let f := (formV op).1
  if insideV r = false ∨ (opV (wd l 0)).2 = false ∨ f.dst ≠ (dst != []) then .bad 3
  else
    let mem := op = 26 ∨ op = 27
    if (mem ∧ l.length < 3) ∨ (¬ mem ∧ f.named = true ∧ l.length < 2) then .bad 3
    else
      let name := if op = 26 ∨ op = 27 then wd l 2 else if f.named then wd l 1 else []
      let rest := if op = 26 ∨ op = 27 then wd l 1 :: l.drop 3 else if f.named then l.drop 2 else l.drop 1
      match argsV false rest with
      | none => .bad 3
      | some a =>
        if (f.named = true ∧ nameV name = false) ∨ (a.length : Int) < f.least ∨ f.most < (a.length : Int) then .bad 3
        else if 1024 ≤ r.long then .bad 2
        else .ok ⟨setB r fun k => { k with code := k.code ++ [⟨op, dst, name, a, [], []⟩] }, if op = 31 ∨ op = 34 then 7 else 6, r.long + 1⟩
def codeV (r : Rd) (l : List Wd) : Step :=
  if 2 < l.length ∧ wd l 1 = kEq then (if nameV (wd l 0) = false then .bad 3 else codeL r (wd l 0) (l.drop 2)) else codeL r [] l

def Step.orElse (a : Step) (b : Step) : Step := match a with | .pass => b | _ => a
/-- A line. -/
def lineV (r : Rd) (l : List Wd) (first : Bool) : Step :=
  if 2 < l.length ∧ wd l 1 = kEq then codeV r l
  else if wd l 0 = kSsa then (if first = false ∨ l.length ≠ 1 then .bad 3 else .ok ⟨{ r.p with ssa := true }, r.wh, r.long⟩)
  else (((headV r l).orElse (partV r l)).orElse (stateV r l)).orElse (codeV r l)
/-- Lines: the last state, or a line's number and why. -/
def linesV (r : Rd) (first : Bool) : List (Nat × List Wd) → Rd ⊕ (Nat × Int)
  | [] => .inl r
  | x :: l => match lineV r x.2 first with
    | .ok r => linesV r false l
    | .bad why => .inr (x.1, why)
    | .pass => .inr (x.1, 3)
def parseL (l : List (Nat × List Wd)) : Prog ⊕ (Nat × Int) :=
  match linesV .init true l with
  | .inl r => if outsideV r then .inl r.p else .inr (0, 3)
  | .inr e => .inr e

/-- What must stand, where it stands: a class, a function, a block, an instruction. -/
structure Rd.Fit (r : Rd) : Prop where
  low : 0 ≤ r.wh ∧ r.wh ≤ 9
  cls : r.wh = 1 → r.p.classes ≠ []
  fn : 3 ≤ r.wh → r.p.funcs ≠ []
  blk : 5 ≤ r.wh → (func r).blocks ≠ []
  ins : 6 ≤ r.wh → r.wh ≤ 8 → (block r).code ≠ []
theorem Rd.Fit.start : Rd.init.Fit := ⟨by decide, by decide, by decide, by decide, by decide⟩
theorem last_snoc {α : Type} (f : α → α) (l : List α) (x : α) : last f (l ++ [x]) = l ++ [f x] := by
  induction l with
  | nil => rfl
  | cons a l ih => cases l with
    | nil => rfl
    | cons b l => exact congrArg (a :: ·) ih
theorem last_length {α : Type} (f : α → α) (l : List α) : (last f l).length = l.length := by
  rcases List.eq_nil_or_concat l with rfl | ⟨m, x, rfl⟩
  · rfl
  · rw [List.concat_eq_append, last_snoc]; simp
theorem last_get {α : Type} (f : α → α) (l : List α) : (last f l).getLast? = l.getLast?.map f := by
  rcases List.eq_nil_or_concat l with rfl | ⟨m, x, rfl⟩
  · rfl
  · rw [List.concat_eq_append, last_snoc]; simp
theorem last_none {α : Type} {f : α → α} {l : List α} (h : l ≠ []) : last f l ≠ [] := by
  intro e
  have := last_length f l
  rw [e] at this
  exact h (List.length_eq_zero_iff.1 this.symm)
theorem getD_last {α : Type} {f : α → α} {l : List α} {z : α} (h : l ≠ []) : (last f l).getLast?.getD z = f (l.getLast?.getD z) := by
  rcases List.eq_nil_or_concat l with rfl | ⟨m, x, rfl⟩
  · exact absurd rfl h
  · rw [last_get, List.concat_eq_append]; simp
theorem room_ok {n m : Nat} {r r2 : Rd} (h : room n m r = .ok r2) : r2 = r ∧ n < m := by
  unfold room at h
  split at h
  · cases h
  · injection h with h; exact ⟨h.symm, by omega⟩
theorem Rd.Fit.head {r r2 : Rd} {l : List Wd} (h : r.Fit) (e : headV r l = .ok r2) : r2.Fit := by
  unfold headV at e
  repeat' split at e
  all_goals first | (cases e; done) | skip
  all_goals
    obtain ⟨rfl, _⟩ := room_ok e
    have h0 := h.low
    refine ⟨?_, ?_, ?_, ?_, ?_⟩ <;> simp only
  all_goals first | omega | (intro _; simp; done) | exact fun h1 => last_none (h.cls h1)
theorem func_setF {r : Rd} {f : Api.Func → Api.Func} {wh : Int} {long : Nat} (h : r.p.funcs ≠ []) : func ⟨setF r f, wh, long⟩ = f (func r) := getD_last h
theorem block_setB {r : Rd} {f : Api.Block → Api.Block} {wh : Int} {long : Nat} (h : r.p.funcs ≠ []) (h2 : (func r).blocks ≠ []) : block ⟨setB r f, wh, long⟩ = f (block r) := by
  unfold block setB
  rw [func_setF h]
  exact getD_last h2
theorem fit_setF {r : Rd} {f : Api.Func → Api.Func} {wh : Int} {long : Nat} (h : r.p.funcs ≠ []) (hw : 2 ≤ wh ∧ wh ≤ 9) (hb : 5 ≤ wh → (f (func r)).blocks ≠ []) (hc : 6 ≤ wh → wh ≤ 8 → ((f (func r)).blocks.getLast?.getD blockZ).code ≠ []) : Rd.Fit ⟨setF r f, wh, long⟩ := by
  refine ⟨by simp only; omega, by simp only; omega, fun _ => last_none h, fun h5 => ?_, fun h6 h8 => ?_⟩
  · rw [func_setF h]; exact hb h5
  · unfold block; rw [func_setF h]; exact hc h6 h8
theorem Rd.Fit.part {r r2 : Rd} {l : List Wd} (h : r.Fit) (e : partV r l = .ok r2) : r2.Fit := by
  unfold partV at e
  split at e
  · split at e
    · cases e
    · rename_i h1
      obtain ⟨rfl, _⟩ := room_ok e
      simp only [not_or, Decidable.not_not, ne_eq] at h1
      exact fit_setF (h.fn (by omega)) (by omega) (by omega) (by omega)
  split at e
  · split at e
    · cases e
    · rename_i h1
      obtain ⟨rfl, _⟩ := room_ok e
      simp only [not_or, not_and, Decidable.not_not, ne_eq] at h1
      refine fit_setF (h.fn ?_) (by omega) (by omega) (by omega)
      by_cases h3 : r.wh = 3
      · omega
      · have := h1.1 h3; omega
  split at e
  · split at e
    · cases e
    · rename_i h1
      obtain ⟨rfl, _⟩ := room_ok e
      simp only [not_or, not_and, Decidable.not_not, ne_eq] at h1
      refine fit_setF (h.fn ?_) (by omega) (fun _ => by simp) (by omega)
      by_cases h3 : r.wh = 3
      · omega
      · by_cases h4 : r.wh = 4
        · omega
        · have := h1.1 h3 h4; omega
  split at e
  · split at e
    · cases e
    · split at e
      · cases e
      · split at e
        · cases e
        · rename_i h1 _
          simp only [not_or, Decidable.not_not, ne_eq] at h1
          injection e with e
          subst e
          exact fit_setF (h.fn (by omega)) (by omega) (fun _ => last_none (h.blk (by omega))) (by omega)
  · cases e
theorem Rd.Fit.state {r r2 : Rd} {l : List Wd} (h : r.Fit) (e : stateV r l = .ok r2) : r2.Fit := by
  unfold stateV at e
  split at e
  · split at e
    · cases e
    · rename_i hin
      have hin2 : insideV r = true := by simpa using hin
      unfold insideV at hin2
      simp only [Bool.and_eq_true, decide_eq_true_eq] at hin2
      have hb := h.blk (by omega)
      have hf := h.fn (by omega)
      split at e
      · split at e
        · cases e
        · split at e
          · cases e
          · split at e
            · cases e
            · split at e
              · cases e
              · injection e with e
                subst e
                refine fit_setF hf (by omega) (fun _ => last_none hb) (fun h6 h8 => ?_)
                simp only
                rw [getD_last hb]
                exact last_none (h.ins h6 h8)
      · split at e
        · split at e
          · cases e
          · split at e
            · cases e
            · rename_i h1 _ _ _
              obtain ⟨rfl, _⟩ := room_ok e
              simp only [not_or] at h1
              refine fit_setF hf (by omega) (fun _ => last_none hb) (fun h6 h8 => ?_)
              simp only
              rw [getD_last hb]
              exact last_none (h.ins (by omega) (by omega))
        · split at e
          · cases e
          · injection e with e
            subst e
            exact fit_setF hf (by omega) (fun _ => last_none hb) (by omega)
  · cases e
theorem Rd.Fit.codeL {r r2 : Rd} {d : Wd} {l : List Wd} (h : r.Fit) (e : codeL r d l = .ok r2) : r2.Fit := by
  unfold Syn.codeL at e
  simp only at e
  split at e
  · cases e
  · rename_i hin
    simp only [not_or, Bool.not_eq_false] at hin
    have hin2 := hin.1
    unfold insideV at hin2
    simp only [Bool.and_eq_true, decide_eq_true_eq] at hin2
    have hb := h.blk (by omega)
    have hf := h.fn (by omega)
    repeat' split at e
    all_goals first | (cases e; done) | skip
    all_goals
      injection e with e
      subst e
      refine fit_setF hf (by omega) (fun _ => last_none hb) (fun h6 h8 => ?_)
      simp only
      rw [getD_last hb]
      simp
theorem Rd.Fit.line {r r2 : Rd} {l : List Wd} {first : Bool} (h : r.Fit) (e : lineV r l first = .ok r2) : r2.Fit := by
  have hc : codeV r l = .ok r2 → r2.Fit := fun e => by
    unfold codeV at e
    split at e
    · split at e
      · cases e
      · exact h.codeL e
    · exact h.codeL e
  unfold lineV at e
  split at e
  · exact hc e
  · split at e
    · split at e
      · cases e
      · injection e with e
        subst e
        exact ⟨h.low, h.cls, h.fn, h.blk, h.ins⟩
    · cases h1 : headV r l with
      | ok x => rw [h1] at e; simp only [Step.orElse] at e; injection e with e; subst e; exact h.head h1
      | bad y => rw [h1] at e; simp only [Step.orElse] at e; cases e
      | pass =>
        rw [h1] at e
        simp only [Step.orElse] at e
        cases h2 : partV r l with
        | ok x => rw [h2] at e; simp only at e; injection e with e; subst e; exact h.part h2
        | bad y => rw [h2] at e; cases e
        | pass =>
          rw [h2] at e
          simp only at e
          cases h3 : stateV r l with
          | ok x => rw [h3] at e; simp only at e; injection e with e; subst e; exact h.state h3
          | bad y => rw [h3] at e; cases e
          | pass => rw [h3] at e; simp only at e; exact hc e
end Go.Proofs.YtikfncgdjnljiaaDoor.Syn
