/-
  A program that is being built in memory: all rows that hold it are owned, and held apart; what is said of it speaks of the rows alone, not of a world. No function of a program is named here.
-/
import Derived.Test.YtikfncgdjnljiaaDoorHold
import Derived.Test.YtikfncgdjnljiaaDoorPlainS
namespace Go.Proofs.YtikfncgdjnljiaaDoor.Tree
open Go.RowKit Api Hold Mem Syn

/-- Things, and their cells one behind the other. -/
inductive Cells {α : Type} (size : Nat) (P : List Value → α → Prop) : List Value → List α → Prop
  | nil : Cells size P [] []
  | snoc {cs : List Value} {xs : List α} {c : List Value} {x : α} : Cells size P cs xs → c.length = size → P c x → Cells size P (cs ++ c) (xs ++ [x])

variable {α : Type} {size : Nat} {t : TypeId} {P P' Q Q' : List Value → α → Prop} {cs c : List Value} {xs : List α} {x : α} {D D' : List Rec} {v : Value} {F : Rec} {w w' : World} {base hi : Nat}
theorem Cells.mono (h : Cells size P cs xs) (hp : ∀ c x, P c x → P' c x) : Cells size P' cs xs := by
  induction h with
  | nil => exact .nil
  | snoc _ h1 h2 ih => exact .snoc ih h1 (hp _ _ h2)
theorem Cells.length (h : Cells size P cs xs) : cs.length = xs.length * size := by
  induction h with
  | nil => simp
  | snoc _ h1 _ ih => rw [List.length_append, List.length_append, ih, h1, List.length_singleton, Nat.add_mul, Nat.one_mul]
theorem Cells.parts (h : Cells size P cs xs) : ∃ ys : List (List Value), ys.length = xs.length ∧ cs = ys.flatten ∧ ∀ (i : Nat) (c : List Value) (x : α), ys[i]? = some c → xs[i]? = some x → c.length = size ∧ P c x := by
  induction h with
  | nil => exact ⟨[], rfl, rfl, fun i c x h => by simp at h⟩
  | @snoc cs xs c x h h1 h2 ih =>
    obtain ⟨ys, e1, e2, e3⟩ := ih
    refine ⟨ys ++ [c], by simp [e1], by simp [e2], fun i c' x' hc hx => ?_⟩
    by_cases hi : i < ys.length
    · rw [List.getElem?_append_left hi] at hc
      rw [List.getElem?_append_left (by omega)] at hx
      exact e3 i c' x' hc hx
    · have hb := (List.getElem?_eq_some_iff.1 hc).1
      simp only [List.length_append, List.length_singleton] at hb
      obtain rfl : i = ys.length := by omega
      rw [List.getElem?_append_right (Nat.le_refl _)] at hc
      rw [e1, List.getElem?_append_right (Nat.le_refl _)] at hx
      simp at hc hx
      subst hc hx
      exact ⟨h1, h2⟩
/-- things of cells that are told by themselves. -/
theorem Cells.flat {f : α → List Value} (hf : ∀ x, (f x).length = size) (xs : List α) : Cells size (fun c x => c = f x) (xs.flatMap f) xs := by
  obtain ⟨n, hn⟩ : ∃ n, xs.length = n := ⟨_, rfl⟩
  induction n generalizing xs with
  | zero => obtain rfl := List.eq_nil_of_length_eq_zero hn; exact .nil
  | succ n ih =>
    rcases List.eq_nil_or_concat xs with rfl | ⟨m, x, rfl⟩
    · exact .nil
    · rw [List.concat_eq_append] at hn ⊢
      rw [List.flatMap_append, List.flatMap_singleton]
      exact .snoc (ih m (by simpa using hn)) (hf x) rfl

/-- What a row holds. -/
def RowIs (t : TypeId) (size : Nat) (P : List Value → α → Prop) (F : Rec) (xs : List α) : Prop := F.t = t ∧ F.size = size ∧ F.n = xs.length ∧ xs.length ≤ 1099511627776 ∧ Cells size P F.cs xs
theorem RowIs.mono (h : RowIs t size P F xs) (hp : ∀ c x, P c x → P' c x) : RowIs t size P' F xs := ⟨h.1, h.2.1, h.2.2.1, h.2.2.2.1, h.2.2.2.2.mono hp⟩
theorem RowIs.push (h : RowIs t size P F xs) (hl : xs.length < 1099511627776) (hc : c.length = size) (hp : P c x) (v : Value) : RowIs t size P ⟨F.t, F.size, v, F.n + 1, F.cs ++ c⟩ (xs ++ [x]) :=
  ⟨h.1, h.2.1, by simp [h.2.2.1], by simp; omega, .snoc h.2.2.2.2 hc hp⟩
theorem RowIs.none (t : TypeId) (size : Nat) (P : List Value → α → Prop) : RowIs t size P (Rec.empty t size) [] := ⟨rfl, rfl, rfl, by simp, .nil⟩
theorem RowIs.flat {f : α → List Value} (hf : ∀ x, (f x).length = size) (v : Value) (xs : List α) (hl : xs.length ≤ 1099511627776) : RowIs t size (fun c x => c = f x) ⟨t, size, v, xs.length, xs.flatMap f⟩ xs := ⟨rfl, rfl, rfl, hl, Cells.flat hf xs⟩
theorem RowIs.row (h : RowIs t size P F xs) (hA : F.on w base) (hh : w.heap.size ≤ hi) (hp : ∀ c x, P c x → P' c x) : Api.Row base hi w size P' F.v xs := by
  obtain ⟨rfl, rfl, h3, h4, h5⟩ := h
  obtain ⟨ys, e1, e2, e3⟩ := h5.parts
  exact hA.row hh (by omega) h3 e1 e2 fun i c x hc hx => ⟨(e3 i c x hc hx).1, hp _ _ (e3 i c x hc hx).2⟩

/-- A row among D, or nil. -/
def Node (D : List Rec) (t : TypeId) (size : Nat) (P : List Value → α → Prop) (v : Value) (xs : List α) : Prop := (v = .slice none 0 0 ∧ xs = []) ∨ ∃ F ∈ D, F.v = v ∧ RowIs t size P F xs
theorem Node.nil (D : List Rec) (t : TypeId) (size : Nat) (P : List Value → α → Prop) : Node D t size P (.slice none 0 0) [] := .inl ⟨rfl, rfl⟩
theorem Node.mono (h : Node D t size P v xs) (hD : ∀ F ∈ D, F ∈ D') (hp : ∀ c x, P c x → P' c x) : Node D' t size P' v xs := by
  rcases h with h | ⟨F, hF, e, h⟩
  · exact .inl h
  · exact .inr ⟨F, hD F hF, e, h.mono hp⟩
theorem Node.of (hF : F ∈ D) (h : RowIs t size P F xs) : Node D t size P F.v xs := .inr ⟨F, hF, rfl, h⟩
theorem Node.row (h : Node D t size P v xs) (hA : ∀ F ∈ D, F.on w base) (hh : w.heap.size ≤ hi) (hp : ∀ c x, P c x → P' c x) : Api.Row base hi w size P' v xs := by
  rcases h with ⟨rfl, rfl⟩ | ⟨F, hF, rfl, h⟩
  · exact ⟨Option.none, 0, 0, 0, 0, rfl, rfl, by omega, by omega, fun i x hx => by simp at hx⟩
  · exact h.row (hA F hF) hh hp

/-! ### the kinds of things -/
section
variable (D : List Rec)
def Args (v : Value) (l : List Arg) : Prop := Node D 32 3 (fun c x => c = argC x) v l
def Vars (v : Value) (l : List Var) : Prop := Node D 40 2 (fun c x => c = varC x) v l
def Binds (v : Value) (l : List Bind) : Prop := Node D 155 4 (fun c x => c = bindC x) v l
def Ins (v : Value) (l : List Bind) : Prop := Node D 125 4 (fun c x => c = bindC x) v l
def Texts (v : Value) (l : List Wd) : Prop := Node D 9 1 (fun c x => c = [str x]) v l
def IsClass (c : List Value) (x : Class) : Prop := ∃ u, c = [str x.name, u] ∧ Vars D u x.fields
def IsFrame (c : List Value) (x : Api.Frame) : Prop := ∃ u, c = [str x.func, str x.block, i64 x.pos, u] ∧ Binds D u x.vars
def IsVirt (c : List Value) (x : Virt) : Prop := ∃ u, c = [str x.cls, u] ∧ Args D u x.vals
def IsInstr (c : List Value) (x : Instr) : Prop := ∃ u1 u2 u3, c = [i64 x.op, str x.dst, str x.name, u1, u2, u3] ∧ Args D u1 x.args ∧ Node D 153 4 (IsFrame D) u2 x.frames ∧ Node D 157 2 (IsVirt D) u3 x.objs
def IsPhi (c : List Value) (x : Phi) : Prop := ∃ u, c = [str x.dst, u] ∧ Ins D u x.ins
def IsTerm (c : List Value) (x : Api.Term) : Prop := ∃ u, c = [i64 x.kind, i64 x.a.kind, str x.a.s, i64 x.a.n, u, i64 x.n] ∧ Texts D u x.dest
def IsBlock (c : List Value) (x : Api.Block) : Prop := ∃ u1 u2 c2, c = str x.name :: u1 :: u2 :: c2 ∧ Node D 123 2 (IsPhi D) u1 x.phis ∧ Node D 59 6 (IsInstr D) u2 x.code ∧ IsTerm D c2 x.fin
def IsFunc (c : List Value) (x : Api.Func) : Prop := ∃ u1 u2 u3, c = [str x.name, str x.result, u1, u2, u3] ∧ Vars D u1 x.params ∧ Vars D u2 x.vars ∧ Node D 94 9 (IsBlock D) u3 x.blocks
end
section
variable (hD : ∀ F ∈ D, F ∈ D')
include hD
theorem IsClass.mono {x : Class} (h : IsClass D c x) : IsClass D' c x := by obtain ⟨u, e, h⟩ := h; exact ⟨u, e, h.mono hD fun _ _ h => h⟩
theorem IsFrame.mono {x : Api.Frame} (h : IsFrame D c x) : IsFrame D' c x := by obtain ⟨u, e, h⟩ := h; exact ⟨u, e, h.mono hD fun _ _ h => h⟩
theorem IsVirt.mono {x : Virt} (h : IsVirt D c x) : IsVirt D' c x := by obtain ⟨u, e, h⟩ := h; exact ⟨u, e, h.mono hD fun _ _ h => h⟩
theorem IsInstr.mono {x : Instr} (h : IsInstr D c x) : IsInstr D' c x := by
  obtain ⟨u1, u2, u3, e, h1, h2, h3⟩ := h
  exact ⟨u1, u2, u3, e, h1.mono hD fun _ _ h => h, h2.mono hD fun _ _ h => IsFrame.mono hD h, h3.mono hD fun _ _ h => IsVirt.mono hD h⟩
theorem IsPhi.mono {x : Phi} (h : IsPhi D c x) : IsPhi D' c x := by obtain ⟨u, e, h⟩ := h; exact ⟨u, e, h.mono hD fun _ _ h => h⟩
theorem IsTerm.mono {x : Api.Term} (h : IsTerm D c x) : IsTerm D' c x := by obtain ⟨u, e, h⟩ := h; exact ⟨u, e, h.mono hD fun _ _ h => h⟩
theorem IsBlock.mono {x : Api.Block} (h : IsBlock D c x) : IsBlock D' c x := by
  obtain ⟨u1, u2, c2, e, h1, h2, h3⟩ := h
  exact ⟨u1, u2, c2, e, h1.mono hD fun _ _ h => IsPhi.mono hD h, h2.mono hD fun _ _ h => IsInstr.mono hD h, IsTerm.mono hD h3⟩
theorem IsFunc.mono {x : Api.Func} (h : IsFunc D c x) : IsFunc D' c x := by
  obtain ⟨u1, u2, u3, e, h1, h2, h3⟩ := h
  exact ⟨u1, u2, u3, e, h1.mono hD fun _ _ h => h, h2.mono hD fun _ _ h => h, h3.mono hD fun _ _ h => IsBlock.mono hD h⟩
end
section
variable (hA : ∀ F ∈ D, F.on w base) (hh : w.heap.size ≤ hi)
include hA hh
theorem IsClass.read {x : Class} (h : IsClass D c x) : Api.ClassC base hi w c x := by obtain ⟨u, e, h⟩ := h; exact ⟨u, e, h.row hA hh fun _ _ h => h⟩
theorem IsFrame.read {x : Api.Frame} (h : IsFrame D c x) : Api.FrameC base hi w c x := by obtain ⟨u, e, h⟩ := h; exact ⟨u, e, h.row hA hh fun _ _ h => h⟩
theorem IsVirt.read {x : Virt} (h : IsVirt D c x) : Api.VirtC base hi w c x := by obtain ⟨u, e, h⟩ := h; exact ⟨u, e, h.row hA hh fun _ _ h => h⟩
theorem IsInstr.read {x : Instr} (h : IsInstr D c x) : Api.InstrC base hi w c x := by
  obtain ⟨u1, u2, u3, e, h1, h2, h3⟩ := h
  exact ⟨u1, u2, u3, e, h1.row hA hh fun _ _ h => h, h2.row hA hh fun _ _ h => IsFrame.read hA hh h, h3.row hA hh fun _ _ h => IsVirt.read hA hh h⟩
theorem IsPhi.read {x : Phi} (h : IsPhi D c x) : Api.PhiC base hi w c x := by obtain ⟨u, e, h⟩ := h; exact ⟨u, e, h.row hA hh fun _ _ h => h⟩
theorem IsTerm.read {x : Api.Term} (h : IsTerm D c x) : Api.TermC base hi w c x := by obtain ⟨u, e, h⟩ := h; exact ⟨u, e, h.row hA hh fun _ _ h => h⟩
theorem IsBlock.read {x : Api.Block} (h : IsBlock D c x) : Api.BlockC base hi w c x := by
  obtain ⟨u1, u2, c2, e, h1, h2, h3⟩ := h
  exact ⟨u1, u2, c2, e, h1.row hA hh fun _ _ h => IsPhi.read hA hh h, h2.row hA hh fun _ _ h => IsInstr.read hA hh h, IsTerm.read hA hh h3⟩
theorem IsFunc.read {x : Api.Func} (h : IsFunc D c x) : Api.FuncC base hi w c x := by
  obtain ⟨u1, u2, u3, e, h1, h2, h3⟩ := h
  exact ⟨u1, u2, u3, e, h1.row hA hh fun _ _ h => h, h2.row hA hh fun _ _ h => h, h3.row hA hh fun _ _ h => IsBlock.read hA hh h⟩
end

/-! ### a row whose last thing is still being built: P of those ahead, Q of the last one -/
def SpineRow (t : TypeId) (size : Nat) (P Q : List Value → α → Prop) (F : Rec) (xs : List α) : Prop :=
  F.t = t ∧ F.size = size ∧ F.n = xs.length ∧ xs.length ≤ 1099511627776 ∧ ((xs = [] ∧ F.cs = []) ∨ ∃ init x cs0 c, xs = init ++ [x] ∧ F.cs = cs0 ++ c ∧ Cells size P cs0 init ∧ c.length = size ∧ Q c x)
theorem SpineRow.none (t : TypeId) (size : Nat) (P Q : List Value → α → Prop) : SpineRow t size P Q (Rec.empty t size) [] := ⟨rfl, rfl, rfl, by simp, .inl ⟨rfl, rfl⟩⟩
theorem SpineRow.close (h : SpineRow t size P Q F xs) (hp : ∀ c x, P c x → P' c x) (hq : ∀ c x, Q c x → P' c x) : RowIs t size P' F xs := by
  obtain ⟨h1, h2, h3, h4, h5⟩ := h
  refine ⟨h1, h2, h3, by omega, ?_⟩
  rcases h5 with ⟨rfl, e⟩ | ⟨init, x, cs0, c, rfl, e, h6, h7, h8⟩
  · rw [e]; exact .nil
  · rw [e]; exact .snoc (h6.mono hp) h7 (hq _ _ h8)
theorem SpineRow.mono (h : SpineRow t size P Q F xs) (hp : ∀ c x, P c x → P' c x) (hq : ∀ c x, Q c x → Q' c x) : SpineRow t size P' Q' F xs := by
  obtain ⟨h1, h2, h3, h4, h5⟩ := h
  refine ⟨h1, h2, h3, h4, ?_⟩
  rcases h5 with h5 | ⟨init, x, cs0, c, e1, e, h6, h7, h8⟩
  · exact .inl h5
  · exact .inr ⟨init, x, cs0, c, e1, e, h6.mono hp, h7, hq _ _ h8⟩
/-- one more, and it is the last one. -/
theorem SpineRow.push (h : SpineRow t size P Q F xs) (hl : xs.length < 1099511627776) (hp : ∀ c x, P c x → P' c x) (hq : ∀ c x, Q c x → P' c x) (hc : c.length = size) (hx : Q' c x) (v : Value) : SpineRow t size P' Q' ⟨F.t, F.size, v, F.n + 1, F.cs ++ c⟩ (xs ++ [x]) :=
  ⟨h.1, h.2.1, by simp [h.2.2.1], by simp; omega, .inr ⟨xs, x, F.cs, c, rfl, rfl, (h.close hp hq).2.2.2.2, hc, hx⟩⟩
/-- the last one changes beyond the row. -/
theorem SpineRow.inner {f : α → α} (h : SpineRow t size P Q F xs) (hne : xs ≠ []) (hq : ∀ c x, Q c x → Q' c (f x)) : SpineRow t size P Q' F (Syn.last f xs) := by
  obtain ⟨h1, h2, h3, h4, h5⟩ := h
  refine ⟨h1, h2, by rw [last_length]; exact h3, by rw [last_length]; exact h4, ?_⟩
  rcases h5 with ⟨h5, _⟩ | ⟨init, x, cs0, c, rfl, e, h6, h7, h8⟩
  · exact absurd h5 hne
  · exact .inr ⟨init, f x, cs0, c, last_snoc f init x, e, h6, h7, hq _ _ h8⟩
/-- one cell of the last one is written. -/
theorem SpineRow.alter {f : α → α} {j : Nat} {u : Value} (h : SpineRow t size P Q F xs) (hne : xs ≠ []) (hq : ∀ c x, c.length = size → Q c x → Q' (c.set j u) (f x)) : SpineRow t size P Q' { F with cs := F.cs.set ((xs.length - 1) * size + j) u } (Syn.last f xs) := by
  obtain ⟨h1, h2, h3, h4, h5⟩ := h
  refine ⟨h1, h2, by rw [last_length]; exact h3, by rw [last_length]; exact h4, ?_⟩
  rcases h5 with ⟨h5, _⟩ | ⟨init, x, cs0, c, rfl, e, h6, h7, h8⟩
  · exact absurd h5 hne
  · refine .inr ⟨init, f x, cs0, c.set j u, last_snoc f init x, ?_, h6, by simpa using h7, hq _ _ h7 h8⟩
    have h9 := h6.length
    show F.cs.set _ u = _
    rw [e, List.length_append, List.length_singleton, Nat.add_sub_cancel, ← h9, List.set_append_right _ _ (by omega)]
    congr 2
    omega
/-- the last one's cells. -/
theorem SpineRow.at (h : SpineRow t size P Q F xs) (hne : xs ≠ []) : ∃ init x c, xs = init ++ [x] ∧ c.length = size ∧ Q c x ∧ ∀ j u, c[j]? = some u → F.cs[(xs.length - 1) * size + j]? = some u := by
  obtain ⟨h1, h2, h3, h4, h5⟩ := h
  rcases h5 with ⟨h5, _⟩ | ⟨init, x, cs0, c, rfl, e, h6, h7, h8⟩
  · exact absurd h5 hne
  · refine ⟨init, x, c, rfl, h7, h8, fun j u hj => ?_⟩
    have h9 := h6.length
    rw [e, List.length_append, List.length_singleton, Nat.add_sub_cancel, ← h9, List.getElem?_append_right (by omega)]
    rw [← hj]
    congr 1
    omega

/-! ### what is being built -/
/-- The rows that may still grow: of classes, the last one's fields, globals, externs, functions; the last function's parameters, variables, blocks; the last block's phis, code; the last instruction's frames, objects. -/
structure Act where
  C : Rec
  F : Rec
  G : Rec
  E : Rec
  U : Rec
  R : Rec
  V : Rec
  B : Rec
  H : Rec
  K : Rec
  M : Rec
  O : Rec
def Act.l (a : Act) : List Rec := [a.C, a.F, a.G, a.E, a.U, a.R, a.V, a.B, a.H, a.K, a.M, a.O]
section
variable (a : Act) (D : List Rec)
def QClass (c : List Value) (x : Class) : Prop := c = [str x.name, a.F.v] ∧ RowIs 40 2 (fun c x => c = varC x) a.F x.fields
def QInstr (c : List Value) (x : Instr) : Prop := ∃ u, c = [i64 x.op, str x.dst, str x.name, u, a.M.v, a.O.v] ∧ Args D u x.args ∧ RowIs 153 4 (IsFrame D) a.M x.frames ∧ RowIs 157 2 (IsVirt D) a.O x.objs
def QBlock (c : List Value) (x : Api.Block) : Prop := ∃ c2, c = str x.name :: a.H.v :: a.K.v :: c2 ∧ RowIs 123 2 (IsPhi D) a.H x.phis ∧ SpineRow 59 6 (IsInstr D) (QInstr a D) a.K x.code ∧ IsTerm D c2 x.fin
def QFunc (c : List Value) (x : Api.Func) : Prop := c = [str x.name, str x.result, a.R.v, a.V.v, a.B.v] ∧ RowIs 40 2 (fun c x => c = varC x) a.R x.params ∧ RowIs 40 2 (fun c x => c = varC x) a.V x.vars ∧ SpineRow 94 9 (IsBlock D) (QBlock a D) a.B x.blocks
structure Shape (p : Prog) : Prop where
  c : SpineRow 36 2 (IsClass D) (QClass a) a.C p.classes
  g : RowIs 40 2 (fun c x => c = varC x) a.G p.globals
  e : RowIs 47 2 (fun c x => c = externC x) a.E p.externs
  u : SpineRow 30 5 (IsFunc D) (QFunc a D) a.U p.funcs
end
variable {a : Act} {p : Prog}
theorem QClass.done {x : Class} (h : QClass a c x) (hF : a.F ∈ D) : IsClass D c x := ⟨_, h.1, .of hF h.2⟩
theorem QInstr.done {x : Instr} (h : QInstr a D c x) (hD : ∀ F ∈ D, F ∈ D') (hM : a.M ∈ D') (hO : a.O ∈ D') : IsInstr D' c x := by
  obtain ⟨u, e, h1, h2, h3⟩ := h
  exact ⟨u, _, _, e, h1.mono hD fun _ _ h => h, .of hM (h2.mono fun _ _ h => IsFrame.mono hD h), .of hO (h3.mono fun _ _ h => IsVirt.mono hD h)⟩
theorem QBlock.done {x : Api.Block} (h : QBlock a D c x) (hD : ∀ F ∈ D, F ∈ D') (hH : a.H ∈ D') (hK : a.K ∈ D') (hM : a.M ∈ D') (hO : a.O ∈ D') : IsBlock D' c x := by
  obtain ⟨c2, e, h1, h2, h3⟩ := h
  exact ⟨_, _, c2, e, .of hH (h1.mono fun _ _ h => IsPhi.mono hD h), .of hK (h2.close (fun _ _ h => IsInstr.mono hD h) fun _ _ h => h.done hD hM hO), IsTerm.mono hD h3⟩
theorem QFunc.done {x : Api.Func} (h : QFunc a D c x) (hD : ∀ F ∈ D, F ∈ D') (hR : a.R ∈ D') (hV : a.V ∈ D') (hB : a.B ∈ D') (hH : a.H ∈ D') (hK : a.K ∈ D') (hM : a.M ∈ D') (hO : a.O ∈ D') : IsFunc D' c x := by
  obtain ⟨e, h1, h2, h3⟩ := h
  exact ⟨_, _, _, e, .of hR h1, .of hV h2, .of hB (h3.close (fun _ _ h => IsBlock.mono hD h) fun _ _ h => h.done hD hH hK hM hO)⟩
theorem Shape.start : Shape ⟨.empty 36 2, .empty 40 2, .empty 40 2, .empty 47 2, .empty 30 5, .empty 40 2, .empty 40 2, .empty 94 9, .empty 123 2, .empty 59 6, .empty 153 4, .empty 157 2⟩ [] ⟨false, [], [], [], []⟩ :=
  ⟨.none _ _ _ _, .none _ _ _, .none _ _ _, .none _ _ _ _⟩
theorem Shape.ssa (h : Shape a D p) (b : Bool) : Shape a D { p with ssa := b } := ⟨h.c, h.g, h.e, h.u⟩
/-- The whole, read. -/
theorem Shape.read (h : Shape a D p) (hA : Apart w base (a.l ++ D)) (hh : w.heap.size ≤ hi) : Api.ProgC base hi w [.bool p.ssa, a.C.v, a.G.v, a.E.v, a.U.v] p := by
  have hall : ∀ F ∈ a.l ++ D, F.on w base := hA.1
  have hD : ∀ F ∈ D, F ∈ a.l ++ D := fun F hF => List.mem_append_right _ hF
  have hm : ∀ F ∈ a.l, F ∈ a.l ++ D := fun F hF => List.mem_append_left _ hF
  refine ⟨_, _, _, _, rfl, ?_, ?_, ?_, ?_⟩
  · exact (h.c.close (P' := IsClass (a.l ++ D)) (fun _ _ h => IsClass.mono hD h) fun _ _ h => h.done (hm _ (by simp [Act.l]))).row (hall _ (hm _ (by simp [Act.l]))) hh fun _ _ h => IsClass.read hall hh h
  · exact h.g.row (hall _ (hm _ (by simp [Act.l]))) hh fun _ _ h => h
  · exact h.e.row (hall _ (hm _ (by simp [Act.l]))) hh fun _ _ h => h
  · exact (h.u.close (P' := IsFunc (a.l ++ D)) (fun _ _ h => IsFunc.mono hD h) fun _ _ h => h.done hD (hm _ (by simp [Act.l])) (hm _ (by simp [Act.l])) (hm _ (by simp [Act.l])) (hm _ (by simp [Act.l])) (hm _ (by simp [Act.l])) (hm _ (by simp [Act.l])) (hm _ (by simp [Act.l]))).row (hall _ (hm _ (by simp [Act.l]))) hh fun _ _ h => IsFunc.read hall hh h
end Go.Proofs.YtikfncgdjnljiaaDoor.Tree
