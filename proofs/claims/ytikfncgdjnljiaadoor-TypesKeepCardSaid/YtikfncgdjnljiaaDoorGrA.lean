/-
  Rdr Take St Last Keep2 Ends Loc Keep3 Obj Phi
-/
import Derived.Test.YtikfncgdjnljiaaDoorKeep
import Derived.Test.YtikfncgdjnljiaaDoorCallsW
import Derived.Test.YtikfncgdjnljiaaDoorCallsN
import Derived.WalkLawsBesides
import Derived.Lib.Hide
import Derived.Deep.AppendLies
import Derived.Deep.RegionLaw
import Derived.Deep.QuietTactic
import Derived.BigQuiet
/-
  Package syntax: what takes one word of a line: next, name, kind, declared, number, count, value, argument, in; and stands, limit, refuse.
-/
namespace Go.Proofs.YtikfncgdjnljiaaDoor.Rd5
open Go.RowKit Api Hold Mem Syn WordM

/-- The reader's cells. -/
structure RC where
  ssa : Value
  c : Value
  g : Value
  e : Value
  u : Value
  place : Int
  long : Int
  first : Value
  rest : Value
  over : Bool
def RC.l (rc : RC) : List Value := [rc.ssa, rc.c, rc.g, rc.e, rc.u, i64 rc.place, i64 rc.long, rc.first, rc.rest, .bool rc.over]
/-- v is a row of words. -/
def Ws (lo hi : Nat) (w : World) (v : Value) (l : List Wd) : Prop :=
  ∃ A n cap b off, v = .slice A n cap ∧ n = l.length ∧ n ≤ cap ∧ cap ≤ 9223372036854775807 ∧ (0 < n → A = some ⟨b, off, none⟩ ∧ lo ≤ b ∧ b < hi) ∧ (∀ i x, l[i]? = some x → w.cell? ⟨b, off + i, none⟩ = some (str x)) ∧ ∀ x ∈ l, x.length ≤ 4194304
variable {w w' w1 : World} {lo hi rb base : Nat} {rc : RC} {v : Value} {l ws : List Wd}
theorem Ws.move (h : Ws lo hi w v l) (hk : ∀ k, lo ≤ k → k < hi → w'.heap[k]? = w.heap[k]?) : Ws lo hi w' v l := by
  obtain ⟨A, n, cap, b, off, e, hn, hc, hm, ha, hw, hs⟩ := h
  refine ⟨A, n, cap, b, off, e, hn, hc, hm, ha, fun i x hx => ?_, hs⟩
  have hi := (List.getElem?_eq_some_iff.1 hx).1
  obtain ⟨_, h1, h2⟩ := ha (by omega)
  exact (World.cell?_of_block (w := w) (hk b h1 h2)).trans (hw i x hx)
theorem Ws.grown {row : Option Nat} (h : Ws lo hi w v l) (hg : w.grownBy w' row) (hr : ∀ k, row = some k → hi ≤ k) (hh : hi ≤ w.heap.size) : Ws lo hi w' v l :=
  h.move fun k _ hk => hg.block k (by omega) (fun e => by have := hr k e.symm; omega)
theorem grown_trans {row : Option Nat} (h : w.grownBy w1 row) (h2 : w1.grownBy w' row) : w.grownBy w' row := h.trans h2
theorem grown_below {B : Nat} {row : Option Nat} (hB : w.heap.size ≤ B) (h : Below B w w') : w.grownBy w' row := ⟨h.os, h.tape, h.output, h.size, fun k hk _ => h.block k (by omega)⟩

/-- The words as the walk meets them: none; or one, and the others. -/
theorem Ws.none (h : Ws lo hi w v []) : ∃ A cap, v = .slice A 0 cap := by
  obtain ⟨A, n, cap, b, off, e, rfl, _⟩ := h
  exact ⟨A, cap, e⟩
def takeWord : List Wd → Option (Wd × List Wd) | [] => none | x :: l => some (x, l)

end Go.Proofs.YtikfncgdjnljiaaDoor.Rd5

/-
  Package syntax: name, kind, declared, number, count, value, argument, in; stands, limit.
-/
namespace Go.Proofs.YtikfncgdjnljiaaDoor.Rd5
open Go.RowKit Api Hold Mem Syn WordM

variable {w w' w1 w2 : World} {lo hi rb base : Nat} {rc : RC} {v : Value} {l ws : List Wd} {row : Option Nat}
theorem gr_refl (w : World) (row : Option Nat) : w.grownBy w row := ⟨rfl, rfl, rfl, Nat.le_refl _, fun _ _ _ => rfl⟩
theorem gr_alloc (h : w.grownBy w1 row) (o : Obj) : w.grownBy (w1.alloc o) row := h.trans (World.grownBy_alloc w1 o row)
theorem gr_below {B : Nat} (h : w.grownBy w1 row) (hB : w.heap.size ≤ B) (hb : Below B w1 w2) : w.grownBy w2 row :=
  ⟨hb.os.trans h.os, hb.tape.trans h.tape, hb.output.trans h.output, Nat.le_trans h.size hb.size, fun k hk hne => (hb.block k (by omega)).trans (h.block k hk hne)⟩
theorem gr_set (h : w.grownBy w1 row) {a : Addr} (ha : w.heap.size ≤ a.block) (u : Value) : w.grownBy (w1.setCell a u) row :=
  ⟨h.os, h.tape, h.output, by have := h.size; simpa [World.setCell] using this, fun k hk hne => (Below.heap_setCell w1 a u k (by omega)).trans (h.block k hk hne)⟩
theorem gr_set_row (h : w.grownBy w1 (some rb)) {a : Addr} (ha : a.block = rb) (u : Value) : w.grownBy (w1.setCell a u) (some rb) :=
  ⟨h.os, h.tape, h.output, by have := h.size; simpa [World.setCell] using this, fun k hk hne => (Below.heap_setCell w1 a u k (by subst ha; intro e; exact hne (by rw [e]))).trans (h.block k hk hne)⟩
theorem gr_drew (h : w.grownBy w1 row) : w.grownBy w1.drew row := ⟨h.os, h.tape, h.output, h.size, h.block⟩
theorem gr_any (h : w.grownBy w1 none) : w.grownBy w1 row := ⟨h.os, h.tape, h.output, h.size, fun k hk _ => h.block k hk (by simp)⟩
theorem Ws.same (h : Ws lo hi w v l) (hk : ∀ k, k < hi → w'.heap[k]? = w.heap[k]?) : Ws lo hi w' v l := h.move fun k _ => hk k

def takeName : List Wd → Option (Wd × List Wd) | x :: l => if nameV x = true then some (x, l) else none | [] => none
def takeKind : List Wd → Option (Wd × List Wd) | x :: l => if kindV x = true then some (x, l) else none | [] => none
def takeNum : List Wd → Option (Int × List Wd) | x :: l => if (NumM.getV x).2 = true then some ((NumM.getV x).1, l) else none | [] => none
def takeCount (m : Int) (ws : List Wd) : Option (Int × List Wd) := match takeNum ws with | some (n, l) => if n < 0 ∨ m < n then none else some (n, l) | none => none
def takeVal : List Wd → Option (Arg × List Wd) | x :: l => if (argV x).2 = true then some ((argV x).1, l) else none | [] => none
def takeArg (ws : List Wd) : Option (Arg × List Wd) := match takeVal ws with | some (a, l) => if a.kind = 5 then none else some (a, l) | none => none
def takeVar (ws : List Wd) : Option (Var × List Wd) := match takeName ws with | some (n, l) => (match takeKind l with | some (k, l) => some (⟨n, k⟩, l) | none => none) | none => none
def takeIn (ws : List Wd) : Option (Bind × List Wd) := match takeName ws with | some (n, l) => (match takeArg l with | some (a, l) => some (⟨n, a⟩, l) | none => none) | none => none

abbrev ptr (rb : Nat) : Value := .pointer (some ⟨rb, 0, none⟩)
theorem eq_lit5 {s : ByteArray} {x c : Wd} (hs : s.data.toList = x) : (s.toList == c) = (x == c) := by rw [ByteArray.toList_eq, hs]
theorem alloc_ws (h : Ws lo hi w v l) (hh : hi ≤ w.heap.size) (o : Obj) : Ws lo hi (w.alloc o) v l := h.same fun k hk => Below.heap_alloc w o k (by omega)
abbrev agA (a : Arg) : Value := .agg #[i64 a.kind, str a.s, i64 a.n]
abbrev zA : Obj := .cells #[i64 0, str [], i64 0] 32
theorem results_cell {fn : Func} {p : Tmp} {ty : TypeId} (h : fn.results = #[.cell p ty]) (tmps : Array Value) (P : Program) (w : World) :
    (results fn tmps).run P w = ((asAddr (tmps.getD p undef)).run P w).andThen fun a w₁ => (loadVar ty a).run P w₁ := by
  simp only [results, h]
  simp [Sem.run_bind, Result.andThen]
/-- a block laid ahead of a call that takes words, and of one that only makes memory. -/
theorem gr_made {o : Obj} (h : (w.alloc o).grownBy w1 row) : w.grownBy w1 row := (World.grownBy_alloc w o row).trans h
theorem made_size {o : Obj} (h : (w.alloc o).grownBy w1 row) : w.heap.size ≤ w1.heap.size := by have := h.size; simp at this; omega
theorem made_own {t : TypeId} {cs : List Value} (hr : rb < w.heap.size) (h : (w.alloc (.cells cs.toArray t)).grownBy w1 (some rb)) : Own w1 w.heap.size t cs :=
  (h.block w.heap.size (by simp) (by intro e; injection e with e; omega)).trans (Own.made w t cs)
theorem made_over {t : TypeId} {cs : List Value} (hr : rb < w.heap.size) (h : (w.alloc (.cells cs.toArray t)).grownBy w1 (some rb)) (hb : Below w1.heap.size w1 w2) : Own w2 w.heap.size t cs :=
  (made_own hr h).below hb (made_own hr h).lt
theorem own2 {g : Nat} {t : TypeId} {u0 u1 : Value} (o : Own w g t [u0, u1]) : (w.cell? ⟨g, 0, none⟩ = some u0 ∧ w.cell? ⟨g, 1, none⟩ = some u1) ∧ (w.frozen? ⟨g, 0, none⟩ = false ∧ w.frozen? ⟨g, 1, none⟩ = false) ∧ g < w.heap.size :=
  ⟨⟨o.cell 0, o.cell 1⟩, ⟨o.thaw 0, o.thaw 1⟩, o.lt⟩
theorem own4 {g : Nat} {t : TypeId} {u0 u1 u2 u3 : Value} (o : Own w g t [u0, u1, u2, u3]) : (w.cell? ⟨g, 0, none⟩ = some u0 ∧ w.cell? ⟨g, 1, none⟩ = some u1 ∧ w.cell? ⟨g, 2, none⟩ = some u2 ∧ w.cell? ⟨g, 3, none⟩ = some u3) ∧ (w.frozen? ⟨g, 0, none⟩ = false ∧ w.frozen? ⟨g, 1, none⟩ = false ∧ w.frozen? ⟨g, 2, none⟩ = false ∧ w.frozen? ⟨g, 3, none⟩ = false) ∧ g < w.heap.size :=
  ⟨⟨o.cell 0, o.cell 1, o.cell 2, o.cell 3⟩, ⟨o.thaw 0, o.thaw 1, o.thaw 2, o.thaw 3⟩, o.lt⟩
theorem own_twice {t : TypeId} {cs : List Value} (hr : rb < w.heap.size) (h : (w.alloc (.cells cs.toArray t)).grownBy w1 (some rb)) (h2 : w1.grownBy w2 (some rb)) : Own w2 w.heap.size t cs :=
  made_own hr (h.trans h2)
abbrev zV : Obj := .cells #[str [], str []] 40
abbrev zI : Obj := .cells #[str [], i64 0, str [], i64 0] 125
abbrev agV (x : Var) : Value := .agg #[str x.name, str x.type]
abbrev agB (x : Bind) : Value := .agg #[str x.name, i64 x.a.kind, str x.a.s, i64 x.a.n]
end Go.Proofs.YtikfncgdjnljiaaDoor.Rd5

/-
  Package syntax: the reader as it stands between two words; stands, limit; an append to a row that is being built.
-/
namespace Go.Proofs.YtikfncgdjnljiaaDoor.Rd5
open Go.RowKit Api Hold Mem Syn WordM Tree

variable {w w' w1 w2 : World} {lo hi rb base N : Nat} {rc : RC} {v : Value} {l ws : List Wd} {row : Option Nat} {a : Tree.Act} {D : List Rec} {p : Prog}

/-- May a line stand here? -/
def stB (pl at_ : Int) : Bool := !(bits BinOp.and IntKind.i64 pl at_ == 0)
/-- Below base all is as it was, but for the reader. -/
structure Beside (base rb : Nat) (w w' : World) : Prop where
  os : w'.os = w.os
  tape : w'.tape = w.tape
  output : w'.output = w.output
  size : w.heap.size ≤ w'.heap.size
  block : ∀ k, k < base → k ≠ rb → w'.heap[k]? = w.heap[k]?
theorem Beside.refl (base rb : Nat) (w : World) : Beside base rb w w := ⟨rfl, rfl, rfl, Nat.le_refl _, fun _ _ _ => rfl⟩
theorem Beside.trans (h : Beside base rb w w1) (h2 : Beside base rb w1 w2) : Beside base rb w w2 := ⟨h2.os.trans h.os, h2.tape.trans h.tape, h2.output.trans h.output, Nat.le_trans h.size h2.size, fun k hk hn => (h2.block k hk hn).trans (h.block k hk hn)⟩
theorem Beside.of_grown (h : w.grownBy w' (some rb)) (hb : base ≤ w.heap.size) : Beside base rb w w' := ⟨h.os, h.tape, h.output, h.size, fun k hk hn => h.block k (by omega) (by intro e; injection e with e; exact hn e)⟩
theorem Beside.grow (h : Beside base rb w w1) (hg : w1.grownBy w2 row) (hb : base ≤ w.heap.size) (hr : ∀ k, row = some k → base ≤ k ∨ k = rb) : Beside base rb w w2 :=
  h.trans ⟨hg.os, hg.tape, hg.output, hg.size, fun k hk hn => hg.block k (by have := h.size; omega) (fun e => by rcases hr k e.symm with h | h <;> omega)⟩
theorem Beside.set (h : Beside base rb w w1) {p : Addr} (hp : base ≤ p.block ∨ p.block = rb) (u : Value) : Beside base rb w (w1.setCell p u) :=
  h.trans ⟨rfl, rfl, rfl, by simp [World.setCell], fun k hk hn => Below.heap_setCell w1 p u k (by rcases hp with h | h <;> omega)⟩
theorem Beside.drew (h : Beside base rb w w1) : Beside base rb w w1.drew := ⟨h.os, h.tape, h.output, h.size, h.block⟩

theorem al_cell {q : Addr} {u : Value} {x : Obj} (h : w.cell? q = some u) : (w.alloc x).cell? q = some u :=
  (((Below.refl w.heap.size w).alloc (Nat.le_refl _) x).cell (World.block_lt_of_cell? w q h)).trans h
/-- What a line's reading leaves: a panic with ErrSyntax, or the program, the place, how long, whether it is over, the words that are left. -/
abbrev Out := Option (Prog × Int × Int × Bool × List Wd)
/-- 'append(s, x)' to a row that is being built, x laid in a new block: at a step of a region that draws. -/
theorem step_grow {P : Program} {ops : Array Oper} {o : Oper} {w0 : World} {K : Go.Act → World → Prop} {Q : Exit → Go.Act → World → Prop} {E : Prop} {b : Go.Act} (hg : o.guard = none) (s x : Operand) (t : TypeId)
    (hop : o.op = Op.call { callee := Callee.builtin Builtin.append, args := #[s, x], argTypes := #[t, t] })
    (base : Nat) (e : TypeId) (i : TypeInfo) (z : Value) (size bytes : Nat) (ht : P.underlying t = some (.slice e)) (hi : P.info? e = some i) (hz : i.zero = some z)
    (hsize : i.size = size) (hby : i.bytes = bytes) (hzs : z.cells.size = size) (hsz : 0 < size) (hbb : bytes ≤ 65536)
    (r : Rec) (hre : r.t = e) (hrs : r.size = size) (hs : b.eval s = r.v) (hown : r.on w0 base)
    (news : List Value) (k : Nat) (hk : k = w0.heap.size) (hx : b.eval x = .slice (some ⟨k, 0, none⟩) 1 1) (hl : news.length = size) (h1 : ∀ u ∈ news, u.oneCell' = true)
    (hN : r.n < 1073741824) (hbase : base ≤ w0.heap.size)
    (hK : ∀ g cap w', Grew (w0.alloc (.cells news.toArray e)) w' base r (.slice (some ⟨g, 0, none⟩) (r.n + 1) cap) news → K (b.put o.dst (.slice (some ⟨g, 0, none⟩) (r.n + 1) cap)) w') :
    if Region.wanted o (yielded ops b.tmps) = true then Oper.wp P o b (w0.alloc (.cells news.toArray e)) K Q else E := by
  subst hk hre hrs
  have hb2 : (r.n + 1) * bytes ≤ 140737488355328 := by
    have : (r.n + 1) * bytes ≤ 1073741824 * 65536 := Nat.mul_le_mul (by omega) hbb
    omega
  have e1 : ∀ j, (⟨w0.heap.size, 0, none⟩ : Addr).add j = ⟨w0.heap.size, j, none⟩ := fun j => by unfold Addr.add; split <;> simp_all
  refine step_append_lies (w0.alloc (.cells news.toArray r.t)) hg s x t hop base r.t i z r.size bytes ht hi hz hsize hby hzs hsz r.v r.n r.cs hs (World.ownsRow.alloc hown _) ⟨w0.heap.size, 0, none⟩ 1 1 news hx (by omega) (fun j u hu => by rw [e1, (Own.made w0 r.t news).cell]; exact hu) h1 (by omega) (by unfold maxLen; omega) hb2 (by simp; omega) (w0.heap.size + 1) (by simp) fun g cap w' o1 o2 o3 _ => hK g cap w' ⟨o1, o2, ?_⟩
  rcases o3 with o3 | o3
  · left; rw [o3]; rfl
  · right; intro k hk; simp [Value.ownBlock] at hk; simp; omega
theorem wpList_grows {P : Program} {ops : Array Oper} {rest : List Oper} {o : Oper} {w0 : World} {Q : Exit → Go.Act → World → Prop} {b : Go.Act} (hg : o.guard = none) (s x : Operand) (t : TypeId)
    (hop : o.op = Op.call { callee := Callee.builtin Builtin.append, args := #[s, x], argTypes := #[t, t] })
    (base : Nat) (e : TypeId) (i : TypeInfo) (z : Value) (size bytes : Nat) (ht : P.underlying t = some (.slice e)) (hi : P.info? e = some i) (hz : i.zero = some z)
    (hsize : i.size = size) (hby : i.bytes = bytes) (hzs : z.cells.size = size) (hsz : 0 < size) (hbb : bytes ≤ 65536)
    (r : Rec) (hre : r.t = e) (hrs : r.size = size) (hs : b.eval s = r.v) (hown : r.on w0 base)
    (news : List Value) (k : Nat) (hk : k = w0.heap.size) (hx : b.eval x = .slice (some ⟨k, 0, none⟩) 1 1) (hl : news.length = size) (h1 : ∀ u ∈ news, u.oneCell' = true)
    (hN : r.n < 1073741824) (hbase : base ≤ w0.heap.size)
    (hK : ∀ g cap w', Grew (w0.alloc (.cells news.toArray e)) w' base r (.slice (some ⟨g, 0, none⟩) (r.n + 1) cap) news → wpList P ops Q rest (b.put o.dst (.slice (some ⟨g, 0, none⟩) (r.n + 1) cap)) w') :
    wpList P ops Q (o :: rest) b (w0.alloc (.cells news.toArray e)) := by
  subst hk hre hrs
  have hb2 : (r.n + 1) * bytes ≤ 140737488355328 := by
    have : (r.n + 1) * bytes ≤ 1073741824 * 65536 := Nat.mul_le_mul (by omega) hbb
    omega
  have e1 : ∀ j, (⟨w0.heap.size, 0, none⟩ : Addr).add j = ⟨w0.heap.size, j, none⟩ := fun j => by unfold Addr.add; split <;> simp_all
  refine wpList_append_lies (w0.alloc (.cells news.toArray r.t)) hg s x t hop base r.t i z r.size bytes ht hi hz hsize hby hzs hsz r.v r.n r.cs hs (World.ownsRow.alloc hown _) ⟨w0.heap.size, 0, none⟩ 1 1 news hx (by omega) (fun j u hu => by rw [e1, (Own.made w0 r.t news).cell]; exact hu) h1 (by omega) (by unfold maxLen; omega) hb2 (by simp; omega) (w0.heap.size + 1) (by simp) fun g cap w' o1 o2 o3 _ => hK g cap w' ⟨o1, o2, ?_⟩
  rcases o3 with o3 | o3
  · left; rw [o3]; rfl
  · right; intro k hk; simp [Value.ownBlock] at hk; simp; omega

/-! ### closing a line's walk -/
theorem gr_undrew (h : w.drew.grownBy w' row) : w.grownBy w' row := ⟨h.os, h.tape, h.output, h.size, h.block⟩
theorem Ws.beside (h : Ws lo hi w v l) (hb : Beside base rb w w') (hl : hi ≤ rb) (hm : rb < base) : Ws lo hi w' v l := h.same fun k hk => hb.block k (by omega) (by omega)
theorem rb_set (h : Build w base a D p N) (hm : rb < base) (j : Nat) (u : Value) : Build (w.setCell ⟨rb, j, none⟩ u) base a D p N := h.same fun k hk _ => Below.heap_setCell w _ u k (show k ≠ rb by omega)
theorem rb_grown (h : Build w base a D p N) (hm : rb < base) (hg : w.grownBy w' (some rb)) : Build w' base a D p N := h.same fun k hk hlt => hg.block k hlt (by intro e; injection e with e; omega)
theorem al_build (h : Build w base a D p N) (o : Obj) : Build (w.alloc o) base a D p N := h.same fun _ _ hlt => heap_alloc_old w o hlt
end Go.Proofs.YtikfncgdjnljiaaDoor.Rd5

/-
  Package syntax: lastFunc, lastBlock, lastInstr, lengthen.
-/
namespace Go.Proofs.YtikfncgdjnljiaaDoor.Rd5
open Go.RowKit Api Hold Mem Syn WordM Tree

variable {w w' w1 w2 : World} {lo hi rb base N : Nat} {rc : RC} {v : Value} {l ws : List Wd} {row : Option Nat} {a : Tree.Act} {D : List Rec} {p : Prog}
/-- Only the count of draws has turned. -/
def SameH (w w' : World) : Prop := w'.heap = w.heap ∧ w'.os = w.os ∧ w'.tape = w.tape ∧ w'.output = w.output
theorem SameH.refl (w : World) : SameH w w := ⟨rfl, rfl, rfl, rfl⟩
theorem SameH.trans (h : SameH w w1) (h2 : SameH w1 w2) : SameH w w2 := ⟨h2.1.trans h.1, h2.2.1.trans h.2.1, h2.2.2.1.trans h.2.2.1, h2.2.2.2.trans h.2.2.2⟩
theorem SameH.grown (h : SameH w w') (row : Option Nat) : w.grownBy w' row := ⟨h.2.1, h.2.2.1, h.2.2.2, by rw [h.1]; exact Nat.le_refl _, fun k _ _ => by rw [h.1]⟩
theorem SameH.drew (h : SameH w w') : SameH w w'.drew := ⟨h.1, h.2.1, h.2.2.1, h.2.2.2⟩
theorem SameH.drewN (w : World) (n : Nat) : SameH w (w.drewN n) := ⟨rfl, rfl, rfl, rfl⟩
theorem SameH.cell (h : SameH w w') {q : Addr} {u : Value} (hc : w.cell? q = some u) : w'.cell? q = some u := (World.cell?_of_block (by rw [h.1])).trans hc
theorem SameH.thaw (h : SameH w w') {q : Addr} {u : Bool} (hc : w.frozen? q = u) : w'.frozen? q = u := (World.frozen?_of_block (by rw [h.1])).trans hc

/-- The last thing of a row that has some: where it lies. -/
theorem row_at {r : Rec} {n : Nat} (h : r.on w base) (hn : r.n = n) (h0 : n ≠ 0) : ∃ m g cap, n = m + 1 ∧ r.v = .slice (some ⟨g, 0, none⟩) (m + 1) cap ∧ base ≤ g ∧ g < w.heap.size ∧ (∀ j u, r.cs[j]? = some u → w.cell? ⟨g, j, none⟩ = some u) ∧ (∀ j, w.frozen? ⟨g, j, none⟩ = false) ∧ n ≤ 9223372036854775807 := by
  obtain ⟨g, cap, cur, e, hb, hg, _, _, hm⟩ := h.at (by omega)
  refine ⟨n - 1, g, cap, by omega, by rw [e, hn]; congr 1; omega, hb, (Array.getElem?_eq_some_iff.1 hg).1, fun j u hj => h.cell e hj, fun j => h.thaw e j, by omega⟩

/-! ### where the last function, block, instruction lie -/
theorem last_of {α : Type} {l init : List α} {x z : α} (h : l = init ++ [x]) : l.getLast?.getD z = x := by rw [h]; simp
theorem ap_ne {A B : List Rec} {r x : Rec} {k : Nat} (h : Apart w base (A ++ r :: B)) (hx : x ∈ A ++ B) (hk : x.v.ownBlock = some k) : some k ≠ r.v.ownBlock := by
  rcases (ap_front h).other hx with e | e
  · rw [hk] at e; cases e
  · rw [← hk]; exact e
/-- a cell of another row than the one that has grown. -/
theorem grew_cell {t : TypeId} {cs : List Value} {r : Rec} {v' : Value} {news : List Value} {g q : Nat} {u : Value} (G : Grew (w.alloc (.cells cs.toArray t)) w' base r v' news) (hg : g < w.heap.size) (hne : some g ≠ r.v.ownBlock) (hc : w.cell? ⟨g, q, none⟩ = some u) (hz : w.frozen? ⟨g, q, none⟩ = false) :
    w'.cell? ⟨g, q, none⟩ = some u ∧ w'.frozen? ⟨g, q, none⟩ = false ∧ g < w'.heap.size := by
  have hb : w'.heap[g]? = w.heap[g]? := (G.grow.block g (by simp; omega) hne).trans (heap_alloc_old w _ hg)
  exact ⟨(World.cell?_of_block (a := ⟨g, q, none⟩) hb).trans hc, (World.frozen?_of_block (a := ⟨g, q, none⟩) hb).trans hz, by have := G.grow.size; simp at this; omega⟩
theorem grown_cell {g q : Nat} {u : Value} (hg : w.grownBy w' (some rb)) (hne : g ≠ rb) (hc : w.cell? ⟨g, q, none⟩ = some u) (hz : w.frozen? ⟨g, q, none⟩ = false) : w'.cell? ⟨g, q, none⟩ = some u ∧ w'.frozen? ⟨g, q, none⟩ = false ∧ g < w'.heap.size := by
  have hlt := World.block_lt_of_cell? w _ hc
  have hb : w'.heap[g]? = w.heap[g]? := hg.block g hlt (by intro e; injection e with e; exact hne e)
  exact ⟨(World.cell?_of_block (a := ⟨g, q, none⟩) hb).trans hc, (World.frozen?_of_block (a := ⟨g, q, none⟩) hb).trans hz, by have := hg.size; have : g < w.heap.size := hlt; omega⟩
end Go.Proofs.YtikfncgdjnljiaaDoor.Rd5

/-
  What a program that is being built in memory is behind a line inside a block: its end, a phi, an instruction, a frame, an object. No function of a program is named here.
-/
namespace Go.Proofs.YtikfncgdjnljiaaDoor.Tree
open Go.RowKit Api Hold Mem Syn

variable {w w' : World} {base : Nat} {r : Rec} {A B D R : List Rec} {a : Act} {p : Prog} {v' : Value} {news : List Value} {N : Nat}

/-! ### a block's end -/
theorem fold_set {cs0 c : List Value} (us : List (Nat × Value)) : us.foldl (fun cs q => cs.set (cs0.length + q.1) q.2) (cs0 ++ c) = cs0 ++ us.foldl (fun c q => c.set q.1 q.2) c := by
  induction us generalizing c with
  | nil => rfl
  | cons q us ih =>
    rw [List.foldl_cons, List.foldl_cons, List.set_append_right _ _ (by omega), Nat.add_sub_cancel_left]
    exact ih
theorem fold_len {c : List Value} (us : List (Nat × Value)) : (us.foldl (fun c q => c.set q.1 q.2) c).length = c.length := by
  induction us generalizing c with
  | nil => rfl
  | cons q us ih => rw [List.foldl_cons, ih, List.length_set]
/-- cells of the last one are written. -/
theorem SpineRow.alters {α : Type} {t : TypeId} {size : Nat} {P Q Q' : List Value → α → Prop} {F : Rec} {xs : List α} {f : α → α} (h : SpineRow t size P Q F xs) (hne : xs ≠ []) (us : List (Nat × Value)) (hq : ∀ c x, Q c x → Q' (us.foldl (fun c q => c.set q.1 q.2) c) (f x)) :
    SpineRow t size P Q' { F with cs := us.foldl (fun cs q => cs.set ((xs.length - 1) * size + q.1) q.2) F.cs } (Syn.last f xs) := by
  obtain ⟨h1, h2, h3, h4, h5⟩ := h
  refine ⟨h1, h2, by rw [last_length]; exact h3, by rw [last_length]; exact h4, ?_⟩
  rcases h5 with ⟨h5, _⟩ | ⟨init, x, cs0, c, rfl, e, h6, h7, h8⟩
  · exact absurd h5 hne
  · refine .inr ⟨init, f x, cs0, us.foldl (fun c q => c.set q.1 q.2) c, last_snoc f init x, ?_, h6, by rw [fold_len]; exact h7, hq _ _ h8⟩
    have h9 := h6.length
    show us.foldl _ F.cs = _
    rw [e, List.length_append, List.length_singleton, Nat.add_sub_cancel, ← h9]
    exact fold_set us
theorem Build.ends {g0 cap : Nat} {D2 : List Rec} {t : Api.Term} {u : Value} (h : Build w base a D p N) (hne : p.funcs ≠ []) (hnb : (p.funcs.getLast?.getD funcZ).blocks ≠ []) (hap : Apart w base (a.l ++ D2)) (hD : ∀ F ∈ D, F ∈ D2) (hv : a.B.v = .slice (some ⟨g0, 0, none⟩) a.B.n cap)
    (ht : IsTerm D2 [i64 t.kind, i64 t.a.kind, str t.a.s, i64 t.a.n, u, i64 t.n] t) {q : Nat} (hq : ((p.funcs.getLast?.getD funcZ).blocks.length - 1) * 9 = q) :
    Build ((((((w.setCell ⟨g0, q + 3, none⟩ (i64 t.kind)).setCell ⟨g0, q + 3 + 1, none⟩ (i64 t.a.kind)).setCell ⟨g0, q + 3 + 2, none⟩ (str t.a.s)).setCell ⟨g0, q + 3 + 3, none⟩ (i64 t.a.n)).setCell ⟨g0, q + 3 + 4, none⟩ u).setCell ⟨g0, q + 3 + 5, none⟩ (i64 t.n)) base
      { a with B := { a.B with cs := [(3, i64 t.kind), (4, i64 t.a.kind), (5, str t.a.s), (6, i64 t.a.n), (7, u), (8, i64 t.n)].foldl (fun cs x => cs.set (q + x.1) x.2) a.B.cs } } D2 { p with funcs := Syn.last (fun x => { x with blocks := Syn.last (fun b => { b with fin := t }) x.blocks }) p.funcs } N := by
  have hx := few_all h.few
  subst hq
  refine h.inBlock hne rfl rfl rfl rfl rfl rfl rfl rfl ?_ hD (few_mk hx) fun l hl e => ?_
  · have s1 := ap_store (A := [a.C, a.F, a.G, a.E, a.U, a.R, a.V]) (B := [a.H, a.K, a.M, a.O] ++ D2) (r := a.B) (q := ((p.funcs.getLast?.getD funcZ).blocks.length - 1) * 9 + 3) (u := i64 t.kind) hap hv
    have s2 := ap_store (A := [a.C, a.F, a.G, a.E, a.U, a.R, a.V]) (B := [a.H, a.K, a.M, a.O] ++ D2) (q := ((p.funcs.getLast?.getD funcZ).blocks.length - 1) * 9 + 3 + 1) (u := i64 t.a.kind) s1 hv
    have s3 := ap_store (A := [a.C, a.F, a.G, a.E, a.U, a.R, a.V]) (B := [a.H, a.K, a.M, a.O] ++ D2) (q := ((p.funcs.getLast?.getD funcZ).blocks.length - 1) * 9 + 3 + 2) (u := str t.a.s) s2 hv
    have s4 := ap_store (A := [a.C, a.F, a.G, a.E, a.U, a.R, a.V]) (B := [a.H, a.K, a.M, a.O] ++ D2) (q := ((p.funcs.getLast?.getD funcZ).blocks.length - 1) * 9 + 3 + 3) (u := i64 t.a.n) s3 hv
    have s5 := ap_store (A := [a.C, a.F, a.G, a.E, a.U, a.R, a.V]) (B := [a.H, a.K, a.M, a.O] ++ D2) (q := ((p.funcs.getLast?.getD funcZ).blocks.length - 1) * 9 + 3 + 4) (u := u) s4 hv
    exact ap_store (A := [a.C, a.F, a.G, a.E, a.U, a.R, a.V]) (B := [a.H, a.K, a.M, a.O] ++ D2) (q := ((p.funcs.getLast?.getD funcZ).blocks.length - 1) * 9 + 3 + 5) (u := i64 t.n) s5 hv
  · subst e
    refine (hl.mono (fun _ _ h => IsBlock.mono hD h) fun _ _ h => h).alters hnb [(3, i64 t.kind), (4, i64 t.a.kind), (5, str t.a.s), (6, i64 t.a.n), (7, u), (8, i64 t.n)] fun c x hqb => ?_
    obtain ⟨c2, e, h1, h2, h3⟩ := hqb
    obtain ⟨u0, e3, _⟩ := h3
    refine ⟨[i64 t.kind, i64 t.a.kind, str t.a.s, i64 t.a.n, u, i64 t.n], by rw [e, e3]; rfl, h1.mono fun _ _ h => IsPhi.mono hD h, h2.mono (fun _ _ h => IsInstr.mono hD h) fun c x hi => ?_, ht⟩
    obtain ⟨u, e, k1, k2, k3⟩ := hi
    exact ⟨u, e, k1.mono hD fun _ _ h => h, k2.mono fun _ _ h => IsFrame.mono hD h, k3.mono fun _ _ h => IsVirt.mono hD h⟩
end Go.Proofs.YtikfncgdjnljiaaDoor.Tree

/-
  Package syntax: a block's end: end, jump, branch, ret, trap.
-/
namespace Go.Proofs.YtikfncgdjnljiaaDoor.Rd5
open Go.RowKit Api Hold Mem Syn WordM Tree

variable {w w' w1 w2 : World} {lo hi rb base N : Nat} {rc : RC} {v : Value} {l ws : List Wd} {row : Option Nat} {a : Tree.Act} {D D2 : List Rec} {p : Prog}
theorem own6 {g : Nat} {t : TypeId} {u0 u1 u2 u3 u4 u5 : Value} (o : Own w g t [u0, u1, u2, u3, u4, u5]) : w.cell? ⟨g, 0, none⟩ = some u0 ∧ w.cell? ⟨g, 1, none⟩ = some u1 ∧ w.cell? ⟨g, 2, none⟩ = some u2 ∧ w.cell? ⟨g, 3, none⟩ = some u3 ∧ w.cell? ⟨g, 4, none⟩ = some u4 ∧ w.cell? ⟨g, 5, none⟩ = some u5 :=
  ⟨o.cell 0, o.cell 1, o.cell 2, o.cell 3, o.cell 4, o.cell 5⟩
theorem node_form {α : Type} {t : TypeId} {size : Nat} {P : List Value → α → Prop} {v : Value} {xs : List α} (h : Tree.Node D t size P v xs) (hA : ∀ F ∈ D, F.on w base) : ∃ A n c, v = .slice A n c := by
  rcases h with ⟨rfl, _⟩ | ⟨F, hF, rfl, _⟩
  · exact ⟨_, _, _, rfl⟩
  · obtain ⟨A, c, e⟩ := (hA F hF).form
    exact ⟨A, _, c, e⟩
def finP (p : Prog) (t : Api.Term) : Prog := { p with funcs := Syn.last (fun x => { x with blocks := Syn.last (fun b => { b with fin := t }) x.blocks }) p.funcs }
def endD (p : Prog) (pl lg : Int) (ov : Bool) (t : Api.Term) (ws : List Wd) : Out := if stB pl 480 = false then none else some (finP p t, 512, lg, ov, ws)

theorem add_row {F : Rec} (h : Build w base a D p N) (hw : ∀ k, base ≤ k → k < w.heap.size → w'.heap[k]? = w.heap[k]?) (hF : F.on w' base) (hk : ∀ k, F.v.ownBlock = some k → w.heap.size ≤ k) : Apart w' base (a.l ++ (F :: D)) :=
  (h.same hw).own hF fun x hx => by
    cases hv : F.v.ownBlock with
    | none => exact .inl rfl
    | some k =>
      right
      intro e
      have h1 := hk k hv
      have h2 := ((h.ap.1 x hx).lt e.symm).2
      omega
abbrev FitB (p : Prog) (pl : Int) : Prop := stB pl 480 = true → p.funcs ≠ [] ∧ (p.funcs.getLast?.getD funcZ).blocks ≠ []

def jumpD (p : Prog) (pl lg : Int) (ov : Bool) (ws : List Wd) : Out := match takeName ws with | none => none | some (x, l) => endD p pl lg ov ⟨1, argZ, [x], 0⟩ l
def retD (p : Prog) (pl lg : Int) (ov : Bool) (ws : List Wd) : Out := match takeArg ws with | none => none | some (x, l) => endD p pl lg ov ⟨3, x, [], 0⟩ l
def trapD (p : Prog) (pl lg : Int) (ov : Bool) (ws : List Wd) : Out := match takeNum ws with | none => none | some (n, l) => endD p pl lg ov ⟨4, argZ, [], n⟩ l
def branchD (p : Prog) (pl lg : Int) (ov : Bool) (ws : List Wd) : Out := match takeArg ws with
  | none => none
  | some (x, l) => match takeName l with
    | none => none
    | some (y, l) => match takeName l with
      | none => none
      | some (z, l) => endD p pl lg ov ⟨2, x, [y, z], 0⟩ l
theorem jumpD_none {pl lg : Int} {ov : Bool} (h : takeName ws = none) : jumpD p pl lg ov ws = none := by unfold jumpD; rw [h]
theorem retD_none {pl lg : Int} {ov : Bool} (h : takeArg ws = none) : retD p pl lg ov ws = none := by unfold retD; rw [h]
theorem trapD_none {pl lg : Int} {ov : Bool} (h : takeNum ws = none) : trapD p pl lg ov ws = none := by unfold trapD; rw [h]
theorem branchD_none {pl lg : Int} {ov : Bool} (h : takeArg ws = none) : branchD p pl lg ov ws = none := by unfold branchD; rw [h]
theorem nil_term (k : Int) (x : Arg) (n : Int) : IsTerm D [i64 k, i64 x.kind, str x.s, i64 x.n, .slice none 0 0, i64 n] ⟨k, x, [], n⟩ := ⟨_, rfl, .inl ⟨rfl, rfl⟩⟩

theorem flat_one {α β : Type} (f : α → β) (xs : List α) : xs.flatMap (fun x => [f x]) = xs.map f := by
  induction xs with
  | nil => rfl
  | cons a l ih => rw [List.flatMap_cons, ih]; rfl
/-- a row of texts just laid, among D. -/
theorem texts_row (h : Build w base a D p N) (hb : base ≤ w.heap.size) (xs : List Wd) (hx : xs.length ≤ 1000) : Apart (w.alloc (.cells (xs.map str).toArray 9)) base (a.l ++ ((⟨9, 1, .slice (some ⟨w.heap.size, 0, none⟩) xs.length xs.length, xs.length, xs.map str⟩ : Rec) :: D)) ∧
    ∀ k x n, IsTerm ((⟨9, 1, .slice (some ⟨w.heap.size, 0, none⟩) xs.length xs.length, xs.length, xs.map str⟩ : Rec) :: D) [i64 k, i64 x.kind, str x.s, i64 x.n, .slice (some ⟨w.heap.size, 0, none⟩) xs.length xs.length, i64 n] ⟨k, x, xs, n⟩ := by
  have hF : Rec.on (w.alloc (.cells (xs.map str).toArray 9)) base ⟨9, 1, .slice (some ⟨w.heap.size, 0, none⟩) xs.length xs.length, xs.length, xs.map str⟩ := by
    have ho : Own (w.alloc (.cells (xs.map str).toArray 9)) w.heap.size 9 (xs.map str) := Own.made w 9 (xs.map str)
    exact ho.row hb (Nat.le_refl _) (by unfold maxLen; omega) (by simp) (by rw [List.take_of_length_le (by simp)])
  refine ⟨add_row h (fun k _ hk => heap_alloc_old w _ hk) hF (fun k hk => by simp [Value.ownBlock] at hk; omega), fun k x n => ⟨_, rfl, .inr ⟨_, List.mem_cons_self, rfl, rfl, rfl, rfl, by show xs.length ≤ _; omega, ?_⟩⟩⟩
  have := Cells.flat (size := 1) (f := fun x : Wd => [str x]) (fun _ => rfl) xs
  rw [flat_one] at this
  exact this
theorem branchD_2 {pl lg : Int} {ov : Bool} {x : Arg} (h : takeArg ws = some (x, l)) (h2 : takeName l = none) : branchD p pl lg ov ws = none := by unfold branchD; rw [h]; simp only; rw [h2]
theorem branchD_3 {pl lg : Int} {ov : Bool} {x : Arg} {y : Wd} {l2 : List Wd} (h : takeArg ws = some (x, l)) (h2 : takeName l = some (y, l2)) (h3 : takeName l2 = none) : branchD p pl lg ov ws = none := by unfold branchD; rw [h]; simp only; rw [h2]; simp only; rw [h3]
theorem branchD_4 {pl lg : Int} {ov : Bool} {x : Arg} {y z : Wd} {l2 l3 : List Wd} (h : takeArg ws = some (x, l)) (h2 : takeName l = some (y, l2)) (h3 : takeName l2 = some (z, l3)) : branchD p pl lg ov ws = endD p pl lg ov ⟨2, x, [y, z], 0⟩ l3 := by unfold branchD; rw [h]; simp only; rw [h2]; simp only; rw [h3]
abbrev oA (ak an : Int) (as_ : Wd) : Obj := .cells #[i64 ak, str as_, i64 an] 32
end Go.Proofs.YtikfncgdjnljiaaDoor.Rd5

/-
  Package syntax: a line's thing that is being made in a variable of the call's own, while words are taken: L the variable, T its row that grows.
-/
namespace Go.Proofs.YtikfncgdjnljiaaDoor.Rd5
open Go.RowKit Api Hold Mem Syn WordM Tree

variable {w w' w1 w2 : World} {lo hi rb base N : Nat} {rc : RC} {v : Value} {l ws : List Wd} {row : Option Nat} {a : Tree.Act} {D D2 : List Rec} {p : Prog} {L T : Rec}
abbrev lrec (t : TypeId) (size lb : Nat) (cs : List Value) : Rec := ⟨t, size, .slice (some ⟨lb, 0, none⟩) 1 1, 1, cs⟩
theorem loc_sub (h : Apart w base (a.l ++ (L :: T :: D))) : Apart w base (a.l ++ D) := h.sub (List.Sublist.append (List.Sublist.refl _) ((List.sublist_cons_self _ _).trans (List.sublist_cons_self _ _)))
theorem loc_sub1 (h : Apart w base (a.l ++ (L :: T :: D))) : Apart w base (a.l ++ (T :: D)) := h.sub (List.Sublist.append (List.Sublist.refl _) (List.sublist_cons_self _ _))
/-- All words, taken one thing behind the other. -/
def takeAll {β : Type} (take : List Wd → Option (β × List Wd)) : Nat → List Wd → Option (List β)
  | _, [] => some []
  | 0, _ :: _ => none
  | n + 1, x :: l => match take (x :: l) with | none => none | some (y, l) => (takeAll take n l).map (y :: ·)
/-- how many words are left. -/
def restLen (rb : Nat) (w : World) : Nat := match w.cell? ⟨rb, 8, none⟩ with | some (.slice _ n _) => n | _ => 0
/-- 'append' at a step of a region that draws, where the element was laid before anything else in it. -/
theorem step_grow_d {P : Program} {ops : Array Oper} {o : Oper} {w0 : World} {K : Go.Act → World → Prop} {Q : Exit → Go.Act → World → Prop} {E : Prop} {b : Go.Act} (hg : o.guard = none) (s x : Operand) (t : TypeId)
    (hop : o.op = Op.call { callee := Callee.builtin Builtin.append, args := #[s, x], argTypes := #[t, t] })
    (base : Nat) (e : TypeId) (i : TypeInfo) (z : Value) (size bytes : Nat) (ht : P.underlying t = some (.slice e)) (hi : P.info? e = some i) (hz : i.zero = some z)
    (hsize : i.size = size) (hby : i.bytes = bytes) (hzs : z.cells.size = size) (hsz : 0 < size) (hbb : bytes ≤ 65536)
    (r : Rec) (hre : r.t = e) (hrs : r.size = size) (hs : b.eval s = r.v) (hown : r.on w0.drew base)
    (news : List Value) (k : Nat) (hk : k = w0.heap.size) (hx : b.eval x = .slice (some ⟨k, 0, none⟩) 1 1) (hl : news.length = size) (h1 : ∀ u ∈ news, u.oneCell' = true)
    (hN : r.n < 1073741824) (hbase : base ≤ w0.heap.size)
    (hK : ∀ g cap w', Grew (w0.drew.alloc (.cells news.toArray e)) w' base r (.slice (some ⟨g, 0, none⟩) (r.n + 1) cap) news → K (b.put o.dst (.slice (some ⟨g, 0, none⟩) (r.n + 1) cap)) w') :
    if Region.wanted o (yielded ops b.tmps) = true then Oper.wp P o b (w0.alloc (.cells news.toArray e)).drew K Q else E :=
  step_grow (w0 := w0.drew) hg s x t hop base e i z size bytes ht hi hz hsize hby hzs hsz hbb r hre hrs hs hown news k hk hx hl h1 hN hbase hK
theorem row_val {r : Rec} {n : Nat} (h : r.on w base) (hn : r.n = n) : ∃ A c, r.v = .slice A n c := by
  obtain ⟨A, c, e⟩ := h.form
  exact ⟨A, c, by rw [e, hn]⟩
theorem SameH.beside (h : SameH w w') : Beside base rb w w' := ⟨h.2.1, h.2.2.1, h.2.2.2, by rw [h.1]; exact Nat.le_refl _, fun k _ _ => by rw [h.1]⟩
end Go.Proofs.YtikfncgdjnljiaaDoor.Rd5

/-
  What a program that is being built in memory is behind a phi, an instruction, a frame, an object. No function of a program is named here.
-/
namespace Go.Proofs.YtikfncgdjnljiaaDoor.Tree
open Go.RowKit Api Hold Mem Syn

variable {w w' : World} {base : Nat} {r : Rec} {A B D D2 R : List Rec} {a : Act} {p : Prog} {v' : Value} {news : List Value} {N : Nat}
def inB (p : Prog) (f : Api.Block → Api.Block) : Prog := { p with funcs := Syn.last (fun x => { x with blocks := Syn.last f x.blocks }) p.funcs }
abbrev lastB (p : Prog) : List Api.Block := (p.funcs.getLast?.getD funcZ).blocks
abbrev theB (p : Prog) : Api.Block := (lastB p).getLast?.getD blockZ
theorem QInstr.mono {c : List Value} {x : Instr} (hD : ∀ F ∈ D, F ∈ D2) (h : QInstr a D c x) : QInstr a D2 c x := by
  obtain ⟨u, e, k1, k2, k3⟩ := h
  exact ⟨u, e, k1.mono hD fun _ _ h => h, k2.mono fun _ _ h => IsFrame.mono hD h, k3.mono fun _ _ h => IsVirt.mono hD h⟩

theorem Build.phi {g0 cap : Nat} {c : List Value} {x : Phi} (h : Build w base a D p N) (hne : p.funcs ≠ []) (hnb : lastB p ≠ []) (hap : Apart w base (a.l ++ D2)) (hD : ∀ F ∈ D, F ∈ D2) (hc : IsPhi D2 c x) (hc2 : c.length = 2) (g : Grew w w' base a.H v' c) (hv : a.B.v = .slice (some ⟨g0, 0, none⟩) a.B.n cap) (hN : N < 1073741824) :
    Build (w'.setCell ⟨g0, ((lastB p).length - 1) * 9 + 1, none⟩ v') base { a with H := grew a.H v' c, B := put a.B (((lastB p).length - 1) * 9 + 1) v' } D2 (inB p fun b => { b with phis := b.phis ++ [x] }) (N + 1) := by
  have hf := few_sub h.few
  have hx := few_all h.few
  refine h.inBlock hne rfl rfl rfl rfl rfl rfl rfl rfl ?_ hD (few_mk ?_) fun l hl e => ?_
  · have h1 := ap_grow (A := [a.C, a.F, a.G, a.E, a.U, a.R, a.V, a.B]) (B := [a.K, a.M, a.O] ++ D2) hap g
    exact ap_store (A := [a.C, a.F, a.G, a.E, a.U, a.R, a.V]) (B := [grew a.H v' c, a.K, a.M, a.O] ++ D2) (r := a.B) (q := ((lastB p).length - 1) * 9 + 1) (u := v') h1 hv
  · simp only
    omega
  · subst e
    refine (hl.mono (fun _ _ h => IsBlock.mono hD h) fun _ _ h => h).alter hnb fun c0 y _ hq => ?_
    obtain ⟨c2, e, h1, h2, h3⟩ := hq
    have hn := h1.2.2.1
    exact ⟨c2, by rw [e]; rfl, (h1.mono fun _ _ h => IsPhi.mono hD h).push (by omega) hc2 hc v', h2.mono (fun _ _ h => IsInstr.mono hD h) fun _ _ h => QInstr.mono hD h, IsTerm.mono hD h3⟩
theorem Build.instr {g0 cap : Nat} {u : Value} {op : Int} {dst name : Wd} {args : List Arg} (h : Build w base a D p N) (hne : p.funcs ≠ []) (hnb : lastB p ≠ []) (hap : Apart w base (a.l ++ D2)) (hD : ∀ F ∈ D, F ∈ D2) (hu : Args D2 u args) (g : Grew w w' base a.K v' [i64 op, str dst, str name, u, .slice none 0 0, .slice none 0 0]) (hv : a.B.v = .slice (some ⟨g0, 0, none⟩) a.B.n cap) (hN : N < 1073741824) :
    Build (w'.setCell ⟨g0, ((lastB p).length - 1) * 9 + 2, none⟩ v') base { a with K := grew a.K v' [i64 op, str dst, str name, u, .slice none 0 0, .slice none 0 0], B := put a.B (((lastB p).length - 1) * 9 + 2) v', M := .empty 153 4, O := .empty 157 2 } (a.O :: a.M :: D2) (inB p fun b => { b with code := b.code ++ [⟨op, dst, name, args, [], []⟩] }) (N + 1) := by
  have hf := few_sub h.few
  have hx := few_all h.few
  have hD3 : ∀ F ∈ D2, F ∈ a.O :: a.M :: D2 := fun F hF => by simp [hF]
  have hD4 : ∀ F ∈ D, F ∈ a.O :: a.M :: D2 := fun F hF => hD3 F (hD F hF)
  refine h.inBlock hne rfl rfl rfl rfl rfl rfl rfl rfl ?_ hD4 (few_mk ?_) fun l hl e => ?_
  · have h1 := ap_grow (A := [a.C, a.F, a.G, a.E, a.U, a.R, a.V, a.B, a.H]) (B := [a.M, a.O] ++ D2) hap g
    have h2 := ap_store (A := [a.C, a.F, a.G, a.E, a.U, a.R, a.V]) (B := [a.H, grew a.K v' [i64 op, str dst, str name, u, .slice none 0 0, .slice none 0 0], a.M, a.O] ++ D2) (r := a.B) (q := ((lastB p).length - 1) * 9 + 2) (u := v') h1 hv
    have h7 := ap_retire (A := [a.C, a.F, a.G, a.E, a.U, a.R, a.V, put a.B (((lastB p).length - 1) * 9 + 2) v', a.H, grew a.K v' [i64 op, str dst, str name, u, .slice none 0 0, .slice none 0 0]]) (r := a.M) (B := [a.O]) (D := D2) 153 4 h2
    exact ap_retire (A := [a.C, a.F, a.G, a.E, a.U, a.R, a.V, put a.B (((lastB p).length - 1) * 9 + 2) v', a.H, grew a.K v' [i64 op, str dst, str name, u, .slice none 0 0, .slice none 0 0], .empty 153 4]) (r := a.O) (B := []) (D := a.M :: D2) 157 2 h7
  · simp only [Rec.empty]
    omega
  · subst e
    refine (hl.mono (fun _ _ h => IsBlock.mono hD4 h) fun _ _ h => h).alter hnb fun c0 y _ hq => ?_
    obtain ⟨c2, e, h1, h2, h3⟩ := hq
    have hn := h2.2.2.1
    exact ⟨c2, by rw [e]; rfl, h1.mono fun _ _ h => IsPhi.mono hD4 h, h2.push (by omega) (fun _ _ h => IsInstr.mono hD4 h) (fun _ _ h => h.done hD4 (by simp) (by simp)) rfl ⟨u, rfl, hu.mono hD3 fun _ _ h => h, .none _ _ _, .none _ _ _⟩ v', IsTerm.mono hD4 h3⟩
theorem Build.frame {g0 cap : Nat} {c : List Value} {x : Api.Frame} (h : Build w base a D p N) (hne : p.funcs ≠ []) (hnb : lastB p ≠ []) (hnc : (theB p).code ≠ []) (hap : Apart w base (a.l ++ D2)) (hD : ∀ F ∈ D, F ∈ D2) (hc : IsFrame D2 c x) (hc2 : c.length = 4) (g : Grew w w' base a.M v' c) (hv : a.K.v = .slice (some ⟨g0, 0, none⟩) a.K.n cap) (hN : N < 1073741824) :
    Build (w'.setCell ⟨g0, ((theB p).code.length - 1) * 6 + 4, none⟩ v') base { a with M := grew a.M v' c, K := put a.K (((theB p).code.length - 1) * 6 + 4) v' } D2 (inB p fun b => { b with code := Syn.last (fun i => { i with frames := i.frames ++ [x] }) b.code }) (N + 1) := by
  have hf := few_sub h.few
  have hx := few_all h.few
  refine h.inBlock hne rfl rfl rfl rfl rfl rfl rfl rfl ?_ hD (few_mk ?_) fun l hl e => ?_
  · have h1 := ap_grow (A := [a.C, a.F, a.G, a.E, a.U, a.R, a.V, a.B, a.H, a.K]) (B := [a.O] ++ D2) hap g
    exact ap_store (A := [a.C, a.F, a.G, a.E, a.U, a.R, a.V, a.B, a.H]) (B := [grew a.M v' c, a.O] ++ D2) (r := a.K) (q := ((theB p).code.length - 1) * 6 + 4) (u := v') h1 hv
  · simp only
    omega
  · subst e
    obtain ⟨h1, h2, h3, h4, h5⟩ := hl
    refine ⟨h1, h2, by rw [last_length]; exact h3, by rw [last_length]; exact h4, ?_⟩
    rcases h5 with ⟨h5, _⟩ | ⟨init, b, cs0, c0, e0, e, h6, h7, h8⟩
    · exact absurd h5 hnb
    · refine .inr ⟨init, _, cs0, c0, by rw [e0]; exact last_snoc _ init b, e, h6.mono fun _ _ h => IsBlock.mono hD h, h7, ?_⟩
      have hb : theB p = b := by show (lastB p).getLast?.getD blockZ = b; unfold lastB; rw [e0]; simp
      obtain ⟨c2, e, k1, k2, k3⟩ := h8
      refine ⟨c2, e, k1.mono fun _ _ h => IsPhi.mono hD h, ?_, IsTerm.mono hD k3⟩
      rw [hb]
      rw [hb] at hnc
      refine (k2.mono (fun _ _ h => IsInstr.mono hD h) fun _ _ h => h).alter hnc fun ci y _ hq => ?_
      obtain ⟨u, e, q1, q2, q3⟩ := hq
      have hn := q2.2.2.1
      exact ⟨u, by rw [e]; rfl, q1.mono hD fun _ _ h => h, (q2.mono fun _ _ h => IsFrame.mono hD h).push (by omega) hc2 hc v', q3.mono fun _ _ h => IsVirt.mono hD h⟩
theorem Build.obj {g0 cap : Nat} {c : List Value} {x : Virt} (h : Build w base a D p N) (hne : p.funcs ≠ []) (hnb : lastB p ≠ []) (hnc : (theB p).code ≠ []) (hap : Apart w base (a.l ++ D2)) (hD : ∀ F ∈ D, F ∈ D2) (hc : IsVirt D2 c x) (hc2 : c.length = 2) (g : Grew w w' base a.O v' c) (hv : a.K.v = .slice (some ⟨g0, 0, none⟩) a.K.n cap) (hN : N < 1073741824) :
    Build (w'.setCell ⟨g0, ((theB p).code.length - 1) * 6 + 5, none⟩ v') base { a with O := grew a.O v' c, K := put a.K (((theB p).code.length - 1) * 6 + 5) v' } D2 (inB p fun b => { b with code := Syn.last (fun i => { i with objs := i.objs ++ [x] }) b.code }) (N + 1) := by
  have hf := few_sub h.few
  have hx := few_all h.few
  refine h.inBlock hne rfl rfl rfl rfl rfl rfl rfl rfl ?_ hD (few_mk ?_) fun l hl e => ?_
  · have h1 := ap_grow (A := [a.C, a.F, a.G, a.E, a.U, a.R, a.V, a.B, a.H, a.K, a.M]) (B := D2) hap g
    exact ap_store (A := [a.C, a.F, a.G, a.E, a.U, a.R, a.V, a.B, a.H]) (B := [a.M, grew a.O v' c] ++ D2) (r := a.K) (q := ((theB p).code.length - 1) * 6 + 5) (u := v') h1 hv
  · simp only
    omega
  · subst e
    obtain ⟨h1, h2, h3, h4, h5⟩ := hl
    refine ⟨h1, h2, by rw [last_length]; exact h3, by rw [last_length]; exact h4, ?_⟩
    rcases h5 with ⟨h5, _⟩ | ⟨init, b, cs0, c0, e0, e, h6, h7, h8⟩
    · exact absurd h5 hnb
    · refine .inr ⟨init, _, cs0, c0, by rw [e0]; exact last_snoc _ init b, e, h6.mono fun _ _ h => IsBlock.mono hD h, h7, ?_⟩
      have hb : theB p = b := by show (lastB p).getLast?.getD blockZ = b; unfold lastB; rw [e0]; simp
      obtain ⟨c2, e, k1, k2, k3⟩ := h8
      refine ⟨c2, e, k1.mono fun _ _ h => IsPhi.mono hD h, ?_, IsTerm.mono hD k3⟩
      rw [hb]
      rw [hb] at hnc
      refine (k2.mono (fun _ _ h => IsInstr.mono hD h) fun _ _ h => h).alter hnc fun ci y _ hq => ?_
      obtain ⟨u, e, q1, q2, q3⟩ := hq
      have hn := q3.2.2.1
      exact ⟨u, by rw [e]; rfl, q1.mono hD fun _ _ h => h, q2.mono fun _ _ h => IsFrame.mono hD h, (q3.mono fun _ _ h => IsVirt.mono hD h).push (by omega) hc2 hc v'⟩
end Go.Proofs.YtikfncgdjnljiaaDoor.Tree

/-
  Package syntax: an object of a state.
-/
namespace Go.Proofs.YtikfncgdjnljiaaDoor.Rd5
open Go.RowKit Api Hold Mem Syn WordM Tree

variable {w w' w1 w2 : World} {lo hi rb base N : Nat} {rc : RC} {v : Value} {l ws : List Wd} {row : Option Nat} {a : Tree.Act} {D D2 : List Rec} {p : Prog} {L T : Rec}
theorem arg_info : (Tryd.prog.info? 32).map (fun i => (i.zero, i.size, i.bytes)) = some (some (.agg #[.int .i64 0, .string ⟨#[]⟩, .int .i64 0]), 3, 32) := by kernel_rfl
theorem virt_info : (Tryd.prog.info? 157).map (fun i => (i.zero, i.size, i.bytes)) = some (some (.agg #[.string ⟨#[]⟩, .slice none 0 0]), 2, 40) := by kernel_rfl
theorem ones_arg (k n : Int) (x : Wd) : ∀ u ∈ [i64 k, str x, i64 n], u.oneCell' = true := by
  intro u hu
  simp only [List.mem_cons, List.not_mem_nil, or_false] at hu
  rcases hu with rfl | rfl | rfl <;> rfl
theorem ones_virt (x : Wd) (A : Option Addr) (n c : Nat) : ∀ u ∈ [str x, .slice A n c], u.oneCell' = true := by
  intro u hu
  simp only [List.mem_cons, List.not_mem_nil, or_false] at hu
  rcases hu with rfl | rfl <;> rfl
abbrev theI (p : Prog) : Api.Instr := (theB p).code.getLast?.getD instrZ
def objP (p : Prog) (y : Virt) : Prog := inB p fun b => { b with code := Syn.last (fun i => { i with objs := i.objs ++ [y] }) b.code }
def objD (p : Prog) (pl lg : Int) (ov : Bool) (ws : List Wd) : Out :=
  if stB pl 384 = false then none else match takeName ws with
  | none => none
  | some (x, l) => match takeAll takeVal l.length l with
    | none => none
    | some vs => if 8 < vs.length then none else some (objP p ⟨x, vs⟩, 256, lg, ov || decide ((99 : Int) < (((theI p).objs.length + 1 : Nat) : Int)), [])
theorem objD_no {pl lg : Int} {ov : Bool} (h : stB pl 384 = false) : objD p pl lg ov ws = none := by unfold objD; rw [if_pos h]
theorem objD_none {pl lg : Int} {ov : Bool} (h : takeName ws = none) : objD p pl lg ov ws = none := by
  unfold objD
  rw [h]
  split <;> rfl
theorem objD_2 {pl lg : Int} {ov : Bool} {x : Wd} (h : takeName ws = some (x, l)) (h2 : takeAll takeVal l.length l = none) : objD p pl lg ov ws = none := by
  unfold objD
  rw [h]
  simp only
  rw [h2]
  split <;> rfl
theorem objD_3 {pl lg : Int} {ov : Bool} {x : Wd} {vs : List Arg} (h : takeName ws = some (x, l)) (h2 : takeAll takeVal l.length l = some vs) (h3 : 8 < vs.length) : objD p pl lg ov ws = none := by
  unfold objD
  rw [h]
  simp only
  rw [h2]
  simp only
  rw [if_pos h3]
  split <;> rfl
theorem objD_4 {pl lg : Int} {ov : Bool} {x : Wd} {vs : List Arg} (h0 : stB pl 384 = true) (h : takeName ws = some (x, l)) (h2 : takeAll takeVal l.length l = some vs) (h3 : ¬ 8 < vs.length) : objD p pl lg ov ws = some (objP p ⟨x, vs⟩, 256, lg, ov || decide ((99 : Int) < (((theI p).objs.length + 1 : Nat) : Int)), []) := by
  unfold objD
  rw [if_neg (by rw [h0]; simp), h]
  simp only
  rw [h2]
  simp only
  rw [if_neg h3]
theorem takeVal_less {y : Arg} (h : takeVal ws = some (y, l)) : l.length + 1 = ws.length := by
  cases ws with
  | nil => cases h
  | cons x m =>
    simp only [takeVal] at h
    split at h
    · simp at h; simp [h.2]
    · cases h
theorem takeName_less {y : Wd} (h : takeName ws = some (y, l)) : l.length + 1 = ws.length := by
  cases ws with
  | nil => cases h
  | cons x m =>
    simp only [takeName] at h
    split at h
    · simp at h; simp [h.2]
    · cases h
/-- The loop that takes all that is left. -/
structure All {β : Type} (take : List Wd → Option (β × List Wd)) (l ls : List Wd) (vs : List β) : Prop where
  eq : ∃ n, ls.length ≤ n ∧ takeAll take l.length l = (takeAll take n ls).map (vs ++ ·)
  len : vs.length + ls.length ≤ l.length
theorem All.start {β : Type} (take : List Wd → Option (β × List Wd)) (l : List Wd) : All take l l [] := ⟨⟨l.length, Nat.le_refl _, by simp⟩, by simp⟩
theorem All.bad {β : Type} {take : List Wd → Option (β × List Wd)} {l ls : List Wd} {vs : List β} (h : All take l ls vs) (hne : ls ≠ []) (h2 : take ls = none) : takeAll take l.length l = none := by
  obtain ⟨n, hn, e⟩ := h.eq
  rw [e]
  cases ls with
  | nil => exact absurd rfl hne
  | cons x m =>
    cases n with
    | zero => rfl
    | succ n => simp only [takeAll]; rw [h2]; rfl
theorem All.step {β : Type} {take : List Wd → Option (β × List Wd)} {l ls l2 : List Wd} {vs : List β} {y : β} (h : All take l ls vs) (h2 : take ls = some (y, l2)) (h3 : l2.length < ls.length) : All take l l2 (vs ++ [y]) := by
  obtain ⟨n, hn, e⟩ := h.eq
  have hl := h.len
  cases ls with
  | nil => simp at h3
  | cons x m =>
    cases n with
    | zero => simp at hn
    | succ n =>
      refine ⟨⟨n, by simp at hn h3 ⊢; omega, ?_⟩, by simp only [List.length_append, List.length_singleton]; omega⟩
      rw [e]
      simp only [takeAll]
      rw [h2]
      simp only [Option.map_map]
      congr 1
      funext z
      simp
theorem All.done {β : Type} {take : List Wd → Option (β × List Wd)} {l : List Wd} {vs : List β} (h : All take l [] vs) : takeAll take l.length l = some vs := by
  obtain ⟨n, _, e⟩ := h.eq
  rw [e]
  cases n <;> simp [takeAll]

end Go.Proofs.YtikfncgdjnljiaaDoor.Rd5

/-
  Package syntax: a phi.
-/
namespace Go.Proofs.YtikfncgdjnljiaaDoor.Rd5
open Go.RowKit Api Hold Mem Syn WordM Tree

variable {w w' w1 w2 : World} {lo hi rb base N : Nat} {rc : RC} {v : Value} {l ws : List Wd} {row : Option Nat} {a : Tree.Act} {D D2 : List Rec} {p : Prog} {L T : Rec}
theorem in_info : (Tryd.prog.info? 125).map (fun i => (i.zero, i.size, i.bytes)) = some (some (.agg #[.string ⟨#[]⟩, .int .i64 0, .string ⟨#[]⟩, .int .i64 0]), 4, 48) := by kernel_rfl
theorem phi_info : (Tryd.prog.info? 123).map (fun i => (i.zero, i.size, i.bytes)) = some (some (.agg #[.string ⟨#[]⟩, .slice none 0 0]), 2, 40) := by kernel_rfl
theorem ones_in (k n : Int) (x y : Wd) : ∀ u ∈ [str x, i64 k, str y, i64 n], u.oneCell' = true := by
  intro u hu
  simp only [List.mem_cons, List.not_mem_nil, or_false] at hu
  rcases hu with rfl | rfl | rfl | rfl <;> rfl
def phiP (p : Prog) (y : Phi) : Prog := inB p fun b => { b with phis := b.phis ++ [y] }
def phiD (p : Prog) (pl lg : Int) (ov : Bool) (ws : List Wd) : Out :=
  if stB pl 32 = false then none else match takeName ws with
  | none => none
  | some (x, l) => match takeIn l with
    | none => none
    | some (y, l) => match takeAll takeIn l.length l with
      | none => none
      | some vs => some (phiP p ⟨x, y :: vs⟩, pl, lg + 1, (ov || decide ((256 : Int) < ((y :: vs).length : Int))) || decide (1024 < lg + 1), [])
theorem phiD_no {pl lg : Int} {ov : Bool} (h : stB pl 32 = false) : phiD p pl lg ov ws = none := by unfold phiD; rw [if_pos h]
theorem phiD_none {pl lg : Int} {ov : Bool} (h : takeName ws = none) : phiD p pl lg ov ws = none := by
  unfold phiD
  rw [h]
  split <;> rfl
theorem phiD_1 {pl lg : Int} {ov : Bool} {x : Wd} (h : takeName ws = some (x, l)) (h1 : takeIn l = none) : phiD p pl lg ov ws = none := by
  unfold phiD
  rw [h]
  simp only
  rw [h1]
  split <;> rfl
theorem phiD_2 {pl lg : Int} {ov : Bool} {x : Wd} {y : Bind} {l2 : List Wd} (h : takeName ws = some (x, l)) (h1 : takeIn l = some (y, l2)) (h2 : takeAll takeIn l2.length l2 = none) : phiD p pl lg ov ws = none := by
  unfold phiD
  rw [h]
  simp only
  rw [h1]
  simp only
  rw [h2]
  split <;> rfl
theorem phiD_4 {pl lg : Int} {ov : Bool} {x : Wd} {y : Bind} {l2 : List Wd} {vs : List Bind} (h0 : stB pl 32 = true) (h : takeName ws = some (x, l)) (h1 : takeIn l = some (y, l2)) (h2 : takeAll takeIn l2.length l2 = some vs) : phiD p pl lg ov ws = some (phiP p ⟨x, y :: vs⟩, pl, lg + 1, (ov || decide ((256 : Int) < ((y :: vs).length : Int))) || decide (1024 < lg + 1), []) := by
  unfold phiD
  rw [if_neg (by rw [h0]; simp), h]
  simp only
  rw [h1]
  simp only
  rw [h2]
theorem takeArg_less {y : Arg} (h : takeArg ws = some (y, l)) : l.length + 1 = ws.length := by
  unfold takeArg at h
  cases hv : takeVal ws with
  | none => rw [hv] at h; cases h
  | some q =>
    obtain ⟨q1, q2⟩ := q
    rw [hv] at h
    simp only at h
    split at h
    · cases h
    · simp at h
      rw [← h.2]
      exact takeVal_less hv
theorem takeIn_less {y : Bind} (h : takeIn ws = some (y, l)) : l.length + 2 = ws.length := by
  unfold takeIn at h
  cases hn : takeName ws with
  | none => rw [hn] at h; cases h
  | some q =>
    obtain ⟨q1, q2⟩ := q
    rw [hn] at h
    simp only at h
    cases ha : takeArg q2 with
    | none => rw [ha] at h; cases h
    | some q =>
      obtain ⟨q3, q4⟩ := q
      rw [ha] at h
      simp at h
      have h1 := takeName_less hn
      have h2 := takeArg_less ha
      rw [← h.2]
      omega
end Go.Proofs.YtikfncgdjnljiaaDoor.Rd5
