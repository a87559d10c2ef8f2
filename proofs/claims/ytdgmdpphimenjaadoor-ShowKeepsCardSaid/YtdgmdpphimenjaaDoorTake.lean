/-
  Package syntax: name, kind, declared, number, count, value, argument, in; stands, limit.
-/
import Derived.Test.YtdgmdpphimenjaaDoorRdr
namespace Go.Proofs.YtdgmdpphimenjaaDoor.Rd5
open Go.RowKit Api Hold Mem Syn WordM

variable {w w' w1 w2 : World} {lo hi rb base : Nat} {rc : RC} {v : Value} {l ws : List Wd} {row : Option Nat}
theorem gr_refl (w : World) (row : Option Nat) : w.grownBy w row := ⟨rfl, rfl, rfl, Nat.le_refl _, fun _ _ _ => rfl⟩
theorem gr_alloc (h : w.grownBy w1 row) (o : Obj) : w.grownBy (w1.alloc o) row := h.trans (World.grownBy_alloc w1 o row)
theorem gr_below {B : Nat} (h : w.grownBy w1 row) (hB : w.heap.size ≤ B) (hb : Below B w1 w2) : w.grownBy w2 row :=
  ⟨hb.os.trans h.os, hb.tape.trans h.tape, hb.output.trans h.output, Nat.le_trans h.size hb.size, fun k hk hne => (hb.block k (by omega)).trans (h.block k hk hne)⟩
theorem gr_set (h : w.grownBy w1 row) {a : Addr} (ha : w.heap.size ≤ a.block) (u : Value) : w.grownBy (w1.setCell a u) row :=
  ⟨h.os, h.tape, h.output, by have := h.size; simpa [World.setCell] using this, fun k hk hne => (Below.heap_setCell w1 a u k (by omega)).trans (h.block k hk hne)⟩
theorem gr_set_row (h : w.grownBy w1 (some rb)) {a : Addr} (ha : a.block = rb) (u : Value) : w.grownBy (w1.setCell a u) (some rb) :=
  ⟨h.os, h.tape, h.output, by have := h.size; simpa [World.setCell] using this, fun k hk hne => (Below.heap_setCell w1 a u k (by subst ha; intro e; exact hne (by rw [e]))).trans (h.block k hk hne)⟩
theorem gr_drew (h : w.grownBy w1 row) : w.grownBy w1.drew row := ⟨h.os, h.tape, h.output, h.size, h.block⟩
theorem gr_any (h : w.grownBy w1 none) : w.grownBy w1 row := ⟨h.os, h.tape, h.output, h.size, fun k hk _ => h.block k hk (by simp)⟩
theorem Ws.same (h : Ws lo hi w v l) (hk : ∀ k, k < hi → w'.heap[k]? = w.heap[k]?) : Ws lo hi w' v l := h.move fun k _ => hk k

theorem wname_at (x : Wd) (b : Bool) (h : nameV x = b) (w : World) : Calls Tryd.prog 52 #[str x] w fun e w' => e = .returned (.bool b) ∧ w = w' := by
  rw [← h]; exact name_any ⟨x.toArray⟩ w
def takeName : List Wd → Option (Wd × List Wd) | x :: l => if nameV x = true then some (x, l) else none | [] => none
def takeKind : List Wd → Option (Wd × List Wd) | x :: l => if kindV x = true then some (x, l) else none | [] => none
def takeNum : List Wd → Option (Int × List Wd) | x :: l => if (NumM.getV x).2 = true then some ((NumM.getV x).1, l) else none | [] => none
def takeCount (m : Int) (ws : List Wd) : Option (Int × List Wd) := match takeNum ws with | some (n, l) => if n < 0 ∨ m < n then none else some (n, l) | none => none
def takeVal : List Wd → Option (Arg × List Wd) | x :: l => if (argV x).2 = true then some ((argV x).1, l) else none | [] => none
def takeArg (ws : List Wd) : Option (Arg × List Wd) := match takeVal ws with | some (a, l) => if a.kind = 5 then none else some (a, l) | none => none
def takeVar (ws : List Wd) : Option (Var × List Wd) := match takeName ws with | some (n, l) => (match takeKind l with | some (k, l) => some (⟨n, k⟩, l) | none => none) | none => none
def takeIn (ws : List Wd) : Option (Bind × List Wd) := match takeName ws with | some (n, l) => (match takeArg l with | some (a, l) => some (⟨n, a⟩, l) | none => none) | none => none

abbrev ptr (rb : Nat) : Value := .pointer (some ⟨rb, 0, none⟩)
theorem eq_lit5 {s : ByteArray} {x c : Wd} (hs : s.data.toList = x) : (s.toList == c) = (x == c) := by rw [ByteArray.toList_eq, hs]
theorem alloc_ws (h : Ws lo hi w v l) (hh : hi ≤ w.heap.size) (o : Obj) : Ws lo hi (w.alloc o) v l := h.same fun k hk => Below.heap_alloc w o k (by omega)
abbrev agA (a : Arg) : Value := .agg #[i64 a.kind, str a.s, i64 a.n]
abbrev zA : Obj := .cells #[i64 0, str [], i64 0] 44
theorem results_cell {fn : Func} {p : Tmp} {ty : TypeId} (h : fn.results = #[.cell p ty]) (tmps : Array Value) (P : Program) (w : World) :
    (results fn tmps).run P w = ((asAddr (tmps.getD p undef)).run P w).andThen fun a w₁ => (loadVar ty a).run P w₁ := by
  simp only [results, h]
  simp [Sem.run_bind, Result.andThen]
/-- a block laid ahead of a call that takes words, and of one that only makes memory. -/
theorem gr_made {o : Obj} (h : (w.alloc o).grownBy w1 row) : w.grownBy w1 row := (World.grownBy_alloc w o row).trans h
theorem made_size {o : Obj} (h : (w.alloc o).grownBy w1 row) : w.heap.size ≤ w1.heap.size := by have := h.size; simp at this; omega
theorem made_own {t : TypeId} {cs : List Value} (hr : rb < w.heap.size) (h : (w.alloc (.cells cs.toArray t)).grownBy w1 (some rb)) : Own w1 w.heap.size t cs :=
  (h.block w.heap.size (by simp) (by intro e; injection e with e; omega)).trans (Own.made w t cs)
theorem made_over {t : TypeId} {cs : List Value} (hr : rb < w.heap.size) (h : (w.alloc (.cells cs.toArray t)).grownBy w1 (some rb)) (hb : Below w1.heap.size w1 w2) : Own w2 w.heap.size t cs :=
  (made_own hr h).below hb (made_own hr h).lt
theorem own2 {g : Nat} {t : TypeId} {u0 u1 : Value} (o : Own w g t [u0, u1]) : (w.cell? ⟨g, 0, none⟩ = some u0 ∧ w.cell? ⟨g, 1, none⟩ = some u1) ∧ (w.frozen? ⟨g, 0, none⟩ = false ∧ w.frozen? ⟨g, 1, none⟩ = false) ∧ g < w.heap.size :=
  ⟨⟨o.cell 0, o.cell 1⟩, ⟨o.thaw 0, o.thaw 1⟩, o.lt⟩
theorem own4 {g : Nat} {t : TypeId} {u0 u1 u2 u3 : Value} (o : Own w g t [u0, u1, u2, u3]) : (w.cell? ⟨g, 0, none⟩ = some u0 ∧ w.cell? ⟨g, 1, none⟩ = some u1 ∧ w.cell? ⟨g, 2, none⟩ = some u2 ∧ w.cell? ⟨g, 3, none⟩ = some u3) ∧ (w.frozen? ⟨g, 0, none⟩ = false ∧ w.frozen? ⟨g, 1, none⟩ = false ∧ w.frozen? ⟨g, 2, none⟩ = false ∧ w.frozen? ⟨g, 3, none⟩ = false) ∧ g < w.heap.size :=
  ⟨⟨o.cell 0, o.cell 1, o.cell 2, o.cell 3⟩, ⟨o.thaw 0, o.thaw 1, o.thaw 2, o.thaw 3⟩, o.lt⟩
theorem own_twice {t : TypeId} {cs : List Value} (hr : rb < w.heap.size) (h : (w.alloc (.cells cs.toArray t)).grownBy w1 (some rb)) (h2 : w1.grownBy w2 (some rb)) : Own w2 w.heap.size t cs :=
  made_own hr (h.trans h2)
abbrev zV : Obj := .cells #[str [], str []] 82
abbrev zI : Obj := .cells #[str [], i64 0, str [], i64 0] 65
abbrev agV (x : Var) : Value := .agg #[str x.name, str x.type]
abbrev agB (x : Bind) : Value := .agg #[str x.name, i64 x.a.kind, str x.a.s, i64 x.a.n]
end Go.Proofs.YtdgmdpphimenjaaDoor.Rd5
