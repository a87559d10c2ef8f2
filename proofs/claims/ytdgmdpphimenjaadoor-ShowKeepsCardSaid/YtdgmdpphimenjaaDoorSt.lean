/-
  Package syntax: the reader as it stands between two words; stands, limit; an append to a row that is being built.
-/
import Derived.Test.YtdgmdpphimenjaaDoorTake
import Derived.Deep.AppendLies
import Derived.Deep.RegionLaw
import Derived.Deep.QuietTactic
import Derived.BigQuiet
namespace Go.Proofs.YtdgmdpphimenjaaDoor.Rd5
open Go.RowKit Api Hold Mem Syn WordM Tree

variable {w w' w1 w2 : World} {lo hi rb base N : Nat} {rc : RC} {v : Value} {l ws : List Wd} {row : Option Nat} {a : Tree.Act} {D : List Rec} {p : Prog}

/-- May a line stand here? -/
def stB (pl at_ : Int) : Bool := !(bits BinOp.and IntKind.i64 pl at_ == 0)
/-- Below base all is as it was, but for the reader. -/
structure Beside (base rb : Nat) (w w' : World) : Prop where
  os : w'.os = w.os
  tape : w'.tape = w.tape
  output : w'.output = w.output
  size : w.heap.size ≤ w'.heap.size
  block : ∀ k, k < base → k ≠ rb → w'.heap[k]? = w.heap[k]?
theorem Beside.refl (base rb : Nat) (w : World) : Beside base rb w w := ⟨rfl, rfl, rfl, Nat.le_refl _, fun _ _ _ => rfl⟩
theorem Beside.trans (h : Beside base rb w w1) (h2 : Beside base rb w1 w2) : Beside base rb w w2 := ⟨h2.os.trans h.os, h2.tape.trans h.tape, h2.output.trans h.output, Nat.le_trans h.size h2.size, fun k hk hn => (h2.block k hk hn).trans (h.block k hk hn)⟩
theorem Beside.of_grown (h : w.grownBy w' (some rb)) (hb : base ≤ w.heap.size) : Beside base rb w w' := ⟨h.os, h.tape, h.output, h.size, fun k hk hn => h.block k (by omega) (by intro e; injection e with e; exact hn e)⟩
theorem Beside.grow (h : Beside base rb w w1) (hg : w1.grownBy w2 row) (hb : base ≤ w.heap.size) (hr : ∀ k, row = some k → base ≤ k ∨ k = rb) : Beside base rb w w2 :=
  h.trans ⟨hg.os, hg.tape, hg.output, hg.size, fun k hk hn => hg.block k (by have := h.size; omega) (fun e => by rcases hr k e.symm with h | h <;> omega)⟩
theorem Beside.set (h : Beside base rb w w1) {p : Addr} (hp : base ≤ p.block ∨ p.block = rb) (u : Value) : Beside base rb w (w1.setCell p u) :=
  h.trans ⟨rfl, rfl, rfl, by simp [World.setCell], fun k hk hn => Below.heap_setCell w1 p u k (by rcases hp with h | h <;> omega)⟩
theorem Beside.drew (h : Beside base rb w w1) : Beside base rb w w1.drew := ⟨h.os, h.tape, h.output, h.size, h.block⟩

theorem al_cell {q : Addr} {u : Value} {x : Obj} (h : w.cell? q = some u) : (w.alloc x).cell? q = some u :=
  (((Below.refl w.heap.size w).alloc (Nat.le_refl _) x).cell (World.block_lt_of_cell? w q h)).trans h
/-- What a line's reading leaves: a panic with ErrSyntax, or the program, the place, how long, whether it is over, the words that are left. -/
abbrev Out := Option (Prog × Int × Int × Bool × List Wd)
/-- 'append(s, x)' to a row that is being built, x laid in a new block: at a step of a region that draws. -/
theorem step_grow {P : Program} {ops : Array Oper} {o : Oper} {w0 : World} {K : Go.Act → World → Prop} {Q : Exit → Go.Act → World → Prop} {E : Prop} {b : Go.Act} (hg : o.guard = none) (s x : Operand) (t : TypeId)
    (hop : o.op = Op.call { callee := Callee.builtin Builtin.append, args := #[s, x], argTypes := #[t, t] })
    (base : Nat) (e : TypeId) (i : TypeInfo) (z : Value) (size bytes : Nat) (ht : P.underlying t = some (.slice e)) (hi : P.info? e = some i) (hz : i.zero = some z)
    (hsize : i.size = size) (hby : i.bytes = bytes) (hzs : z.cells.size = size) (hsz : 0 < size) (hbb : bytes ≤ 65536)
    (r : Rec) (hre : r.t = e) (hrs : r.size = size) (hs : b.eval s = r.v) (hown : r.on w0 base)
    (news : List Value) (k : Nat) (hk : k = w0.heap.size) (hx : b.eval x = .slice (some ⟨k, 0, none⟩) 1 1) (hl : news.length = size) (h1 : ∀ u ∈ news, u.oneCell' = true)
    (hN : r.n < 1073741824) (hbase : base ≤ w0.heap.size)
    (hK : ∀ g cap w', Grew (w0.alloc (.cells news.toArray e)) w' base r (.slice (some ⟨g, 0, none⟩) (r.n + 1) cap) news → K (b.put o.dst (.slice (some ⟨g, 0, none⟩) (r.n + 1) cap)) w') :
    if Region.wanted o (yielded ops b.tmps) = true then Oper.wp P o b (w0.alloc (.cells news.toArray e)) K Q else E := by
  subst hk hre hrs
  have hb2 : (r.n + 1) * bytes ≤ 140737488355328 := by
    have : (r.n + 1) * bytes ≤ 1073741824 * 65536 := Nat.mul_le_mul (by omega) hbb
    omega
  have e1 : ∀ j, (⟨w0.heap.size, 0, none⟩ : Addr).add j = ⟨w0.heap.size, j, none⟩ := fun j => by unfold Addr.add; split <;> simp_all
  refine step_append_lies (w0.alloc (.cells news.toArray r.t)) hg s x t hop base r.t i z r.size bytes ht hi hz hsize hby hzs hsz r.v r.n r.cs hs (World.ownsRow.alloc hown _) ⟨w0.heap.size, 0, none⟩ 1 1 news hx (by omega) (fun j u hu => by rw [e1, (Own.made w0 r.t news).cell]; exact hu) h1 (by omega) (by unfold maxLen; omega) hb2 (by simp; omega) (w0.heap.size + 1) (by simp) fun g cap w' o1 o2 o3 _ => hK g cap w' ⟨o1, o2, ?_⟩
  rcases o3 with o3 | o3
  · left; rw [o3]; rfl
  · right; intro k hk; simp [Value.ownBlock] at hk; simp; omega
theorem wpList_grows {P : Program} {ops : Array Oper} {rest : List Oper} {o : Oper} {w0 : World} {Q : Exit → Go.Act → World → Prop} {b : Go.Act} (hg : o.guard = none) (s x : Operand) (t : TypeId)
    (hop : o.op = Op.call { callee := Callee.builtin Builtin.append, args := #[s, x], argTypes := #[t, t] })
    (base : Nat) (e : TypeId) (i : TypeInfo) (z : Value) (size bytes : Nat) (ht : P.underlying t = some (.slice e)) (hi : P.info? e = some i) (hz : i.zero = some z)
    (hsize : i.size = size) (hby : i.bytes = bytes) (hzs : z.cells.size = size) (hsz : 0 < size) (hbb : bytes ≤ 65536)
    (r : Rec) (hre : r.t = e) (hrs : r.size = size) (hs : b.eval s = r.v) (hown : r.on w0 base)
    (news : List Value) (k : Nat) (hk : k = w0.heap.size) (hx : b.eval x = .slice (some ⟨k, 0, none⟩) 1 1) (hl : news.length = size) (h1 : ∀ u ∈ news, u.oneCell' = true)
    (hN : r.n < 1073741824) (hbase : base ≤ w0.heap.size)
    (hK : ∀ g cap w', Grew (w0.alloc (.cells news.toArray e)) w' base r (.slice (some ⟨g, 0, none⟩) (r.n + 1) cap) news → wpList P ops Q rest (b.put o.dst (.slice (some ⟨g, 0, none⟩) (r.n + 1) cap)) w') :
    wpList P ops Q (o :: rest) b (w0.alloc (.cells news.toArray e)) := by
  subst hk hre hrs
  have hb2 : (r.n + 1) * bytes ≤ 140737488355328 := by
    have : (r.n + 1) * bytes ≤ 1073741824 * 65536 := Nat.mul_le_mul (by omega) hbb
    omega
  have e1 : ∀ j, (⟨w0.heap.size, 0, none⟩ : Addr).add j = ⟨w0.heap.size, j, none⟩ := fun j => by unfold Addr.add; split <;> simp_all
  refine wpList_append_lies (w0.alloc (.cells news.toArray r.t)) hg s x t hop base r.t i z r.size bytes ht hi hz hsize hby hzs hsz r.v r.n r.cs hs (World.ownsRow.alloc hown _) ⟨w0.heap.size, 0, none⟩ 1 1 news hx (by omega) (fun j u hu => by rw [e1, (Own.made w0 r.t news).cell]; exact hu) h1 (by omega) (by unfold maxLen; omega) hb2 (by simp; omega) (w0.heap.size + 1) (by simp) fun g cap w' o1 o2 o3 _ => hK g cap w' ⟨o1, o2, ?_⟩
  rcases o3 with o3 | o3
  · left; rw [o3]; rfl
  · right; intro k hk; simp [Value.ownBlock] at hk; simp; omega

/-! ### closing a line's walk -/
theorem gr_undrew (h : w.drew.grownBy w' row) : w.grownBy w' row := ⟨h.os, h.tape, h.output, h.size, h.block⟩
theorem Ws.beside (h : Ws lo hi w v l) (hb : Beside base rb w w') (hl : hi ≤ rb) (hm : rb < base) : Ws lo hi w' v l := h.same fun k hk => hb.block k (by omega) (by omega)
theorem rb_set (h : Build w base a D p N) (hm : rb < base) (j : Nat) (u : Value) : Build (w.setCell ⟨rb, j, none⟩ u) base a D p N := h.same fun k hk _ => Below.heap_setCell w _ u k (show k ≠ rb by omega)
theorem rb_grown (h : Build w base a D p N) (hm : rb < base) (hg : w.grownBy w' (some rb)) : Build w' base a D p N := h.same fun k hk hlt => hg.block k hlt (by intro e; injection e with e; omega)
theorem al_build (h : Build w base a D p N) (o : Obj) : Build (w.alloc o) base a D p N := h.same fun _ _ hlt => heap_alloc_old w o hlt
end Go.Proofs.YtdgmdpphimenjaaDoor.Rd5
