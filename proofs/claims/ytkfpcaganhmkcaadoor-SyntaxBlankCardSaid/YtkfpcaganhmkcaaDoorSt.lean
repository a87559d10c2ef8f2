/-
  Package syntax: the reader as it stands between two words; stands, limit; an append to a row that is being built.
-/
import Derived.Test.YtkfpcaganhmkcaaDoorTake
import Derived.Deep.AppendLies
import Derived.Deep.RegionLaw
import Derived.Deep.QuietTactic
import Derived.BigQuiet
namespace Go.Proofs.YtkfpcaganhmkcaaDoor.Rd5
open Go.RowKit Api Hold Mem Syn WordM Tree

variable {w w' w1 w2 : World} {lo hi rb base N : Nat} {rc : RC} {v : Value} {l ws : List Wd} {row : Option Nat} {a : Tree.Act} {D : List Rec} {p : Prog}

/-- May a line stand here? -/
def stB (pl at_ : Int) : Bool := !(bits BinOp.and IntKind.i64 pl at_ == 0)
theorem stands_any (at_ : Int) (hO : OwnR w rb rc) : Calls Tryd.prog 59 #[ptr rb, i64 at_] w fun e w' => e = (if stB rc.place at_ = true then .returned (.tuple #[]) else .panicked (chain 3)) ∧ w = w' := by
  have f5 := hO.cell 5
  simp only [RC.l, List.getElem?_cons_succ, List.getElem?_cons_zero] at f5
  clear hO
  rcases Bool.eq_false_or_eq_true (bits BinOp.and IntKind.i64 rc.place at_ == 0) with h | h
  · have e : stB rc.place at_ = false := by unfold stB; rw [h]; rfl
    rw [e]
    simp only [Bool.false_eq_true, if_false]
    clear e
    go_enter Tryd.func59, Tryd.ntmps59
    go_wp2_with (go_at_call 98; (with_reducible refine (refuse_any _ _).mono ?_); rintro e w3 ⟨rfl, rfl⟩)
    exact ⟨rfl, rfl, rfl⟩
  · have e : stB rc.place at_ = true := by unfold stB; rw [h]; rfl
    rw [e]
    simp only [if_true]
    clear e
    go_enter Tryd.func59, Tryd.ntmps59
    go_wp2
    go_end0
    exact ⟨rfl, rfl⟩
theorem stands_yes {at_ : Int} (hO : OwnR w rb rc) (h : stB rc.place at_ = true) : Calls Tryd.prog 59 #[ptr rb, i64 at_] w fun e w' => e = .returned (.tuple #[]) ∧ w = w' := by
  have := stands_any at_ hO
  rw [if_pos h] at this
  exact this
theorem stands_no {at_ : Int} (hO : OwnR w rb rc) (h : stB rc.place at_ = false) : Calls Tryd.prog 59 #[ptr rb, i64 at_] w fun e w' => e = .panicked (chain 3) ∧ w = w' := by
  have := stands_any at_ hO
  rw [if_neg (by rw [h]; simp)] at this
  exact this
/-- What limit leaves: over, if there are more. -/
def LimR (rb : Nat) (rc : RC) (n m : Int) (w : World) (e : Ending) (w' : World) : Prop := e = .returned (.tuple #[]) ∧ OwnR w' rb { rc with over := rc.over || decide (m < n) } ∧ w.grownBy w' (some rb) ∧ w'.heap.size = w.heap.size
theorem limit_any (n m : Int) (hO : OwnR w rb rc) : Calls Tryd.prog 119 #[ptr rb, i64 n, i64 m] w (LimR rb rc n m w) := by
  have f9 := hO.cell 9
  have z9 := hO.thaw 9
  have hlt := hO.lt
  simp only [RC.l, List.getElem?_cons_succ, List.getElem?_cons_zero] at f9
  have HO := Lib.hid hO
  clear hO
  by_cases h : m < n
  · have e0 : decide (m < n) = true := decide_eq_true h
    have HE := Lib.hid e0
    clear h
    go_enter Tryd.func119, Tryd.ntmps119
    go_wp2
    go_end0
    refine ⟨rfl, ?_, gr_set_row (gr_refl _ _) rfl _, by simp [World.setCell]⟩
    rw [HE.out, Bool.or_true]
    exact HO.out.store 9 (.bool true)
  · have e0 : decide (m < n) = false := decide_eq_false h
    have HE := Lib.hid e0
    clear h
    go_enter Tryd.func119, Tryd.ntmps119
    go_wp2
    go_end0
    refine ⟨rfl, ?_, gr_refl _ _, rfl⟩
    rw [HE.out, Bool.or_false]
    exact HO.out

/-- Below base all is as it was, but for the reader. -/
structure Beside (base rb : Nat) (w w' : World) : Prop where
  os : w'.os = w.os
  tape : w'.tape = w.tape
  output : w'.output = w.output
  size : w.heap.size ≤ w'.heap.size
  block : ∀ k, k < base → k ≠ rb → w'.heap[k]? = w.heap[k]?
theorem Beside.refl (base rb : Nat) (w : World) : Beside base rb w w := ⟨rfl, rfl, rfl, Nat.le_refl _, fun _ _ _ => rfl⟩
theorem Beside.trans (h : Beside base rb w w1) (h2 : Beside base rb w1 w2) : Beside base rb w w2 := ⟨h2.os.trans h.os, h2.tape.trans h.tape, h2.output.trans h.output, Nat.le_trans h.size h2.size, fun k hk hn => (h2.block k hk hn).trans (h.block k hk hn)⟩
theorem Beside.of_grown (h : w.grownBy w' (some rb)) (hb : base ≤ w.heap.size) : Beside base rb w w' := ⟨h.os, h.tape, h.output, h.size, fun k hk hn => h.block k (by omega) (by intro e; injection e with e; exact hn e)⟩
theorem Beside.grow (h : Beside base rb w w1) (hg : w1.grownBy w2 row) (hb : base ≤ w.heap.size) (hr : ∀ k, row = some k → base ≤ k ∨ k = rb) : Beside base rb w w2 :=
  h.trans ⟨hg.os, hg.tape, hg.output, hg.size, fun k hk hn => hg.block k (by have := h.size; omega) (fun e => by rcases hr k e.symm with h | h <;> omega)⟩
theorem Beside.set (h : Beside base rb w w1) {p : Addr} (hp : base ≤ p.block ∨ p.block = rb) (u : Value) : Beside base rb w (w1.setCell p u) :=
  h.trans ⟨rfl, rfl, rfl, by simp [World.setCell], fun k hk hn => Below.heap_setCell w1 p u k (by rcases hp with h | h <;> omega)⟩
theorem Beside.drew (h : Beside base rb w w1) : Beside base rb w w1.drew := ⟨h.os, h.tape, h.output, h.size, h.block⟩

/-- The reader: its cells, the program that has been read, the words that are left. -/
structure St (w : World) (base rb lo hi : Nat) (rc : RC) (a : Tree.Act) (D : List Rec) (p : Prog) (N : Nat) (ws : List Wd) : Prop where
  own : OwnR w rb rc
  bld : Build w base a D p N
  ssa : rc.ssa = .bool p.ssa
  c : rc.c = a.C.v
  g : rc.g = a.G.v
  e : rc.e = a.E.v
  u : rc.u = a.U.v
  wds : Ws lo hi w rc.rest ws
  low : hi ≤ rb
  mid : rb < base
  high : base ≤ w.heap.size
theorem St.cells (h : St w base rb lo hi rc a D p N ws) : w.cell? ⟨rb, 0, none⟩ = some (.bool p.ssa) ∧ w.cell? ⟨rb, 1, none⟩ = some a.C.v ∧ w.cell? ⟨rb, 2, none⟩ = some a.G.v ∧ w.cell? ⟨rb, 3, none⟩ = some a.E.v ∧ w.cell? ⟨rb, 4, none⟩ = some a.U.v ∧ w.cell? ⟨rb, 5, none⟩ = some (i64 rc.place) ∧ w.cell? ⟨rb, 6, none⟩ = some (i64 rc.long) ∧ w.cell? ⟨rb, 7, none⟩ = some rc.first ∧ w.cell? ⟨rb, 8, none⟩ = some rc.rest ∧ w.cell? ⟨rb, 9, none⟩ = some (.bool rc.over) := by
  rw [← h.ssa, ← h.c, ← h.g, ← h.e, ← h.u]
  exact ⟨h.own.cell 0, h.own.cell 1, h.own.cell 2, h.own.cell 3, h.own.cell 4, h.own.cell 5, h.own.cell 6, h.own.cell 7, h.own.cell 8, h.own.cell 9⟩
theorem al_cell {q : Addr} {u : Value} {x : Obj} (h : w.cell? q = some u) : (w.alloc x).cell? q = some u :=
  (((Below.refl w.heap.size w).alloc (Nat.le_refl _) x).cell (World.block_lt_of_cell? w q h)).trans h
theorem St.on (h : St w base rb lo hi rc a D p N ws) {r : Rec} (hr : r ∈ a.l) : r.on w base := h.bld.ap.1 r (List.mem_append_left _ hr)
theorem St.drew (h : St w base rb lo hi rc a D p N ws) : St w.drew base rb lo hi rc a D p N ws := ⟨h.own, h.bld.same fun _ _ _ => rfl, h.ssa, h.c, h.g, h.e, h.u, h.wds.same fun _ _ => rfl, h.low, h.mid, h.high⟩
theorem St.took (h : St w base rb lo hi rc a D p N ws) (hT : OwnR w' rb { rc with rest := v }) (hW : Ws lo hi w' v l) (hg : w.grownBy w' (some rb)) : St w' base rb lo hi { rc with rest := v } a D p N l :=
  ⟨hT, h.bld.same fun k hk hlt => hg.block k hlt (by have := h.mid; intro e; injection e with e; omega), h.ssa, h.c, h.g, h.e, h.u, hW, h.low, h.mid, Nat.le_trans h.high hg.size⟩
theorem St.keep {rc' : RC} (h : St w base rb lo hi rc a D p N ws) (hO : OwnR w' rb rc') (hg : w.grownBy w' (some rb)) (h1 : rc'.ssa = rc.ssa) (h2 : rc'.c = rc.c) (h3 : rc'.g = rc.g) (h4 : rc'.e = rc.e) (h5 : rc'.u = rc.u) (h6 : rc'.rest = rc.rest) : St w' base rb lo hi rc' a D p N ws :=
  ⟨hO, h.bld.same fun k hk hlt => hg.block k hlt (by have := h.mid; intro e; injection e with e; omega), h1.trans h.ssa, h2.trans h.c, h3.trans h.g, h4.trans h.e, h5.trans h.u, by
    rw [h6]
    exact h.wds.same fun k hk => hg.block k (by have := h.low; have := h.mid; have := h.high; omega) (by have := h.low; intro e; injection e with e; omega), h.low, h.mid, Nat.le_trans h.high hg.size⟩
theorem St.more (h : St w base rb lo hi rc a D p N ws) (M : Nat) (hN : N ≤ M) : St w base rb lo hi rc a D p M ws := ⟨h.own, h.bld.more hN, h.ssa, h.c, h.g, h.e, h.u, h.wds, h.low, h.mid, h.high⟩

/-- What a line's reading leaves: a panic with ErrSyntax, or the program, the place, how long, whether it is over, the words that are left. -/
abbrev Out := Option (Prog × Int × Int × Bool × List Wd)
def Meth (base rb lo hi N : Nat) (first : Value) (w : World) (out : Out) (e : Ending) (w' : World) : Prop :=
  Beside base rb w w' ∧ match out with
  | none => e = .panicked (chain 3)
  | some (p, pl, lg, ov, ws) => e = .returned (.tuple #[]) ∧ ∃ rc a D, St w' base rb lo hi rc a D p N ws ∧ rc.place = pl ∧ rc.long = lg ∧ rc.over = ov ∧ rc.first = first

/-- 'append(s, x)' to a row that is being built, x laid in a new block: at a step of a region that draws. -/
theorem step_grow {P : Program} {ops : Array Oper} {o : Oper} {w0 : World} {K : Go.Act → World → Prop} {Q : Exit → Go.Act → World → Prop} {E : Prop} {b : Go.Act} (hg : o.guard = none) (s x : Operand) (t : TypeId)
    (hop : o.op = Op.call { callee := Callee.builtin Builtin.append, args := #[s, x], argTypes := #[t, t] })
    (base : Nat) (e : TypeId) (i : TypeInfo) (z : Value) (size bytes : Nat) (ht : P.underlying t = some (.slice e)) (hi : P.info? e = some i) (hz : i.zero = some z)
    (hsize : i.size = size) (hby : i.bytes = bytes) (hzs : z.cells.size = size) (hsz : 0 < size) (hbb : bytes ≤ 65536)
    (r : Rec) (hre : r.t = e) (hrs : r.size = size) (hs : b.eval s = r.v) (hown : r.on w0 base)
    (news : List Value) (k : Nat) (hk : k = w0.heap.size) (hx : b.eval x = .slice (some ⟨k, 0, none⟩) 1 1) (hl : news.length = size) (h1 : ∀ u ∈ news, u.oneCell' = true)
    (hN : r.n < 1073741824) (hbase : base ≤ w0.heap.size)
    (hK : ∀ g cap w', Grew (w0.alloc (.cells news.toArray e)) w' base r (.slice (some ⟨g, 0, none⟩) (r.n + 1) cap) news → K (b.put o.dst (.slice (some ⟨g, 0, none⟩) (r.n + 1) cap)) w') :
    if Region.wanted o (yielded ops b.tmps) = true then Oper.wp P o b (w0.alloc (.cells news.toArray e)) K Q else E := by
  subst hk hre hrs
  have hb2 : (r.n + 1) * bytes ≤ 140737488355328 := by
    have : (r.n + 1) * bytes ≤ 1073741824 * 65536 := Nat.mul_le_mul (by omega) hbb
    omega
  have e1 : ∀ j, (⟨w0.heap.size, 0, none⟩ : Addr).add j = ⟨w0.heap.size, j, none⟩ := fun j => by unfold Addr.add; split <;> simp_all
  refine step_append_lies (w0.alloc (.cells news.toArray r.t)) hg s x t hop base r.t i z r.size bytes ht hi hz hsize hby hzs hsz r.v r.n r.cs hs (World.ownsRow.alloc hown _) ⟨w0.heap.size, 0, none⟩ 1 1 news hx (by omega) (fun j u hu => by rw [e1, (Own.made w0 r.t news).cell]; exact hu) h1 (by omega) (by unfold maxLen; omega) hb2 (by simp; omega) (w0.heap.size + 1) (by simp) fun g cap w' o1 o2 o3 _ => hK g cap w' ⟨o1, o2, ?_⟩
  rcases o3 with o3 | o3
  · left; rw [o3]; rfl
  · right; intro k hk; simp [Value.ownBlock] at hk; simp; omega
theorem wpList_grows {P : Program} {ops : Array Oper} {rest : List Oper} {o : Oper} {w0 : World} {Q : Exit → Go.Act → World → Prop} {b : Go.Act} (hg : o.guard = none) (s x : Operand) (t : TypeId)
    (hop : o.op = Op.call { callee := Callee.builtin Builtin.append, args := #[s, x], argTypes := #[t, t] })
    (base : Nat) (e : TypeId) (i : TypeInfo) (z : Value) (size bytes : Nat) (ht : P.underlying t = some (.slice e)) (hi : P.info? e = some i) (hz : i.zero = some z)
    (hsize : i.size = size) (hby : i.bytes = bytes) (hzs : z.cells.size = size) (hsz : 0 < size) (hbb : bytes ≤ 65536)
    (r : Rec) (hre : r.t = e) (hrs : r.size = size) (hs : b.eval s = r.v) (hown : r.on w0 base)
    (news : List Value) (k : Nat) (hk : k = w0.heap.size) (hx : b.eval x = .slice (some ⟨k, 0, none⟩) 1 1) (hl : news.length = size) (h1 : ∀ u ∈ news, u.oneCell' = true)
    (hN : r.n < 1073741824) (hbase : base ≤ w0.heap.size)
    (hK : ∀ g cap w', Grew (w0.alloc (.cells news.toArray e)) w' base r (.slice (some ⟨g, 0, none⟩) (r.n + 1) cap) news → wpList P ops Q rest (b.put o.dst (.slice (some ⟨g, 0, none⟩) (r.n + 1) cap)) w') :
    wpList P ops Q (o :: rest) b (w0.alloc (.cells news.toArray e)) := by
  subst hk hre hrs
  have hb2 : (r.n + 1) * bytes ≤ 140737488355328 := by
    have : (r.n + 1) * bytes ≤ 1073741824 * 65536 := Nat.mul_le_mul (by omega) hbb
    omega
  have e1 : ∀ j, (⟨w0.heap.size, 0, none⟩ : Addr).add j = ⟨w0.heap.size, j, none⟩ := fun j => by unfold Addr.add; split <;> simp_all
  refine wpList_append_lies (w0.alloc (.cells news.toArray r.t)) hg s x t hop base r.t i z r.size bytes ht hi hz hsize hby hzs hsz r.v r.n r.cs hs (World.ownsRow.alloc hown _) ⟨w0.heap.size, 0, none⟩ 1 1 news hx (by omega) (fun j u hu => by rw [e1, (Own.made w0 r.t news).cell]; exact hu) h1 (by omega) (by unfold maxLen; omega) hb2 (by simp; omega) (w0.heap.size + 1) (by simp) fun g cap w' o1 o2 o3 _ => hK g cap w' ⟨o1, o2, ?_⟩
  rcases o3 with o3 | o3
  · left; rw [o3]; rfl
  · right; intro k hk; simp [Value.ownBlock] at hk; simp; omega

/-! ### closing a line's walk -/
theorem gr_undrew (h : w.drew.grownBy w' row) : w.grownBy w' row := ⟨h.os, h.tape, h.output, h.size, h.block⟩
theorem Ws.beside (h : Ws lo hi w v l) (hb : Beside base rb w w') (hl : hi ≤ rb) (hm : rb < base) : Ws lo hi w' v l := h.same fun k hk => hb.block k (by omega) (by omega)
theorem rb_set (h : Build w base a D p N) (hm : rb < base) (j : Nat) (u : Value) : Build (w.setCell ⟨rb, j, none⟩ u) base a D p N := h.same fun k hk _ => Below.heap_setCell w _ u k (show k ≠ rb by omega)
theorem rb_grown (h : Build w base a D p N) (hm : rb < base) (hg : w.grownBy w' (some rb)) : Build w' base a D p N := h.same fun k hk hlt => hg.block k hlt (by intro e; injection e with e; omega)
theorem al_build (h : Build w base a D p N) (o : Obj) : Build (w.alloc o) base a D p N := h.same fun _ _ hlt => heap_alloc_old w o hlt
theorem St.finish {rcf : RC} {a2 : Tree.Act} {D2 : List Rec} {p2 : Prog} {M : Nat} (hT : St w base rb lo hi rc a D p N ws) (hB : Beside base rb w w') (hO : OwnR w' rb rcf) (hb : Build w' base a2 D2 p2 M) (h0 : rcf.ssa = .bool p2.ssa) (h1 : rcf.c = a2.C.v) (h2 : rcf.g = a2.G.v) (h3 : rcf.e = a2.E.v) (h4 : rcf.u = a2.U.v) (h5 : rcf.rest = rc.rest) : St w' base rb lo hi rcf a2 D2 p2 M ws :=
  ⟨hO, hb, h0, h1, h2, h3, h4, by rw [h5]; exact hT.wds.beside hB hT.low hT.mid, hT.low, hT.mid, Nat.le_trans hT.high hB.size⟩
theorem Meth.ok {first : Value} {rcf : RC} {a2 : Tree.Act} {D2 : List Rec} {p2 : Prog} {M : Nat} {out : Out} {pl lg : Int} {ov : Bool} (hB : Beside base rb w w') (ho : out = some (p2, pl, lg, ov, l)) (hS : St w' base rb lo hi rcf a2 D2 p2 M l) (h1 : rcf.place = pl) (h2 : rcf.long = lg) (h3 : rcf.over = ov) (h4 : rcf.first = first) : Meth base rb lo hi M first w out (.returned (.tuple #[])) w' := by
  subst ho; exact ⟨hB, rfl, _, _, _, hS, h1, h2, h3, h4⟩
/-- words were taken, a row has grown, its value was stored into the reader, limit was asked. -/
theorem head_end {r : Rec} {v' : Value} {news : List Value} {t : TypeId} {cs : List Value} {a2 : Tree.Act} {D2 : List Rec} {p2 : Prog} {M j : Nat} {w3 : World} (hT : St w1 base rb lo hi rc a D p N l) (hg : w.grownBy w1 (some rb)) (hw : base ≤ w.heap.size) (hr : r ∈ a.l) (G : Grew (w1.alloc (.cells cs.toArray t)) w2 base r v' news)
    (hb : Build w2 base a2 D2 p2 M) (h3 : (w2.setCell ⟨rb, j, none⟩ v').grownBy w3 (some rb)) : Beside base rb w w3 ∧ Beside base rb w1 w3 ∧ Build w3 base a2 D2 p2 M := by
  have hr2 := (hT.on hr)
  have b1 : Beside base rb w1 (w1.alloc (.cells cs.toArray t)) := (Beside.refl base rb w1).grow (World.grownBy_alloc w1 _ none) hT.high (by simp)
  have b2 : Beside base rb w1 w2 := b1.grow G.grow hT.high fun _ hk => .inl (hr2.lt hk).1
  have b3 : Beside base rb w1 (w2.setCell ⟨rb, j, none⟩ v') := b2.set (p := ⟨rb, j, none⟩) (.inr rfl) v'
  have b4 : Beside base rb w1 w3 := b3.grow h3 hT.high fun _ hk => by injection hk with hk; exact .inr hk.symm
  exact ⟨(Beside.of_grown hg hw).trans b4, b4, rb_grown (rb_set hb hT.mid j v') hT.mid h3⟩
theorem own_at (h : OwnR w rb rc) (j : Nat) : w.cell? ⟨rb, j, none⟩ = rc.l[j]? ∧ w.frozen? ⟨rb, j, none⟩ = false ∧ rb < w.heap.size := ⟨h.cell j, h.thaw j, h.lt⟩
theorem own_at1 (h : OwnR w rb rc) : w.cell? ⟨rb, 1, none⟩ = some rc.c ∧ w.frozen? ⟨rb, 1, none⟩ = false ∧ rb < w.heap.size := own_at h 1
theorem own_at2 (h : OwnR w rb rc) : w.cell? ⟨rb, 2, none⟩ = some rc.g ∧ w.frozen? ⟨rb, 2, none⟩ = false ∧ rb < w.heap.size := own_at h 2
theorem own_at3 (h : OwnR w rb rc) : w.cell? ⟨rb, 3, none⟩ = some rc.e ∧ w.frozen? ⟨rb, 3, none⟩ = false ∧ rb < w.heap.size := own_at h 3
theorem own_at4 (h : OwnR w rb rc) : w.cell? ⟨rb, 4, none⟩ = some rc.u ∧ w.frozen? ⟨rb, 4, none⟩ = false ∧ rb < w.heap.size := own_at h 4
theorem own_at5 (h : OwnR w rb rc) : w.cell? ⟨rb, 5, none⟩ = some (i64 rc.place) ∧ w.frozen? ⟨rb, 5, none⟩ = false ∧ rb < w.heap.size := own_at h 5
theorem own_at6 (h : OwnR w rb rc) : w.cell? ⟨rb, 6, none⟩ = some (i64 rc.long) ∧ w.frozen? ⟨rb, 6, none⟩ = false ∧ rb < w.heap.size := own_at h 6
/-- The reader stands when a row behind it has grown. -/
theorem own_grown {t : TypeId} {cs : List Value} {r : Rec} {v' : Value} {news : List Value} (h : St w base rb lo hi rc a D p N ws) (hg : Grew (w.alloc (.cells cs.toArray t)) w' base r v' news) (hr : r ∈ a.l) : OwnR w' rb rc := by
  have hlt := h.own.lt
  refine ((hg.grow.block rb (by simp; omega) (fun e => ?_)).trans (heap_alloc_old w _ hlt)).trans h.own
  have := ((h.on hr).lt e.symm).1
  have := h.mid
  omega
theorem take_cases {β : Type} {val : β → Value} {r : Option (β × List Wd)} {e : Ending} (h : TakeR val r lo hi rb rc w e w') :
    (r = none ∧ e = .panicked (chain 3) ∧ w.grownBy w' (some rb)) ∨ ∃ y l v, r = some (y, l) ∧ e = .returned (val y) ∧ OwnR w' rb { rc with rest := v } ∧ Ws lo hi w' v l ∧ w.grownBy w' (some rb) := by
  cases r with
  | none => exact .inl ⟨rfl, h.1, h.2⟩
  | some y => obtain ⟨h1, v, h2, h3, h4⟩ := h; exact .inr ⟨y.1, y.2, v, rfl, h1, h2, h3, h4⟩
theorem Meth.bad {first : Value} {out : Out} (hb : Beside base rb w w') (ho : out = none) : Meth base rb lo hi N first w out (.panicked (chain 3)) w' := by
  subst ho; exact ⟨hb, rfl⟩
theorem st_bad {first : Value} {out : Out} (hh : Hid (St w base rb lo hi rc a D p N ws)) (hg : w.grownBy w' (some rb)) (ho : out = none) {M : Nat} : Meth base rb lo hi M first w out (.panicked (chain 3)) w' :=
  Meth.bad (Beside.of_grown hg hh.out.high) ho
end Go.Proofs.YtkfpcaganhmkcaaDoor.Rd5
