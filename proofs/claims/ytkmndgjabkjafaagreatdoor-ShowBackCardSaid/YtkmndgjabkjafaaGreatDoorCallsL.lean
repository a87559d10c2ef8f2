/-
  Rows of strings, and rows of lines (a number, and a row of strings), in memory: read, and owned. No program is named here.
  lines.kind, behind, lineEnd, walked.
  lines.cut and lines.Split, walked.
-/
import Derived.Test.YtkmndgjabkjafaaGreatDoorMem
import Derived.Test.YtkmndgjabkjafaaGreatDoorPlainN
import Derived.Test.YtkmndgjabkjafaaGreatDoorCallsN
import Derived.Lib.Bytealg
import Derived.Lib.Strings
import Derived.Lib.Walk
import Derived.Deep.QuietTactic
import Derived.BigQuiet
namespace Go.Proofs.YtkmndgjabkjafaaGreatDoor.LinesM
open Go.RowKit Mem

def strs (ws : List Wd) : List Value := ws.map fun x => .string ⟨x.toArray⟩
/-- A line as it lies in memory: its number, the value that its words are, and these. -/
abbrev ML := Int × Value × List Wd
def cells (xs : List ML) : List Value := xs.flatMap fun x => [.int .i64 x.1, x.2.1]
def line (x : ML) : Int × List Wd := (x.1, x.2.2)
def lns (out : List Ln) : List (Int × List Wd) := out.map fun x => ((x.1 : Int), x.2)

theorem strs_length (ws : List Wd) : (strs ws).length = ws.length := List.length_map _
theorem strs_append (a b : List Wd) : strs (a ++ b) = strs a ++ strs b := List.map_append
theorem cells_length (xs : List ML) : (cells xs).length = xs.length * 2 := by
  induction xs with
  | nil => rfl
  | cons x xs ih => simp only [cells, List.flatMap_cons, List.length_append, List.length_cons, List.length_nil] at ih ⊢; omega
theorem cells_append (xs ys : List ML) : cells (xs ++ ys) = cells xs ++ cells ys := List.flatMap_append
theorem cells_at (xs : List ML) : ∀ (i : Nat) (x : ML), xs[i]? = some x → (cells xs)[i * 2]? = some (.int .i64 x.1) ∧ (cells xs)[i * 2 + 1]? = some x.2.1 := by
  induction xs with
  | nil => intro i x h; simp at h
  | cons y xs ih =>
    intro i x h
    have e : cells (y :: xs) = .int .i64 y.1 :: y.2.1 :: cells xs := rfl
    rw [e]
    cases i with
    | zero => simp at h; subst h; exact ⟨rfl, rfl⟩
    | succ i =>
      have := ih i x (by simpa using h)
      have e1 : (i + 1) * 2 = i * 2 + 1 + 1 := by omega
      rw [e1]
      simpa using this

/-! ### reading -/
/-- v is a row of the strings ws, in blocks from lo on and below hi. -/
def Strs (lo hi : Nat) (w : World) (v : Value) (ws : List Wd) : Prop :=
  ∃ A n cap b off, v = .slice A n cap ∧ n = ws.length ∧ n ≤ 9223372036854775807 ∧ (0 < n → A = some ⟨b, off, none⟩ ∧ lo ≤ b ∧ b < hi) ∧ ∀ i x, ws[i]? = some x → w.cell? ⟨b, off + i, none⟩ = some (.string ⟨x.toArray⟩)
/-- v is a row of the lines xs. -/
def Lins (lo hi : Nat) (w : World) (v : Value) (xs : List ML) : Prop :=
  ∃ A n cap b off, v = .slice A n cap ∧ n = xs.length ∧ n ≤ 4611686018427387903 ∧ (0 < n → A = some ⟨b, off, none⟩ ∧ lo ≤ b ∧ b < hi) ∧
    ∀ i x, xs[i]? = some x → w.cell? ⟨b, off + i * 2, none⟩ = some (.int .i64 x.1) ∧ w.cell? ⟨b, off + i * 2 + 1, none⟩ = some x.2.1 ∧ Strs lo hi w x.2.1 x.2.2

variable {w w' : World} {lo hi lo' hi' : Nat} {v : Value}
theorem Strs.move {ws : List Wd} (h : Strs lo hi w v ws) (hk : ∀ k, lo ≤ k → k < hi → w'.heap[k]? = w.heap[k]?) : Strs lo hi w' v ws := by
  obtain ⟨A, n, cap, b, off, e, hn, hm, ha, hc⟩ := h
  refine ⟨A, n, cap, b, off, e, hn, hm, ha, fun i x hx => ?_⟩
  have hi : i < ws.length := (List.getElem?_eq_some_iff.1 hx).1
  obtain ⟨_, h1, h2⟩ := ha (by omega)
  exact (World.cell?_of_block (w := w) (hk b h1 h2)).trans (hc i x hx)
theorem Lins.move {xs : List ML} (h : Lins lo hi w v xs) (hk : ∀ k, lo ≤ k → k < hi → w'.heap[k]? = w.heap[k]?) : Lins lo hi w' v xs := by
  obtain ⟨A, n, cap, b, off, e, hn, hm, ha, hc⟩ := h
  refine ⟨A, n, cap, b, off, e, hn, hm, ha, fun i x hx => ?_⟩
  have hi : i < xs.length := (List.getElem?_eq_some_iff.1 hx).1
  obtain ⟨_, h1, h2⟩ := ha (by omega)
  obtain ⟨c1, c2, c3⟩ := hc i x hx
  exact ⟨(World.cell?_of_block (w := w) (hk b h1 h2)).trans c1, (World.cell?_of_block (w := w) (hk b h1 h2)).trans c2, c3.move hk⟩
theorem Strs.wide {ws : List Wd} (h : Strs lo hi w v ws) (h1 : lo' ≤ lo) (h2 : hi ≤ hi') : Strs lo' hi' w v ws := by
  obtain ⟨A, n, cap, b, off, e, hn, hm, ha, hc⟩ := h
  exact ⟨A, n, cap, b, off, e, hn, hm, fun h0 => ⟨(ha h0).1, by have := (ha h0).2; omega, by have := (ha h0).2; omega⟩, hc⟩
theorem Lins.wide {xs : List ML} (h : Lins lo hi w v xs) (h1 : lo' ≤ lo) (h2 : hi ≤ hi') : Lins lo' hi' w v xs := by
  obtain ⟨A, n, cap, b, off, e, hn, hm, ha, hc⟩ := h
  exact ⟨A, n, cap, b, off, e, hn, hm, fun h0 => ⟨(ha h0).1, by have := (ha h0).2; omega, by have := (ha h0).2; omega⟩, fun i x hx => ⟨(hc i x hx).1, (hc i x hx).2.1, (hc i x hx).2.2.wide h1 h2⟩⟩
/-- .. behind a step that turns nothing that there was. -/
theorem Lins.below {xs : List ML} (h : Lins lo hi w v xs) (hb : Below hi w w') : Lins lo hi w' v xs := h.move fun k _ hk => hb.block k hk
theorem Strs.below {ws : List Wd} (h : Strs lo hi w v ws) (hb : Below hi w w') : Strs lo hi w' v ws := h.move fun k _ hk => hb.block k hk

/-- a row of strings, of just what it reads. -/
theorem Strs.get {ws : List Wd} {A : Option Addr} {n cap : Nat} (h : Strs lo hi w (.slice A n cap) ws) : ∃ b off, n = ws.length ∧ n ≤ 9223372036854775807 ∧ (0 < n → A = some ⟨b, off, none⟩ ∧ lo ≤ b ∧ b < hi) ∧ ∀ i x, ws[i]? = some x → w.cell? ⟨b, off + i, none⟩ = some (.string ⟨x.toArray⟩) := by
  obtain ⟨A', n', cap', b, off, e, r⟩ := h
  cases e
  exact ⟨b, off, r⟩

theorem Strs.form {ws : List Wd} (h : Strs lo hi w v ws) : ∃ A cap, v = .slice A ws.length cap := by
  obtain ⟨A, n, cap, b, off, rfl, rfl, _⟩ := h
  exact ⟨A, cap, rfl⟩

/-! ### owned -/
theorem Strs.of_own {base : Nat} {e : TypeId} {n : Nat} {ws : List Wd} (h : w.ownsRow base e 1 v n (strs ws)) (hh : w.heap.size ≤ hi) : Strs base hi w v ws := by
  have hl := h.1
  rw [strs_length, Nat.mul_one] at hl
  rcases h.2 with ⟨rfl, hn⟩ | ⟨g, cap, cur, rfl, hb, hg, hnc, hcm, hcs, ht⟩
  · refine ⟨none, 0, 0, 0, 0, rfl, by omega, by omega, by omega, fun i x hx => ?_⟩
    have := (List.getElem?_eq_some_iff.1 hx).1
    omega
  · refine ⟨_, n, cap, g, 0, rfl, hl.symm, by unfold maxLen at hcm; omega, fun _ => ⟨rfl, hb, Nat.lt_of_lt_of_le (Array.getElem?_eq_some_iff.1 hg).1 hh⟩, fun i x hx => ?_⟩
    have := h.cells (g := g) rfl i (.string ⟨x.toArray⟩) (by unfold strs; rw [List.getElem?_map, hx]; rfl)
    have e : (⟨g, 0, none⟩ : Addr).add i = ⟨g, 0 + i, none⟩ := by unfold Addr.add; split <;> simp_all
    rw [e] at this
    exact this

theorem Lins.of_own {base : Nat} {e : TypeId} {n : Nat} {xs : List ML} (h : w.ownsRow base e 2 v n (cells xs)) (hn : n ≤ 4611686018427387903) (hl : lo ≤ base) (hh : w.heap.size ≤ hi) (hs : ∀ x ∈ xs, Strs lo hi w x.2.1 x.2.2) : Lins lo hi w v xs := by
  have hl2 := h.1
  rw [cells_length] at hl2
  rcases h.2 with ⟨rfl, hn⟩ | ⟨g, cap, cur, rfl, hb, hg, hnc, hcm, hcs, ht⟩
  · refine ⟨none, 0, 0, 0, 0, rfl, by omega, by omega, by omega, fun i x hx => ?_⟩
    have := (List.getElem?_eq_some_iff.1 hx).1
    omega
  · refine ⟨_, n, cap, g, 0, rfl, by omega, by omega, fun _ => ⟨rfl, by omega, Nat.lt_of_lt_of_le (Array.getElem?_eq_some_iff.1 hg).1 hh⟩, fun i x hx => ?_⟩
    obtain ⟨c1, c2⟩ := cells_at xs i x hx
    have d1 := h.cells (g := g) rfl _ _ c1
    have d2 := h.cells (g := g) rfl _ _ c2
    have e1 : ∀ j, (⟨g, 0, none⟩ : Addr).add j = ⟨g, 0 + j, none⟩ := fun j => by unfold Addr.add; split <;> simp_all
    rw [e1] at d1 d2
    exact ⟨d1, by rw [Nat.add_assoc]; exact d2, hs x (List.mem_of_getElem? hx)⟩

theorem grown_of {w w' : World} (hb : Below w.heap.size w w') (row : Option Nat) : w.grownBy w' row := ⟨hb.os, hb.tape, hb.output, hb.size, fun k hk _ => hb.block k hk⟩
theorem own_below {base : Nat} {e : TypeId} {size n : Nat} {xs : List Value} (h : w.ownsRow base e size v n xs) (hb : Below w.heap.size w w') : w'.ownsRow base e size v n xs :=
  h.kept (grown_of hb none) (by cases hv : v.ownBlock <;> simp)
theorem own_form {base : Nat} {e : TypeId} {size n : Nat} {xs : List Value} (h : w.ownsRow base e size v n xs) : ∃ A cap, v = .slice A n cap := by
  rcases h.2 with ⟨rfl, rfl⟩ | ⟨g, cap, cur, rfl, _⟩
  · exact ⟨_, _, rfl⟩
  · exact ⟨_, _, rfl⟩
theorem own_lower {base b : Nat} {e : TypeId} {size n : Nat} {xs : List Value} (h : w.ownsRow base e size v n xs) (hb : b ≤ base) : w.ownsRow b e size v n xs := by
  refine ⟨h.1, ?_⟩
  rcases h.2 with h | ⟨g, cap, cur, rfl, h1, r⟩
  · exact .inl h
  · exact .inr ⟨g, cap, cur, rfl, Nat.le_trans hb h1, r⟩
/-- rows of unlike types lie apart. -/
theorem apart {b1 b2 s1 s2 n1 n2 : Nat} {e1 e2 : TypeId} {v1 v2 : Value} {x1 x2 : List Value} (h1 : w.ownsRow b1 e1 s1 v1 n1 x1) (h2 : w.ownsRow b2 e2 s2 v2 n2 x2) (hne : e1 ≠ e2) : v1.ownBlock = none ∨ v1.ownBlock ≠ v2.ownBlock := by
  rcases h1.2 with ⟨rfl, _⟩ | ⟨g, cap, cur, rfl, _, hg, _⟩
  · left; rfl
  · rcases h2.2 with ⟨rfl, _⟩ | ⟨g2, cap2, cur2, rfl, _, hg2, _⟩
    · right; simp [Value.ownBlock]
    · right
      intro e
      simp [Value.ownBlock] at e
      subst e
      rw [hg] at hg2
      simp at hg2
      exact hne hg2.2
theorem apart_at {b1 s1 n1 : Nat} {e1 : TypeId} {v1 : Value} {x1 : List Value} (h1 : w.ownsRow b1 e1 s1 v1 n1 x1) {B : Nat} (hB : ∀ k, v.ownBlock = some k → k < B) (hb : B ≤ b1) : v.ownBlock = none ∨ v.ownBlock ≠ v1.ownBlock := by
  cases hv : v.ownBlock with
  | none => left; rfl
  | some k =>
    right
    intro e
    have := hB k hv
    have := (h1.lt k e.symm).1
    omega

/-- v is a row of lines that the call has made, from block base on, words' rows below hi. -/
def OwnLins (E Es : TypeId) (base hi : Nat) (w : World) (v : Value) (xs : List ML) : Prop :=
  w.ownsRow base E 2 v xs.length (cells xs) ∧ ∀ x ∈ xs, w.ownsRow base Es 1 x.2.1 x.2.2.length (strs x.2.2) ∧ ∀ k, x.2.1.ownBlock = some k → k < hi
variable {E Es : TypeId} {base : Nat} {xs : List ML}
theorem OwnLins.nil (E Es : TypeId) (base hi : Nat) (w : World) : OwnLins E Es base hi w (.slice none 0 0) [] := ⟨World.ownsRow_nil _ _ _ _, fun _ h => by cases h⟩
theorem OwnLins.below (h : OwnLins E Es base hi w v xs) (hb : Below w.heap.size w w') : OwnLins E Es base hi w' v xs := ⟨own_below h.1 hb, fun x hx => ⟨own_below (h.2 x hx).1 hb, (h.2 x hx).2⟩⟩
/-- .. while another row grows. -/
theorem OwnLins.kept {b s n : Nat} {e : TypeId} {u : Value} {us : List Value} (h : OwnLins E Es base hi w v xs) (hu : w.ownsRow b e s u n us) (hg : w.grownBy w' u.ownBlock) (h1 : e ≠ E) (h2 : e ≠ Es ∨ hi ≤ b) : OwnLins E Es base hi w' v xs := by
  refine ⟨h.1.kept hg (apart h.1 hu (Ne.symm h1)), fun x hx => ⟨(h.2 x hx).1.kept hg ?_, (h.2 x hx).2⟩⟩
  rcases h2 with h2 | h2
  · exact apart (h.2 x hx).1 hu (Ne.symm h2)
  · exact apart_at hu (h.2 x hx).2 h2
theorem OwnLins.push {n : Nat} {N : Int} {u v' : Value} {ws : List Wd} (h : OwnLins E Es base hi w v xs) (hE : Es ≠ E) (hu : w.ownsRow base Es 1 u ws.length (strs ws)) (hhi : hi ≤ hi') (huh : w.heap.size ≤ hi') (hg : w.grownBy w' v.ownBlock)
    (hv : w'.ownsRow base E 2 v' n (cells xs ++ [.int .i64 N, u])) (hn : n = xs.length + 1) : OwnLins E Es base hi' w' v' (xs ++ [(N, u, ws)]) := by
  subst hn
  refine ⟨by rw [cells_append, List.length_append]; exact hv, fun x hx => ?_⟩
  rcases List.mem_append.1 hx with hx | hx
  · exact ⟨(h.2 x hx).1.kept hg (apart (h.2 x hx).1 h.1 hE), fun k hk => Nat.lt_of_lt_of_le ((h.2 x hx).2 k hk) hhi⟩
  · rw [List.mem_singleton] at hx
    subst hx
    exact ⟨hu.kept hg (apart hu h.1 hE), fun k hk => Nat.lt_of_lt_of_le (hu.lt k hk).2 huh⟩
theorem OwnLins.lins (h : OwnLins E Es base hi w v xs) (hn : xs.length ≤ 4611686018427387903) : Lins base w.heap.size w v xs :=
  Lins.of_own h.1 hn (Nat.le_refl _) (Nat.le_refl _) fun x hx => Strs.of_own (h.2 x hx).1 (Nat.le_refl _)
theorem OwnLins.up (h : OwnLins E Es base hi w v xs) (hh : hi ≤ hi') : OwnLins E Es base hi' w v xs := ⟨h.1, fun x hx => ⟨(h.2 x hx).1, fun k hk => Nat.lt_of_lt_of_le ((h.2 x hx).2 k hk) hh⟩⟩

/-- 'append(s, x)': one element, laid in a new block. -/
theorem wpList_push {P : Program} {w : World} {ops : Array Oper} {rest : List Oper} {o : Oper} {a : Act} {Q : Exit → Act → World → Prop} (hgd : o.guard = none) (s x : Operand) (t : TypeId)
    (ho : o.op = .call { callee := .builtin .append, args := #[s, x], argTypes := #[t, t] })
    (base : Nat) (e : TypeId) (i : TypeInfo) (z : Value) (size bytes : Nat) (ht : P.underlying t = some (.slice e)) (hi : P.info? e = some i) (hz : i.zero = some z)
    (hsize : i.size = size) (hby : i.bytes = bytes) (hzs : z.cells.size = size) (hsz : 0 < size)
    (v : Value) (n : Nat) (xs : List Value) (hs : a.eval s = v) (hown : w.ownsRow base e size v n xs)
    (news : List Value) (hx : a.eval x = .slice (some ⟨w.heap.size, 0, none⟩) 1 1) (hl : news.length = size) (h1 : ∀ u ∈ news, u.oneCell' = true)
    (h63 : n + 1 ≤ maxLen) (hbytes : (n + 1) * bytes ≤ 140737488355328) (hbase : base ≤ w.heap.size)
    (h : ∀ v' w', w'.ownsRow base e size v' (n + 1) (xs ++ news) → w.grownBy w' v.ownBlock → wpList P ops Q rest (a.put o.dst v') w') :
    wpList P ops Q (o :: rest) a (w.alloc (.cells news.toArray e)) := by
  refine wpList_append_own (w := w.alloc (.cells news.toArray e)) hgd s x t ho base e i z size bytes ht hi hz hsize hby hzs hsz v n xs hs (hown.alloc _) ⟨w.heap.size, 0, none⟩ 1 1 news hx (by omega) ?_ h1 h63 hbytes (by simp; omega) ?_
  · intro j u hu
    have e1 : (⟨w.heap.size, 0, none⟩ : Addr).add j = ⟨w.heap.size, j, none⟩ := by unfold Addr.add; split <;> simp_all
    rw [e1, (Own.made w e news).cell]
    exact hu
  · intro v' w' h2 h3 _
    refine h v' w' h2 ⟨h3.os, h3.tape, h3.output, Nat.le_trans (by simp) h3.size, fun k hk hne => ?_⟩
    exact (h3.block k (by simp; omega) hne).trans (heap_alloc_old w _ hk)

/-- .. where the new block's number is spelled otherwise. -/
theorem wpList_push_at {P : Program} {w : World} {ops : Array Oper} {rest : List Oper} {o : Oper} {a : Act} {Q : Exit → Act → World → Prop} (hgd : o.guard = none) (s x : Operand) (t : TypeId)
    (ho : o.op = .call { callee := .builtin .append, args := #[s, x], argTypes := #[t, t] })
    (base : Nat) (e : TypeId) (i : TypeInfo) (z : Value) (size bytes : Nat) (ht : P.underlying t = some (.slice e)) (hi : P.info? e = some i) (hz : i.zero = some z)
    (hsize : i.size = size) (hby : i.bytes = bytes) (hzs : z.cells.size = size) (hsz : 0 < size)
    (v : Value) (n : Nat) (xs : List Value) (hs : a.eval s = v) (hown : w.ownsRow base e size v n xs)
    (news : List Value) (k : Nat) (hk : k = w.heap.size) (hx : a.eval x = .slice (some ⟨k, 0, none⟩) 1 1) (hl : news.length = size) (h1 : ∀ u ∈ news, u.oneCell' = true)
    (h63 : n + 1 ≤ maxLen) (hbytes : (n + 1) * bytes ≤ 140737488355328) (hbase : base ≤ w.heap.size)
    (h : ∀ v' w', w'.ownsRow base e size v' (n + 1) (xs ++ news) → w.grownBy w' v.ownBlock → wpList P ops Q rest (a.put o.dst v') w') :
    wpList P ops Q (o :: rest) a (w.alloc (.cells news.toArray e)) := by
  subst hk
  exact wpList_push hgd s x t ho base e i z size bytes ht hi hz hsize hby hzs hsz v n xs hs hown news hx hl h1 h63 hbytes hbase h

theorem below_grown {B : Nat} {a w w' : World} {b s n : Nat} {e : TypeId} {u : Value} {us : List Value} (h : Below B a w) (hu : w.ownsRow b e s u n us) (hg : w.grownBy w' u.ownBlock) (hB : B ≤ w.heap.size) (hb : B ≤ b) : Below B a w' :=
  h.grown hg hB fun k hk => Nat.le_trans hb (hu.lt k hk).1
end Go.Proofs.YtkmndgjabkjafaaGreatDoor.LinesM

namespace Go.Proofs.YtkmndgjabkjafaaGreatDoor
open Go.RowKit LinesM Mem

theorem lkind_any (c r : Int) (Hr : Hid (r = if c = 32 ∨ c = 9 then 1 else if c = 59 then 2 else if 33 ≤ c ∧ c ≤ 126 then 0 else 3)) (w : World) : Calls Tryz.prog 70 #[.int .u8 c] w fun e w' =>
    e = .returned (.int .i64 r) ∧ w = w' := by
  rcases Bool.eq_false_or_eq_true (c == 32) with h1 | h1 <;> rcases Bool.eq_false_or_eq_true (c == 9) with h2 | h2 <;> rcases Bool.eq_false_or_eq_true (c == 59) with h3 | h3 <;>
    rcases Bool.eq_false_or_eq_true (decide (33 ≤ c)) with h4 | h4 <;> rcases Bool.eq_false_or_eq_true (decide (c ≤ 126)) with h5 | h5
  all_goals
    go_enter Tryz.func70, Tryz.ntmps70
    go_wp2
    go_ret
    refine ⟨congrArg (fun x => Ending.returned (Value.int .i64 x)) ?_, rfl⟩
    have := Hr.out
    simp only [beq_iff_eq, beq_eq_false_iff_ne, decide_eq_true_eq, decide_eq_false_iff_not] at h1 h2 h3 h4 h5
    (repeat' split at this) <;> omega
theorem lkind_at (c : UInt8) (k : Int) (h : kindB c = k) (w : World) : Calls Tryz.prog 70 #[.int .u8 (c.toNat : Int)] w fun e w' => e = .returned (.int .i64 k) ∧ w = w' := by
  have e : kindB c = (if (c.toNat : Int) = 32 ∨ (c.toNat : Int) = 9 then 1 else if (c.toNat : Int) = 59 then 2 else if 33 ≤ (c.toNat : Int) ∧ (c.toNat : Int) ≤ 126 then 0 else 3) := by
    unfold kindB
    have a1 : (c = 32) ↔ (c.toNat : Int) = 32 := ⟨fun h => by subst h; rfl, fun h => by rw [← UInt8.toNat_inj]; show c.toNat = 32; omega⟩
    have a2 : (c = 9) ↔ (c.toNat : Int) = 9 := ⟨fun h => by subst h; rfl, fun h => by rw [← UInt8.toNat_inj]; show c.toNat = 9; omega⟩
    have a3 : (c = 59) ↔ (c.toNat : Int) = 59 := ⟨fun h => by subst h; rfl, fun h => by rw [← UInt8.toNat_inj]; show c.toNat = 59; omega⟩
    have a4 : (33 ≤ c.toNat ∧ c.toNat ≤ 126) ↔ (33 ≤ (c.toNat : Int) ∧ (c.toNat : Int) ≤ 126) := by omega
    simp only [a1, a2, a3, a4]
  exact lkind_any _ _ (Lib.hid (by rw [← h, e])) w

theorem ret_int {k : IntKind} {a b : Int} (h : a = b) : Ending.returned (.int k a) = .returned (.int k b) := by rw [h]
theorem drop_at (s : ByteArray) (k : Nat) (h : k < s.size) : s.data.toList.drop k = s[k] :: s.data.toList.drop (k + 1) := by
  rw [List.drop_eq_getElem_cons (by simpa using h)]; rfl
theorem size_list (s : ByteArray) : s.data.toList.length = s.size := by rw [Array.length_toList]; rfl

set_option maxHeartbeats 1000000 in
theorem behind_any (k : Int) (s : ByteArray) (i : Nat) (w : World) (hi : i ≤ s.size) (hs : s.size ≤ 9223372036854775806) :
    Calls Tryz.prog 69 #[.int .i64 k, .string s, .int .i64 (i : Int)] w fun e w' => e = .returned (.int .i64 ((i + run k (s.data.toList.drop i) : Nat) : Int)) ∧ w = w' := by
  obtain ⟨r, hr⟩ : ∃ r, i + run k (s.data.toList.drop i) = r := ⟨_, rfl⟩
  rw [hr]
  have Hr := Lib.hid hr
  clear hr
  go_enter Tryz.func69, Tryz.ntmps69
  go_wp2
  go_loop [2] (fun a => ∃ j : Nat, j ≤ s.size ∧ a = .int .i64 j ∧ Hid (j + run k (s.data.toList.drop j) = r)) (fun a => s.size - (intOf a).toNat)
  case atStart => exact ⟨i, hi, rfl, Hr⟩
  case round =>
    obtain ⟨j, hj, rfl, hrun⟩ := hrel
    by_cases hlt : j < s.size
    · obtain ⟨q, hq⟩ : ∃ q, kindB s[j] = q := ⟨_, rfl⟩
      have HQ := Lib.hid hq
      rcases Bool.eq_false_or_eq_true (q == k) with hk | hk
      · have HR : Hid (j + 1 + run k (s.data.toList.drop (j + 1)) = r) := by
          have := hrun.out
          rw [drop_at s j hlt, run_cons_yes (by rw [hq]; simpa using hk)] at this
          exact Lib.hid (by omega)
        clear hq
        go_wp2_with (go_at_call 70; refine (lkind_at _ _ HQ.out _).mono ?_; rintro e w1 ⟨rfl, rfl⟩)
        go_round
        case rel => exact ⟨j + 1, by omega, by go_num, HR⟩
        case measure => simp [intOf]; omega
      · have HR : Hid (j = r) := by
          have := hrun.out
          rw [drop_at s j hlt, run_cons_no (by rw [hq]; simpa using hk)] at this
          exact Lib.hid (by omega)
        clear hq hrun
        go_wp2_with (go_at_call 70; refine (lkind_at _ _ HQ.out _).mono ?_; rintro e w1 ⟨rfl, rfl⟩)
        go_ret
        exact ⟨ret_int (by have := HR.out; omega), rfl⟩
    · have HR : Hid (j = r) := by
        have := hrun.out
        rw [List.drop_eq_nil_of_le (by rw [size_list]; omega), run_nil] at this
        exact Lib.hid (by omega)
      clear hrun
      go_wp2
      go_ret
      exact ⟨ret_int (by have := HR.out; omega), rfl⟩

set_option maxRecDepth 100000 in
theorem byte_any (s : ByteArray) (c : Int) (w : World) :
    Calls Tryz.prog 120 #[.string s, .int .u8 c] w fun e w' => e = .returned (.int .i64 (Lib.indexByte s.data.toList c.toNat.toUInt8)) ∧ w = w' := by
  go_enter Tryz.func120, Tryz.ntmps120
  go_wp2
  rw [run_callFunc_extern Tryz.func160 (by kernel_rfl) (by kernel_rfl) (by kernel_rfl) (e := Extern.BytealgIndexByte.indexByte) (by kernel_rfl), Lib.run_indexByteString]
  simp only [Result.andThen]
  rw [Oper.upon_value]
  go_wp2
  go_ret
  exact ⟨rfl, rfl⟩
theorem sbyte_any (s : ByteArray) (c : Int) (w : World) :
    Calls Tryz.prog 68 #[.string s, .int .u8 c] w fun e w' => e = .returned (.int .i64 (Lib.indexByte s.data.toList c.toNat.toUInt8)) ∧ w = w' := by
  go_enter Tryz.func68, Tryz.ntmps68
  go_wp2_with (go_at_call 120; refine (byte_any _ _ _).mono ?_; rintro e w' ⟨rfl, rfl⟩)
  go_ret
  exact ⟨rfl, rfl⟩

theorem index_seg (l : List UInt8) : Lib.indexByte l 10 = if (seg l).length = l.length then -1 else ((seg l).length : Int) := by
  induction l with
  | nil => rfl
  | cons c l ih =>
    unfold Lib.indexByte
    by_cases hc : c = 10
    · subst hc; simp [seg]
    · have e : seg (c :: l) = c :: seg l := by unfold seg; rw [List.takeWhile_cons_of_pos (by simp [hc])]
      have hb : (c == 10) = false := by simpa using hc
      rw [hb, e, ih]
      have := seg_le l
      by_cases h : (seg l).length = l.length
      · rw [if_pos h]; simp [h]
      · rw [if_neg h]
        have h2 : ((((seg l).length : Int)) == -1) = false := by simp
        rw [h2]
        simp [h]

theorem lineEnd_any (s : ByteArray) (i : Nat) (w : World) (hi : i ≤ s.size) (hs : s.size ≤ 9223372036854775806) :
    Calls Tryz.prog 38 #[.string s, .int .i64 (i : Int)] w fun e w' => e = .returned (.int .i64 ((i + (seg (s.data.toList.drop i)).length : Nat) : Int)) ∧ w = w' := by
  have hd : (s.extract i s.size).data.toList = s.data.toList.drop i := by
    rw [Lib.extract_data, List.take_of_length_le (by rw [List.length_drop, size_list]; exact Nat.le_refl _)]
  have hx := index_seg (s.data.toList.drop i)
  have hle := seg_le (s.data.toList.drop i)
  rw [List.length_drop, size_list] at hx hle
  have Q := Lib.hid (sbyte_any (s.extract i s.size) 10 w)
  obtain ⟨n, hn⟩ : ∃ n, (seg (s.data.toList.drop i)).length = n := ⟨_, rfl⟩
  rw [hn] at hx hle ⊢
  have Q2 : Hid (Calls Tryz.prog 68 #[.string (s.extract i s.size), .int .u8 10] w fun e w' => e = .returned (.int .i64 (if n = s.size - i then -1 else (n : Int))) ∧ w = w') := by
    have := Q.out
    rw [hd] at this
    rw [← hx]
    exact this
  clear hd hx Q hn
  by_cases h : n = s.size - i
  · rw [if_pos h] at Q2
    have e1 : ((s.size : Nat) : Int) = ((i + n : Nat) : Int) := by omega
    have H := Lib.hid e1
    clear e1 h
    go_enter Tryz.func38, Tryz.ntmps38
    go_wp2_with (go_at_call 68; refine Q2.out.mono ?_; rintro e w' ⟨rfl, rfl⟩)
    go_ret
    exact ⟨ret_int H.out, rfl⟩
  · rw [if_neg h] at Q2
    clear h
    go_enter Tryz.func38, Tryz.ntmps38
    go_wp2_with (go_at_call 68; refine Q2.out.mono ?_; rintro e w' ⟨rfl, rfl⟩)
    go_ret
    exact ⟨ret_int (by omega), rfl⟩
end Go.Proofs.YtkmndgjabkjafaaGreatDoor

namespace Go.Proofs.YtkmndgjabkjafaaGreatDoor
open Go.RowKit LinesM Mem

theorem s_info : (Tryz.prog.info? 9).map (fun i => (i.zero, i.size, i.bytes)) = some (some (.string ⟨#[]⟩), 1, 16) := by kernel_rfl

/-- What cutting a line leaves. -/
def CutPost (W : World) (q : List Wd × Bool) (e : Ending) (w' : World) : Prop :=
  ∃ v, e = .returned (.tuple #[v, .bool q.2]) ∧ w'.ownsRow W.heap.size 9 1 v q.1.length (strs q.1) ∧ Below W.heap.size W w'

theorem word_of (s : ByteArray) (i j : Nat) : s.extract i j = ⟨((s.data.toList.drop i).take (j - i)).toArray⟩ := by
  have := Lib.extract_data s i j
  rw [← this]

theorem words_step {l : List UInt8} (h : run 0 l ≠ 0) :
    words l = (l.take (run 0 l) :: (words ((l.drop (run 0 l)).drop (run 1 (l.drop (run 0 l))))).1, (words ((l.drop (run 0 l)).drop (run 1 (l.drop (run 0 l))))).2) := by
  rw [words, dif_neg h]
theorem run_pos {c : UInt8} {l : List UInt8} (h : kindB c = 0) : run 0 (c :: l) ≠ 0 := by rw [run_cons_yes h]; omega

/-- a word more, in the relation of the round. -/
theorem cut_rel {s : ByteArray} {j m a : Nat} {acc : List Wd} {q : List Wd × Bool} (hk : run 0 (s.data.toList.drop j) ≠ 0) (hm : j + run 0 (s.data.toList.drop j) = m) (ha : m + run 1 (s.data.toList.drop m) = a)
    (h : acc ++ (words (s.data.toList.drop j)).1 = q.1 ∧ (words (s.data.toList.drop j)).2 = q.2) :
    (acc ++ [(s.data.toList.drop j).take (m - j)]) ++ (words (s.data.toList.drop a)).1 = q.1 ∧ (words (s.data.toList.drop a)).2 = q.2 := by
  have e : run 0 (s.data.toList.drop j) = m - j := by omega
  rw [words_step hk] at h
  have h2 : (s.data.toList.drop j).drop (run 0 (s.data.toList.drop j)) = s.data.toList.drop m := by rw [List.drop_drop, hm]
  rw [h2, List.drop_drop, ha, e] at h
  simpa using h

theorem one_str (x : Wd) : ∀ u ∈ [Value.string ⟨x.toArray⟩], u.oneCell' = true := by intro u hu; rw [List.mem_singleton] at hu; subst hu; rfl

set_option maxRecDepth 100000 in
set_option maxHeartbeats 2000000 in
theorem cut_any (s : ByteArray) (w : World) (hs : s.size ≤ 4194304) :
    Calls Tryz.prog 39 #[.string s] w (CutPost w (cutV s.data.toList)) := by
  obtain ⟨i0, hi, hz0, hz1, hz2⟩ := info_parts s_info
  have Hi := Lib.hid hi
  have Hz0 := Lib.hid hz0
  have Hz1 := Lib.hid hz1
  have Hz2 := Lib.hid hz2
  clear hi hz0 hz1 hz2
  obtain ⟨q, hq⟩ : ∃ q, cutV s.data.toList = q := ⟨_, rfl⟩
  rw [hq]
  have hl := size_list s
  have Hl := Lib.hid hl
  have hr1 := run_le 1 s.data.toList
  rw [hl] at hr1
  have q0 : Calls Tryz.prog 69 #[.int .i64 1, .string s, .int .i64 0] w fun e w' => e = .returned (.int .i64 ((0 + run 1 (s.data.toList.drop 0) : Nat) : Int)) ∧ w = w' := behind_any 1 s 0 w (Nat.zero_le _) (by omega)
  have Q0 := Lib.hid q0
  clear q0
  have HQ := Lib.hid hq
  obtain ⟨a0, ha0⟩ : ∃ a, 0 + run 1 (s.data.toList.drop 0) = a := ⟨_, rfl⟩
  rw [ha0] at Q0
  have ha1 : a0 ≤ s.size := by rw [← ha0]; simpa using hr1
  have HA := Lib.hid ha0
  clear hq hl hr1 ha0
  go_enter Tryz.func39, Tryz.ntmps39
  go_wp2_with (go_at_call 69; (with_reducible refine (Q0.out).mono ?_); rintro e w1 ⟨rfl, rfl⟩)
  go_loopw [4, 5, 6] (fun v a _ wr => ∃ (j : Nat) (acc : List Wd), j ≤ s.size ∧ a = .int .i64 j ∧ acc.length ≤ j ∧ Hid (acc ++ (words (s.data.toList.drop j)).1 = q.1 ∧ (words (s.data.toList.drop j)).2 = q.2) ∧
      Hid (wr.ownsRow w.heap.size 9 1 v acc.length (strs acc)) ∧ Hid (Below w.heap.size w wr)) (fun _ a _ _ => s.size - (intOf a).toNat)
  case atStart =>
    refine ⟨a0, [], ha1, rfl, Nat.zero_le _, Lib.hid ?_, Lib.hid (World.ownsRow_nil _ _ _ _), Lib.hid (Below.refl _ _)⟩
    have h1 := HQ.out
    have h2 := HA.out
    unfold cutV at h1
    rw [List.drop_zero, Nat.zero_add] at h2
    rw [h2] at h1
    rw [h1]; simp
  case round =>
    obtain ⟨j, acc, hj, rfl, hacc, HW, HO, HB⟩ := hrel
    by_cases hlt : j < s.size
    · obtain ⟨k, hk⟩ : ∃ k, kindB s[j] = k := ⟨_, rfl⟩
      have HK := Lib.hid hk
      rcases Bool.eq_false_or_eq_true (k == 0) with hp | hp
      · have hk0 : k = 0 := by simpa using hp
        have hrun : run 0 (s.data.toList.drop j) ≠ 0 := by rw [drop_at s j hlt]; exact run_pos (by rw [hk]; exact hk0)
        have hle0 := run_le 0 (s.data.toList.drop j)
        rw [List.length_drop, Hl.out] at hle0
        have Q1 := Lib.hid fun w => behind_any 0 s j w hj (by omega)
        obtain ⟨m, hm⟩ : ∃ m, j + run 0 (s.data.toList.drop j) = m := ⟨_, rfl⟩
        rw [hm] at Q1
        have hm1 : j < m := by omega
        have hm2 : m ≤ s.size := by omega
        have hle1 := run_le 1 (s.data.toList.drop m)
        rw [List.length_drop, Hl.out] at hle1
        have Q2 := Lib.hid fun w => behind_any 1 s m w hm2 (by omega)
        obtain ⟨a, ha⟩ : ∃ a, m + run 1 (s.data.toList.drop m) = a := ⟨_, rfl⟩
        rw [ha] at Q2
        have ha1 : m ≤ a := by omega
        have ha2 : a ≤ s.size := by omega
        have HW2 := Lib.hid (cut_rel hrun hm ha HW.out)
        obtain ⟨x, hx⟩ : ∃ x, (s.data.toList.drop j).take (m - j) = x := ⟨_, rfl⟩
        have hcl : ∀ w : World, Calls Tryz.prog 71 #[.string (s.extract j m)] w fun e w' => e = .returned (.string ⟨x.toArray⟩) ∧ Below w.heap.size w w' := fun w => by
          rw [word_of, hx]
          refine clone_any _ _ ?_
          show x.toArray.size ≤ _
          have := congrArg List.length hx
          rw [List.length_take, List.length_drop, Hl.out] at this
          simp; omega
        rw [hx] at HW2
        have QC := Lib.hid hcl
        clear hk hrun hle0 hle1 hm ha hx hcl HW hk0
        go_wp2_with (first
          | (go_at_call 70; (with_reducible refine (lkind_at _ _ HK.out _).mono ?_); rintro e w1 ⟨rfl, rfl⟩)
          | (go_at_call 69; (with_reducible refine (Q1.out _).mono ?_); rintro e w1 ⟨rfl, rfl⟩)
          | (go_at_call 71; (with_reducible refine (QC.out _).mono ?_); rintro e w1 ⟨rfl, hb1⟩; have HO1 := Lib.hid (own_below HO.out hb1); have HB1 := Lib.hid (HB.out.trans (hb1.mono HB.out.size)); clear hb1 HO HB)
          | (at_builtin; refine wpList_push rfl _ _ 43 rfl w.heap.size 9 i0 (.string ⟨#[]⟩) 1 16 Tryz.underlying43 Hi.out Hz0.out Hz1.out Hz2.out rfl (by decide) _ acc.length (strs acc) rfl HO1.out [.string ⟨x.toArray⟩] rfl rfl (one_str x) (by unfold maxLen; omega) (by omega) HB1.out.size ?_; intro v' w2 hown2 hg2; have HO2 := Lib.hid hown2; have HB2 := Lib.hid (below_grown HB1.out HO1.out hg2 HB1.out.size (Nat.le_refl _)); clear hown2 hg2)
          | (go_at_call 69; (with_reducible refine (Q2.out _).mono ?_); rintro e w1 ⟨rfl, rfl⟩))
        go_roundw
        case rel =>
          refine ⟨a, acc ++ [x], ha2, rfl, by simp; omega, HW2, ?_, HB2⟩
          have := HO2.out
          rw [strs_append, List.length_append]
          exact Lib.hid this
        case measure => simp [intOf]; omega
      · have hr0 : run 0 (s.data.toList.drop j) = 0 := by rw [drop_at s j hlt]; exact run_cons_no (by rw [hk]; simpa using hp)
        obtain ⟨h1, h2⟩ := HW.out
        rw [words, dif_pos hr0] at h1 h2
        rw [drop_at s j hlt] at h2
        have h3 : q.2 = (k == 2) := by rw [← h2, ← hk]; rfl
        have h4 : acc = q.1 := by simpa using h1
        obtain ⟨q1, q2⟩ := q
        simp only at h3 h4
        subst h3 h4
        clear hk hr0 h1 h2 HW
        have e1 : ((j : Int) == (s.size : Int)) = false := by simp; omega
        go_wp2_with (go_at_call 70; (with_reducible refine (lkind_at _ _ HK.out _).mono ?_); rintro e w1 ⟨rfl, rfl⟩)
        go_ret2
        exact ⟨_, rfl, HO.out, HB.out⟩
    · have hj' : j = s.size := by omega
      subst hj'
      obtain ⟨h1, h2⟩ := HW.out
      have e0 : s.data.toList.drop s.size = [] := List.drop_eq_nil_of_le (by rw [Hl.out]; exact Nat.le_refl _)
      rw [e0, words, dif_pos (run_nil 0)] at h1 h2
      have h3 : q.2 = true := by rw [← h2]; rfl
      have h4 : acc = q.1 := by simpa using h1
      obtain ⟨q1, q2⟩ := q
      simp only at h3 h4
      subst h3 h4
      clear h1 h2 HW e0
      have e1 : ((s.size : Int) == (s.size : Int)) = true := by simp
      go_wp2
      go_ret2
      exact ⟨_, rfl, HO.out, HB.out⟩

theorem cut_at (s : ByteArray) (ws : List Wd) (b : Bool) (h : cutV s.data.toList = (ws, b)) (hs : s.size ≤ 4194304) (w : World) :
    Calls Tryz.prog 39 #[.string s] w fun e w' => ∃ v, e = .returned (.tuple #[v, .bool b]) ∧ w'.ownsRow w.heap.size 9 1 v ws.length (strs ws) ∧ Below w.heap.size w w' := by
  have := cut_any s w hs
  rw [h] at this
  exact this

theorem l_info : (Tryz.prog.info? 102).map (fun i => (i.zero, i.size, i.bytes)) = some (some (.agg #[.int .i64 0, .slice none 0 0]), 2, 32) := by kernel_rfl

/-- What splitting a text leaves. -/
def SplitPost (W : World) (r : Res) (e : Ending) (w' : World) : Prop :=
  ∃ v xs, e = .returned (.tuple #[v, .int .i64 (r.2.1 : Int), .int .i64 (r.2.2 : Int)]) ∧ xs.map line = lns r.1 ∧ xs.length ≤ 4194305 ∧ OwnLins 102 9 W.heap.size w'.heap.size w' v xs ∧ Below W.heap.size W w'

theorem seg_take (l : List UInt8) : l.take (seg l).length = seg l := by
  obtain ⟨t, ht⟩ := List.takeWhile_prefix (l := l) (fun c : UInt8 => c != 10)
  have e : l = seg l ++ t := ht.symm
  conv => lhs; rw [e]
  have : seg (seg l ++ t) = seg l := by rw [← e]
  rw [this, List.take_left']
  rfl

theorem split_step {n : Nat} {out : List Ln} {l : List UInt8} {ws : List Wd} {b : Bool} (h0 : l ≠ []) (h : cutV (seg l) = (ws, b)) :
    splitP n out l = if b = true then splitP (n + 1) (emit n out ws) (l.drop ((seg l).length + 1)) else ([], n, 3) := by
  rw [splitP, dif_neg h0]
  simp only [h]
theorem split_end {n : Nat} {out : List Ln} : splitP n out [] = (out, 0, 0) := by rw [splitP, dif_pos rfl]

theorem two_cells (n : Int) {w : World} {b e k : Nat} {v : Value} {xs : List Value} (h : w.ownsRow b e 1 v k xs) : ∀ u ∈ [Value.int .i64 n, v], u.oneCell' = true := by
  intro u hu
  simp only [List.mem_cons, List.not_mem_nil, or_false] at hu
  rcases hu with rfl | rfl
  · rfl
  · rcases h.2 with ⟨rfl, _⟩ | ⟨g, cap, cur, rfl, _⟩ <;> rfl

set_option maxRecDepth 100000 in
set_option maxHeartbeats 4000000 in
theorem split_any (s : ByteArray) (w : World) (hs : s.size ≤ maxLen) :
    Calls Tryz.prog 16 #[.string s] w (SplitPost w (splitV s.data.toList)) := by
  unfold maxLen at hs
  by_cases hbig : 4194304 < s.size
  · have e1 : decide ((4194304 : Int) < (s.size : Int)) = true := decide_eq_true (by omega)
    have e2 : splitV s.data.toList = ([], 0, 2) := by unfold splitV; rw [if_pos (by rw [size_list]; exact hbig)]
    rw [e2]
    clear e2 hbig
    go_enter Tryz.func16, Tryz.ntmps16
    go_wp2
    go_ret3
    exact ⟨_, [], rfl, rfl, by simp, OwnLins.nil _ _ _ _ _, Below.refl _ _⟩
  · obtain ⟨i0, hi, hz0, hz1, hz2⟩ := info_parts l_info
    have Hi := Lib.hid hi
    have Hz0 := Lib.hid hz0
    have Hz1 := Lib.hid hz1
    have Hz2 := Lib.hid hz2
    clear hi hz0 hz1 hz2
    have e1 : decide ((4194304 : Int) < (s.size : Int)) = false := decide_eq_false (by omega)
    have hs2 : s.size ≤ 4194304 := by omega
    obtain ⟨r, hr⟩ : ∃ r, splitV s.data.toList = r := ⟨_, rfl⟩
    have hl := size_list s
    have HR : Hid (splitP 1 [] (s.data.toList.drop 0) = r) := by
      rw [List.drop_zero, split_eq]
      unfold splitV at hr
      rw [if_neg (by rw [hl]; exact hbig)] at hr
      exact Lib.hid hr
    rw [hr]
    have Hl := Lib.hid hl
    clear hr hl hbig
    go_enter Tryz.func16, Tryz.ntmps16
    go_wp2
    go_loopw [5, 6, 7] (fun v a b wr => ∃ (j n : Nat) (xs : List ML) (out : List Ln), j ≤ s.size + 1 ∧ a = .int .i64 j ∧ b = .int .i64 n ∧ n ≤ j + 1 ∧ xs.length ≤ j ∧ Hid (splitP n out (s.data.toList.drop j) = r) ∧ Hid (xs.map line = lns out) ∧
        Hid (OwnLins 102 9 w.heap.size wr.heap.size wr v xs) ∧ Hid (Below w.heap.size w wr)) (fun _ a _ _ => s.size + 1 - (intOf a).toNat)
    case atStart => exact ⟨0, 1, [], [], Nat.zero_le _, rfl, rfl, by omega, by simp, HR, Lib.hid rfl, Lib.hid (OwnLins.nil _ _ _ _ _), Lib.hid (Below.refl _ _)⟩
    case round =>
      obtain ⟨j, n, xs, out, hj, rfl, rfl, hn, hxs, HP, HX, HO, HB⟩ := hrel
      by_cases hlt : j < s.size
      · have hne : s.data.toList.drop j ≠ [] := by rw [drop_at s j hlt]; exact List.cons_ne_nil _ _
        have hle := seg_le (s.data.toList.drop j)
        rw [List.length_drop, Hl.out] at hle
        have Q1 := Lib.hid fun w => lineEnd_any s j w (by omega) (by omega)
        have hseg := seg_take (s.data.toList.drop j)
        obtain ⟨m, hm⟩ : ∃ m, j + (seg (s.data.toList.drop j)).length = m := ⟨_, rfl⟩
        rw [hm] at Q1
        have hjm : j ≤ m := by omega
        have hms : m ≤ s.size := by omega
        have hx : (s.extract j m).data.toList = seg (s.data.toList.drop j) := by rw [Lib.extract_data, ← hseg]; congr 1; omega
        obtain ⟨⟨ws, b⟩, hc⟩ : ∃ q, cutV (seg (s.data.toList.drop j)) = q := ⟨_, rfl⟩
        have hst := split_step (n := n) (out := out) hne hc
        rw [HP.out] at hst
        have hsz : (s.extract j m).size ≤ 4194304 := by rw [← size_list, hx]; omega
        have QC := Lib.hid fun w => cut_at (s.extract j m) ws b (by rw [hx]; exact hc) hsz w
        have hdd : (s.data.toList.drop j).drop ((seg (s.data.toList.drop j)).length + 1) = s.data.toList.drop (m + 1) := by rw [List.drop_drop]; congr 1; omega
        rw [hdd] at hst
        have HS := Lib.hid hst
        clear hne hle hseg hm hx hc hst hsz hdd HP
        cases b with
        | false =>
          have hr : r = ([], n, 3) := by rw [HS.out]; rfl
          subst hr
          clear HS
          go_wp2_with (first
            | (go_at_call 38; (with_reducible refine (Q1.out _).mono ?_); rintro e w1 ⟨rfl, rfl⟩)
            | (go_at_call 39; (with_reducible refine (QC.out _).mono ?_); rintro e w1 ⟨v1, rfl, hv1, hb1⟩; have HB1 := Lib.hid (HB.out.trans (hb1.mono HB.out.size)); clear hb1 hv1))
          go_ret3
          exact ⟨_, [], rfl, rfl, by simp, OwnLins.nil _ _ _ _ _, HB1.out⟩
        | true =>
          have HS2 : Hid (splitP (n + 1) (emit n out ws) (s.data.toList.drop (m + 1)) = r) := by
            have := HS.out
            rw [if_pos rfl] at this
            exact Lib.hid this.symm
          clear HS
          cases hws : ws with
          | nil =>
            subst hws
            go_wp2_with (first
              | (go_at_call 38; (with_reducible refine (Q1.out _).mono ?_); rintro e w1 ⟨rfl, rfl⟩)
              | (go_at_call 39; (with_reducible refine (QC.out _).mono ?_); rintro e w1 ⟨v1, rfl, hv1, hb1⟩; have HB1 := Lib.hid (HB.out.trans (hb1.mono HB.out.size)); have HO1 := Lib.hid ((HO.out.below hb1).up hb1.size); clear hb1; obtain ⟨A1, c1, rfl⟩ := own_form hv1; have HV1 := Lib.hid hv1; clear hv1))
            go_roundw
            case rel => exact ⟨m + 1, n + 1, xs, out, by omega, by go_num, by go_num, by omega, by omega, HS2, HX, HO1, HB1⟩
            case measure => simp [intOf]; omega
          | cons x ws' =>
            have hw1 : 0 < ws.length := by rw [hws]; simp
            have hw2 : decide (0 < ws.length) = true := decide_eq_true hw1
            have hem : emit n out ws = out ++ [(n, ws)] := by unfold emit; rw [if_neg (by rw [hws]; simp)]
            rw [hem] at HS2
            clear hws hem
            go_wp2_with (first
              | (go_at_call 38; (with_reducible refine (Q1.out _).mono ?_); rintro e w1 ⟨rfl, rfl⟩)
              | (go_at_call 39; (with_reducible refine (QC.out _).mono ?_); rintro e w1 ⟨v1, rfl, hv1, hb1⟩; have HB1 := Lib.hid (HB.out.trans (hb1.mono HB.out.size)); have HO1 := Lib.hid ((HO.out.below hb1).up hb1.size); clear hb1; obtain ⟨A1, c1, rfl⟩ := own_form hv1; have HV1 := Lib.hid hv1; clear hv1)
              | (at_builtin; refine wpList_push rfl _ _ 60 rfl w.heap.size 102 i0 (.agg #[.int .i64 0, .slice none 0 0]) 2 32 Tryz.underlying60 Hi.out Hz0.out Hz1.out Hz2.out rfl (by decide) _ xs.length (cells xs) rfl HO1.out.1 [.int .i64 (n : Int), .slice A1 ws.length c1] rfl rfl (two_cells n HV1.out) (by unfold maxLen; omega) (by omega) HB1.out.size ?_; intro v' w2 hown2 hg2; have HO2 := Lib.hid (HO1.out.push (by decide) (own_lower HV1.out HB.out.size) (Nat.le_refl _) (Nat.le_refl _) hg2 hown2 rfl); have HB2 := Lib.hid (below_grown HB1.out HO1.out.1 hg2 HB1.out.size (Nat.le_refl _)); have HO3 := Lib.hid (HO2.out.up hg2.size); clear hown2 hg2))
            go_roundw
            case rel =>
              refine ⟨m + 1, n + 1, xs ++ [((n : Int), .slice A1 ws.length c1, ws)], out ++ [(n, ws)], by omega, by go_num, by go_num, by omega, by simp; omega, HS2, ?_, HO3, HB2⟩
              have := HX.out
              exact Lib.hid (by unfold lns at this ⊢; rw [List.map_append, List.map_append, this]; rfl)
            case measure => simp [intOf]; omega
      · have h0 : s.data.toList.drop j = [] := List.drop_eq_nil_of_le (by rw [Hl.out]; omega)
        have h1 := HP.out
        rw [h0, split_end] at h1
        subst h1
        clear h0
        go_wp2
        go_ret3
        exact ⟨_, xs, rfl, HX.out, by omega, HO.out, HB.out⟩
end Go.Proofs.YtkmndgjabkjafaaGreatDoor
