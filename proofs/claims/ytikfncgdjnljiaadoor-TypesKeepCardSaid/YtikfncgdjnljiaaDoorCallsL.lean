/-
  Rows of strings, and rows of lines (a number, and a row of strings), in memory: read, and owned. No program is named here.
  lines.kind, behind, lineEnd, walked.
  lines.cut and lines.Split, walked.
-/
import Derived.Test.YtikfncgdjnljiaaDoorMem
import Derived.Test.YtikfncgdjnljiaaDoorPlainN
import Derived.Test.YtikfncgdjnljiaaDoorCallsN
import Derived.Lib.Bytealg
import Derived.Lib.Strings
import Derived.Lib.Walk
import Derived.Deep.QuietTactic
import Derived.BigQuiet
namespace Go.Proofs.YtikfncgdjnljiaaDoor.LinesM
open Go.RowKit Mem

def strs (ws : List Wd) : List Value := ws.map fun x => .string ⟨x.toArray⟩
/-- A line as it lies in memory: its number, the value that its words are, and these. -/
abbrev ML := Int × Value × List Wd
def cells (xs : List ML) : List Value := xs.flatMap fun x => [.int .i64 x.1, x.2.1]
def line (x : ML) : Int × List Wd := (x.1, x.2.2)
def lns (out : List Ln) : List (Int × List Wd) := out.map fun x => ((x.1 : Int), x.2)

theorem strs_length (ws : List Wd) : (strs ws).length = ws.length := List.length_map _
theorem strs_append (a b : List Wd) : strs (a ++ b) = strs a ++ strs b := List.map_append
theorem cells_length (xs : List ML) : (cells xs).length = xs.length * 2 := by
  induction xs with
  | nil => rfl
  | cons x xs ih => simp only [cells, List.flatMap_cons, List.length_append, List.length_cons, List.length_nil] at ih ⊢; omega
theorem cells_append (xs ys : List ML) : cells (xs ++ ys) = cells xs ++ cells ys := List.flatMap_append
theorem cells_at (xs : List ML) : ∀ (i : Nat) (x : ML), xs[i]? = some x → (cells xs)[i * 2]? = some (.int .i64 x.1) ∧ (cells xs)[i * 2 + 1]? = some x.2.1 := by
  induction xs with
  | nil => intro i x h; simp at h
  | cons y xs ih =>
    intro i x h
    have e : cells (y :: xs) = .int .i64 y.1 :: y.2.1 :: cells xs := rfl
    rw [e]
    cases i with
    | zero => simp at h; subst h; exact ⟨rfl, rfl⟩
    | succ i =>
      have := ih i x (by simpa using h)
      have e1 : (i + 1) * 2 = i * 2 + 1 + 1 := by omega
      rw [e1]
      simpa using this

/-! ### reading -/
/-- v is a row of the strings ws, in blocks from lo on and below hi. -/
def Strs (lo hi : Nat) (w : World) (v : Value) (ws : List Wd) : Prop :=
  ∃ A n cap b off, v = .slice A n cap ∧ n = ws.length ∧ n ≤ 9223372036854775807 ∧ (0 < n → A = some ⟨b, off, none⟩ ∧ lo ≤ b ∧ b < hi) ∧ ∀ i x, ws[i]? = some x → w.cell? ⟨b, off + i, none⟩ = some (.string ⟨x.toArray⟩)
/-- v is a row of the lines xs. -/
def Lins (lo hi : Nat) (w : World) (v : Value) (xs : List ML) : Prop :=
  ∃ A n cap b off, v = .slice A n cap ∧ n = xs.length ∧ n ≤ 4611686018427387903 ∧ (0 < n → A = some ⟨b, off, none⟩ ∧ lo ≤ b ∧ b < hi) ∧
    ∀ i x, xs[i]? = some x → w.cell? ⟨b, off + i * 2, none⟩ = some (.int .i64 x.1) ∧ w.cell? ⟨b, off + i * 2 + 1, none⟩ = some x.2.1 ∧ Strs lo hi w x.2.1 x.2.2

variable {w w' : World} {lo hi lo' hi' : Nat} {v : Value}
theorem Strs.move {ws : List Wd} (h : Strs lo hi w v ws) (hk : ∀ k, lo ≤ k → k < hi → w'.heap[k]? = w.heap[k]?) : Strs lo hi w' v ws := by
  obtain ⟨A, n, cap, b, off, e, hn, hm, ha, hc⟩ := h
  refine ⟨A, n, cap, b, off, e, hn, hm, ha, fun i x hx => ?_⟩
  have hi : i < ws.length := (List.getElem?_eq_some_iff.1 hx).1
  obtain ⟨_, h1, h2⟩ := ha (by omega)
  exact (World.cell?_of_block (w := w) (hk b h1 h2)).trans (hc i x hx)
theorem Lins.move {xs : List ML} (h : Lins lo hi w v xs) (hk : ∀ k, lo ≤ k → k < hi → w'.heap[k]? = w.heap[k]?) : Lins lo hi w' v xs := by
  obtain ⟨A, n, cap, b, off, e, hn, hm, ha, hc⟩ := h
  refine ⟨A, n, cap, b, off, e, hn, hm, ha, fun i x hx => ?_⟩
  have hi : i < xs.length := (List.getElem?_eq_some_iff.1 hx).1
  obtain ⟨_, h1, h2⟩ := ha (by omega)
  obtain ⟨c1, c2, c3⟩ := hc i x hx
  exact ⟨(World.cell?_of_block (w := w) (hk b h1 h2)).trans c1, (World.cell?_of_block (w := w) (hk b h1 h2)).trans c2, c3.move hk⟩
theorem Strs.wide {ws : List Wd} (h : Strs lo hi w v ws) (h1 : lo' ≤ lo) (h2 : hi ≤ hi') : Strs lo' hi' w v ws := by
  obtain ⟨A, n, cap, b, off, e, hn, hm, ha, hc⟩ := h
  exact ⟨A, n, cap, b, off, e, hn, hm, fun h0 => ⟨(ha h0).1, by have := (ha h0).2; omega, by have := (ha h0).2; omega⟩, hc⟩
theorem Lins.wide {xs : List ML} (h : Lins lo hi w v xs) (h1 : lo' ≤ lo) (h2 : hi ≤ hi') : Lins lo' hi' w v xs := by
  obtain ⟨A, n, cap, b, off, e, hn, hm, ha, hc⟩ := h
  exact ⟨A, n, cap, b, off, e, hn, hm, fun h0 => ⟨(ha h0).1, by have := (ha h0).2; omega, by have := (ha h0).2; omega⟩, fun i x hx => ⟨(hc i x hx).1, (hc i x hx).2.1, (hc i x hx).2.2.wide h1 h2⟩⟩
/-- .. behind a step that turns nothing that there was. -/
theorem Lins.below {xs : List ML} (h : Lins lo hi w v xs) (hb : Below hi w w') : Lins lo hi w' v xs := h.move fun k _ hk => hb.block k hk
theorem Strs.below {ws : List Wd} (h : Strs lo hi w v ws) (hb : Below hi w w') : Strs lo hi w' v ws := h.move fun k _ hk => hb.block k hk

/-- a row of strings, of just what it reads. -/
theorem Strs.get {ws : List Wd} {A : Option Addr} {n cap : Nat} (h : Strs lo hi w (.slice A n cap) ws) : ∃ b off, n = ws.length ∧ n ≤ 9223372036854775807 ∧ (0 < n → A = some ⟨b, off, none⟩ ∧ lo ≤ b ∧ b < hi) ∧ ∀ i x, ws[i]? = some x → w.cell? ⟨b, off + i, none⟩ = some (.string ⟨x.toArray⟩) := by
  obtain ⟨A', n', cap', b, off, e, r⟩ := h
  cases e
  exact ⟨b, off, r⟩

theorem Strs.form {ws : List Wd} (h : Strs lo hi w v ws) : ∃ A cap, v = .slice A ws.length cap := by
  obtain ⟨A, n, cap, b, off, rfl, rfl, _⟩ := h
  exact ⟨A, cap, rfl⟩

/-! ### owned -/
theorem Strs.of_own {base : Nat} {e : TypeId} {n : Nat} {ws : List Wd} (h : w.ownsRow base e 1 v n (strs ws)) (hh : w.heap.size ≤ hi) : Strs base hi w v ws := by
  have hl := h.1
  rw [strs_length, Nat.mul_one] at hl
  rcases h.2 with ⟨rfl, hn⟩ | ⟨g, cap, cur, rfl, hb, hg, hnc, hcm, hcs, ht⟩
  · refine ⟨none, 0, 0, 0, 0, rfl, by omega, by omega, by omega, fun i x hx => ?_⟩
    have := (List.getElem?_eq_some_iff.1 hx).1
    omega
  · refine ⟨_, n, cap, g, 0, rfl, hl.symm, by unfold maxLen at hcm; omega, fun _ => ⟨rfl, hb, Nat.lt_of_lt_of_le (Array.getElem?_eq_some_iff.1 hg).1 hh⟩, fun i x hx => ?_⟩
    have := h.cells (g := g) rfl i (.string ⟨x.toArray⟩) (by unfold strs; rw [List.getElem?_map, hx]; rfl)
    have e : (⟨g, 0, none⟩ : Addr).add i = ⟨g, 0 + i, none⟩ := by unfold Addr.add; split <;> simp_all
    rw [e] at this
    exact this

theorem Lins.of_own {base : Nat} {e : TypeId} {n : Nat} {xs : List ML} (h : w.ownsRow base e 2 v n (cells xs)) (hn : n ≤ 4611686018427387903) (hl : lo ≤ base) (hh : w.heap.size ≤ hi) (hs : ∀ x ∈ xs, Strs lo hi w x.2.1 x.2.2) : Lins lo hi w v xs := by
  have hl2 := h.1
  rw [cells_length] at hl2
  rcases h.2 with ⟨rfl, hn⟩ | ⟨g, cap, cur, rfl, hb, hg, hnc, hcm, hcs, ht⟩
  · refine ⟨none, 0, 0, 0, 0, rfl, by omega, by omega, by omega, fun i x hx => ?_⟩
    have := (List.getElem?_eq_some_iff.1 hx).1
    omega
  · refine ⟨_, n, cap, g, 0, rfl, by omega, by omega, fun _ => ⟨rfl, by omega, Nat.lt_of_lt_of_le (Array.getElem?_eq_some_iff.1 hg).1 hh⟩, fun i x hx => ?_⟩
    obtain ⟨c1, c2⟩ := cells_at xs i x hx
    have d1 := h.cells (g := g) rfl _ _ c1
    have d2 := h.cells (g := g) rfl _ _ c2
    have e1 : ∀ j, (⟨g, 0, none⟩ : Addr).add j = ⟨g, 0 + j, none⟩ := fun j => by unfold Addr.add; split <;> simp_all
    rw [e1] at d1 d2
    exact ⟨d1, by rw [Nat.add_assoc]; exact d2, hs x (List.mem_of_getElem? hx)⟩

theorem grown_of {w w' : World} (hb : Below w.heap.size w w') (row : Option Nat) : w.grownBy w' row := ⟨hb.os, hb.tape, hb.output, hb.size, fun k hk _ => hb.block k hk⟩
theorem own_below {base : Nat} {e : TypeId} {size n : Nat} {xs : List Value} (h : w.ownsRow base e size v n xs) (hb : Below w.heap.size w w') : w'.ownsRow base e size v n xs :=
  h.kept (grown_of hb none) (by cases hv : v.ownBlock <;> simp)
theorem own_form {base : Nat} {e : TypeId} {size n : Nat} {xs : List Value} (h : w.ownsRow base e size v n xs) : ∃ A cap, v = .slice A n cap := by
  rcases h.2 with ⟨rfl, rfl⟩ | ⟨g, cap, cur, rfl, _⟩
  · exact ⟨_, _, rfl⟩
  · exact ⟨_, _, rfl⟩
theorem own_lower {base b : Nat} {e : TypeId} {size n : Nat} {xs : List Value} (h : w.ownsRow base e size v n xs) (hb : b ≤ base) : w.ownsRow b e size v n xs := by
  refine ⟨h.1, ?_⟩
  rcases h.2 with h | ⟨g, cap, cur, rfl, h1, r⟩
  · exact .inl h
  · exact .inr ⟨g, cap, cur, rfl, Nat.le_trans hb h1, r⟩
/-- rows of unlike types lie apart. -/
theorem apart {b1 b2 s1 s2 n1 n2 : Nat} {e1 e2 : TypeId} {v1 v2 : Value} {x1 x2 : List Value} (h1 : w.ownsRow b1 e1 s1 v1 n1 x1) (h2 : w.ownsRow b2 e2 s2 v2 n2 x2) (hne : e1 ≠ e2) : v1.ownBlock = none ∨ v1.ownBlock ≠ v2.ownBlock := by
  rcases h1.2 with ⟨rfl, _⟩ | ⟨g, cap, cur, rfl, _, hg, _⟩
  · left; rfl
  · rcases h2.2 with ⟨rfl, _⟩ | ⟨g2, cap2, cur2, rfl, _, hg2, _⟩
    · right; simp [Value.ownBlock]
    · right
      intro e
      simp [Value.ownBlock] at e
      subst e
      rw [hg] at hg2
      simp at hg2
      exact hne hg2.2
theorem apart_at {b1 s1 n1 : Nat} {e1 : TypeId} {v1 : Value} {x1 : List Value} (h1 : w.ownsRow b1 e1 s1 v1 n1 x1) {B : Nat} (hB : ∀ k, v.ownBlock = some k → k < B) (hb : B ≤ b1) : v.ownBlock = none ∨ v.ownBlock ≠ v1.ownBlock := by
  cases hv : v.ownBlock with
  | none => left; rfl
  | some k =>
    right
    intro e
    have := hB k hv
    have := (h1.lt k e.symm).1
    omega

/-- v is a row of lines that the call has made, from block base on, words' rows below hi. -/
def OwnLins (E Es : TypeId) (base hi : Nat) (w : World) (v : Value) (xs : List ML) : Prop :=
  w.ownsRow base E 2 v xs.length (cells xs) ∧ ∀ x ∈ xs, w.ownsRow base Es 1 x.2.1 x.2.2.length (strs x.2.2) ∧ ∀ k, x.2.1.ownBlock = some k → k < hi
variable {E Es : TypeId} {base : Nat} {xs : List ML}
theorem OwnLins.nil (E Es : TypeId) (base hi : Nat) (w : World) : OwnLins E Es base hi w (.slice none 0 0) [] := ⟨World.ownsRow_nil _ _ _ _, fun _ h => by cases h⟩
theorem OwnLins.below (h : OwnLins E Es base hi w v xs) (hb : Below w.heap.size w w') : OwnLins E Es base hi w' v xs := ⟨own_below h.1 hb, fun x hx => ⟨own_below (h.2 x hx).1 hb, (h.2 x hx).2⟩⟩
/-- .. while another row grows. -/
theorem OwnLins.kept {b s n : Nat} {e : TypeId} {u : Value} {us : List Value} (h : OwnLins E Es base hi w v xs) (hu : w.ownsRow b e s u n us) (hg : w.grownBy w' u.ownBlock) (h1 : e ≠ E) (h2 : e ≠ Es ∨ hi ≤ b) : OwnLins E Es base hi w' v xs := by
  refine ⟨h.1.kept hg (apart h.1 hu (Ne.symm h1)), fun x hx => ⟨(h.2 x hx).1.kept hg ?_, (h.2 x hx).2⟩⟩
  rcases h2 with h2 | h2
  · exact apart (h.2 x hx).1 hu (Ne.symm h2)
  · exact apart_at hu (h.2 x hx).2 h2
theorem OwnLins.push {n : Nat} {N : Int} {u v' : Value} {ws : List Wd} (h : OwnLins E Es base hi w v xs) (hE : Es ≠ E) (hu : w.ownsRow base Es 1 u ws.length (strs ws)) (hhi : hi ≤ hi') (huh : w.heap.size ≤ hi') (hg : w.grownBy w' v.ownBlock)
    (hv : w'.ownsRow base E 2 v' n (cells xs ++ [.int .i64 N, u])) (hn : n = xs.length + 1) : OwnLins E Es base hi' w' v' (xs ++ [(N, u, ws)]) := by
  subst hn
  refine ⟨by rw [cells_append, List.length_append]; exact hv, fun x hx => ?_⟩
  rcases List.mem_append.1 hx with hx | hx
  · exact ⟨(h.2 x hx).1.kept hg (apart (h.2 x hx).1 h.1 hE), fun k hk => Nat.lt_of_lt_of_le ((h.2 x hx).2 k hk) hhi⟩
  · rw [List.mem_singleton] at hx
    subst hx
    exact ⟨hu.kept hg (apart hu h.1 hE), fun k hk => Nat.lt_of_lt_of_le (hu.lt k hk).2 huh⟩
theorem OwnLins.lins (h : OwnLins E Es base hi w v xs) (hn : xs.length ≤ 4611686018427387903) : Lins base w.heap.size w v xs :=
  Lins.of_own h.1 hn (Nat.le_refl _) (Nat.le_refl _) fun x hx => Strs.of_own (h.2 x hx).1 (Nat.le_refl _)
theorem OwnLins.up (h : OwnLins E Es base hi w v xs) (hh : hi ≤ hi') : OwnLins E Es base hi' w v xs := ⟨h.1, fun x hx => ⟨(h.2 x hx).1, fun k hk => Nat.lt_of_lt_of_le ((h.2 x hx).2 k hk) hh⟩⟩

/-- 'append(s, x)': one element, laid in a new block. -/
theorem wpList_push {P : Program} {w : World} {ops : Array Oper} {rest : List Oper} {o : Oper} {a : Act} {Q : Exit → Act → World → Prop} (hgd : o.guard = none) (s x : Operand) (t : TypeId)
    (ho : o.op = .call { callee := .builtin .append, args := #[s, x], argTypes := #[t, t] })
    (base : Nat) (e : TypeId) (i : TypeInfo) (z : Value) (size bytes : Nat) (ht : P.underlying t = some (.slice e)) (hi : P.info? e = some i) (hz : i.zero = some z)
    (hsize : i.size = size) (hby : i.bytes = bytes) (hzs : z.cells.size = size) (hsz : 0 < size)
    (v : Value) (n : Nat) (xs : List Value) (hs : a.eval s = v) (hown : w.ownsRow base e size v n xs)
    (news : List Value) (hx : a.eval x = .slice (some ⟨w.heap.size, 0, none⟩) 1 1) (hl : news.length = size) (h1 : ∀ u ∈ news, u.oneCell' = true)
    (h63 : n + 1 ≤ maxLen) (hbytes : (n + 1) * bytes ≤ 140737488355328) (hbase : base ≤ w.heap.size)
    (h : ∀ v' w', w'.ownsRow base e size v' (n + 1) (xs ++ news) → w.grownBy w' v.ownBlock → wpList P ops Q rest (a.put o.dst v') w') :
    wpList P ops Q (o :: rest) a (w.alloc (.cells news.toArray e)) := by
  refine wpList_append_own (w := w.alloc (.cells news.toArray e)) hgd s x t ho base e i z size bytes ht hi hz hsize hby hzs hsz v n xs hs (hown.alloc _) ⟨w.heap.size, 0, none⟩ 1 1 news hx (by omega) ?_ h1 h63 hbytes (by simp; omega) ?_
  · intro j u hu
    have e1 : (⟨w.heap.size, 0, none⟩ : Addr).add j = ⟨w.heap.size, j, none⟩ := by unfold Addr.add; split <;> simp_all
    rw [e1, (Own.made w e news).cell]
    exact hu
  · intro v' w' h2 h3 _
    refine h v' w' h2 ⟨h3.os, h3.tape, h3.output, Nat.le_trans (by simp) h3.size, fun k hk hne => ?_⟩
    exact (h3.block k (by simp; omega) hne).trans (heap_alloc_old w _ hk)

/-- .. where the new block's number is spelled otherwise. -/
theorem wpList_push_at {P : Program} {w : World} {ops : Array Oper} {rest : List Oper} {o : Oper} {a : Act} {Q : Exit → Act → World → Prop} (hgd : o.guard = none) (s x : Operand) (t : TypeId)
    (ho : o.op = .call { callee := .builtin .append, args := #[s, x], argTypes := #[t, t] })
    (base : Nat) (e : TypeId) (i : TypeInfo) (z : Value) (size bytes : Nat) (ht : P.underlying t = some (.slice e)) (hi : P.info? e = some i) (hz : i.zero = some z)
    (hsize : i.size = size) (hby : i.bytes = bytes) (hzs : z.cells.size = size) (hsz : 0 < size)
    (v : Value) (n : Nat) (xs : List Value) (hs : a.eval s = v) (hown : w.ownsRow base e size v n xs)
    (news : List Value) (k : Nat) (hk : k = w.heap.size) (hx : a.eval x = .slice (some ⟨k, 0, none⟩) 1 1) (hl : news.length = size) (h1 : ∀ u ∈ news, u.oneCell' = true)
    (h63 : n + 1 ≤ maxLen) (hbytes : (n + 1) * bytes ≤ 140737488355328) (hbase : base ≤ w.heap.size)
    (h : ∀ v' w', w'.ownsRow base e size v' (n + 1) (xs ++ news) → w.grownBy w' v.ownBlock → wpList P ops Q rest (a.put o.dst v') w') :
    wpList P ops Q (o :: rest) a (w.alloc (.cells news.toArray e)) := by
  subst hk
  exact wpList_push hgd s x t ho base e i z size bytes ht hi hz hsize hby hzs hsz v n xs hs hown news hx hl h1 h63 hbytes hbase h

theorem below_grown {B : Nat} {a w w' : World} {b s n : Nat} {e : TypeId} {u : Value} {us : List Value} (h : Below B a w) (hu : w.ownsRow b e s u n us) (hg : w.grownBy w' u.ownBlock) (hB : B ≤ w.heap.size) (hb : B ≤ b) : Below B a w' :=
  h.grown hg hB fun k hk => Nat.le_trans hb (hu.lt k hk).1
end Go.Proofs.YtikfncgdjnljiaaDoor.LinesM

namespace Go.Proofs.YtikfncgdjnljiaaDoor
open Go.RowKit LinesM Mem

theorem ret_int {k : IntKind} {a b : Int} (h : a = b) : Ending.returned (.int k a) = .returned (.int k b) := by rw [h]
theorem drop_at (s : ByteArray) (k : Nat) (h : k < s.size) : s.data.toList.drop k = s[k] :: s.data.toList.drop (k + 1) := by
  rw [List.drop_eq_getElem_cons (by simpa using h)]; rfl
theorem size_list (s : ByteArray) : s.data.toList.length = s.size := by rw [Array.length_toList]; rfl

theorem index_seg (l : List UInt8) : Lib.indexByte l 10 = if (seg l).length = l.length then -1 else ((seg l).length : Int) := by
  induction l with
  | nil => rfl
  | cons c l ih =>
    unfold Lib.indexByte
    by_cases hc : c = 10
    · subst hc; simp [seg]
    · have e : seg (c :: l) = c :: seg l := by unfold seg; rw [List.takeWhile_cons_of_pos (by simp [hc])]
      have hb : (c == 10) = false := by simpa using hc
      rw [hb, e, ih]
      have := seg_le l
      by_cases h : (seg l).length = l.length
      · rw [if_pos h]; simp [h]
      · rw [if_neg h]
        have h2 : ((((seg l).length : Int)) == -1) = false := by simp
        rw [h2]
        simp [h]

end Go.Proofs.YtikfncgdjnljiaaDoor

namespace Go.Proofs.YtikfncgdjnljiaaDoor
open Go.RowKit LinesM Mem

theorem s_info : (Tryd.prog.info? 9).map (fun i => (i.zero, i.size, i.bytes)) = some (some (.string ⟨#[]⟩), 1, 16) := by kernel_rfl

/-- What cutting a line leaves. -/
def CutPost (W : World) (q : List Wd × Bool) (e : Ending) (w' : World) : Prop :=
  ∃ v, e = .returned (.tuple #[v, .bool q.2]) ∧ w'.ownsRow W.heap.size 9 1 v q.1.length (strs q.1) ∧ Below W.heap.size W w'

theorem word_of (s : ByteArray) (i j : Nat) : s.extract i j = ⟨((s.data.toList.drop i).take (j - i)).toArray⟩ := by
  have := Lib.extract_data s i j
  rw [← this]

theorem ends_of {s : ByteArray} {i : Nat} {b : Bool} (h : (words (s.data.toList.drop i)).2 = b) (h0 : run 0 (s.data.toList.drop i) = 0) (hi : i < s.size) : (kindB s[i] == 2) = b := by
  rw [words, dif_pos h0, drop_at s i hi] at h
  exact h

theorem words_step {l : List UInt8} (h : run 0 l ≠ 0) :
    words l = (l.take (run 0 l) :: (words ((l.drop (run 0 l)).drop (run 1 (l.drop (run 0 l))))).1, (words ((l.drop (run 0 l)).drop (run 1 (l.drop (run 0 l))))).2) := by
  rw [words, dif_neg h]
theorem run_pos {c : UInt8} {l : List UInt8} (h : kindB c = 0) : run 0 (c :: l) ≠ 0 := by rw [run_cons_yes h]; omega

/-- a word more, in the relation of the round. -/
theorem cut_rel {s : ByteArray} {j m a : Nat} {acc : List Wd} {q : List Wd × Bool} (hk : run 0 (s.data.toList.drop j) ≠ 0) (hm : j + run 0 (s.data.toList.drop j) = m) (ha : m + run 1 (s.data.toList.drop m) = a)
    (h : acc ++ (words (s.data.toList.drop j)).1 = q.1 ∧ (words (s.data.toList.drop j)).2 = q.2) :
    (acc ++ [(s.data.toList.drop j).take (m - j)]) ++ (words (s.data.toList.drop a)).1 = q.1 ∧ (words (s.data.toList.drop a)).2 = q.2 := by
  have e : run 0 (s.data.toList.drop j) = m - j := by omega
  rw [words_step hk] at h
  have h2 : (s.data.toList.drop j).drop (run 0 (s.data.toList.drop j)) = s.data.toList.drop m := by rw [List.drop_drop, hm]
  rw [h2, List.drop_drop, ha, e] at h
  simpa using h

theorem one_str (x : Wd) : ∀ u ∈ [Value.string ⟨x.toArray⟩], u.oneCell' = true := by intro u hu; rw [List.mem_singleton] at hu; subst hu; rfl

theorem seg_take (l : List UInt8) : l.take (seg l).length = seg l := by
  obtain ⟨t, ht⟩ := List.takeWhile_prefix (l := l) (fun c : UInt8 => c != 10)
  have e : l = seg l ++ t := ht.symm
  conv => lhs; rw [e]
  have : seg (seg l ++ t) = seg l := by rw [← e]
  rw [this, List.take_left']
  rfl

theorem split_step {n : Nat} {out : List Ln} {l : List UInt8} {ws : List Wd} {b : Bool} (h0 : l ≠ []) (h : cutV (seg l) = (ws, b)) :
    splitP n out l = if b = true then splitP (n + 1) (emit n out ws) (l.drop ((seg l).length + 1)) else ([], n, 3) := by
  rw [splitP, dif_neg h0]
  simp only [h]
theorem split_end {n : Nat} {out : List Ln} : splitP n out [] = (out, 0, 0) := by rw [splitP, dif_pos rfl]

theorem two_cells (n : Int) {w : World} {b e k : Nat} {v : Value} {xs : List Value} (h : w.ownsRow b e 1 v k xs) : ∀ u ∈ [Value.int .i64 n, v], u.oneCell' = true := by
  intro u hu
  simp only [List.mem_cons, List.not_mem_nil, or_false] at hu
  rcases hu with rfl | rfl
  · rfl
  · rcases h.2 with ⟨rfl, _⟩ | ⟨g, cap, cur, rfl, _⟩ <;> rfl

end Go.Proofs.YtikfncgdjnljiaaDoor
