/-
  CallsL CallsF CallsW Ref01 Ref01T Ref02 Ref02T Ref03 Ref03R
-/
import Derived.Test.YtdgmdpphimenjaaDoorMem
import Derived.Test.YtdgmdpphimenjaaDoorPlainN
import Derived.Test.YtdgmdpphimenjaaDoorCallsN
import Derived.Lib.Bytealg
import Derived.Lib.Strings
import Derived.Lib.Walk
import Derived.Deep.QuietTactic
import Derived.BigQuiet
import Derived.Test.YtdgmdpphimenjaaDoorRows
import Derived.Laws.Externs
import Derived.WalkKit
import Derived.WalkSpells
import Derived.WalkLawsBesides
import Derived.Below
import Derived.Lib.Hide
import Derived.Laws.IdiomStrings
import Derived.Lib.LazyBuf
import Derived.Lib.SlBuf
import Derived.WalkSmall
import Derived.Laws.ResultCell
/-
  Rows of strings, and rows of lines (a number, and a row of strings), in memory: read, and owned. No program is named here.
  lines.kind, behind, lineEnd, walked.
  lines.cut and lines.Split, walked.
-/
namespace Go.Proofs.YtdgmdpphimenjaaDoor.LinesM
open Go.RowKit Mem

def strs (ws : List Wd) : List Value := ws.map fun x => .string ⟨x.toArray⟩
/-- A line as it lies in memory: its number, the value that its words are, and these. -/
abbrev ML := Int × Value × List Wd
def cells (xs : List ML) : List Value := xs.flatMap fun x => [.int .i64 x.1, x.2.1]
def line (x : ML) : Int × List Wd := (x.1, x.2.2)
def lns (out : List Ln) : List (Int × List Wd) := out.map fun x => ((x.1 : Int), x.2)

theorem strs_length (ws : List Wd) : (strs ws).length = ws.length := List.length_map _
theorem strs_append (a b : List Wd) : strs (a ++ b) = strs a ++ strs b := List.map_append
theorem cells_length (xs : List ML) : (cells xs).length = xs.length * 2 := by
  induction xs with
  | nil => rfl
  | cons x xs ih => simp only [cells, List.flatMap_cons, List.length_append, List.length_cons, List.length_nil] at ih ⊢; omega
theorem cells_append (xs ys : List ML) : cells (xs ++ ys) = cells xs ++ cells ys := List.flatMap_append
theorem cells_at (xs : List ML) : ∀ (i : Nat) (x : ML), xs[i]? = some x → (cells xs)[i * 2]? = some (.int .i64 x.1) ∧ (cells xs)[i * 2 + 1]? = some x.2.1 := by
  induction xs with
  | nil => intro i x h; simp at h
  | cons y xs ih =>
    intro i x h
    have e : cells (y :: xs) = .int .i64 y.1 :: y.2.1 :: cells xs := rfl
    rw [e]
    cases i with
    | zero => simp at h; subst h; exact ⟨rfl, rfl⟩
    | succ i =>
      have := ih i x (by simpa using h)
      have e1 : (i + 1) * 2 = i * 2 + 1 + 1 := by omega
      rw [e1]
      simpa using this

/-! ### reading -/
/-- v is a row of the strings ws, in blocks from lo on and below hi. -/
def Strs (lo hi : Nat) (w : World) (v : Value) (ws : List Wd) : Prop :=
  ∃ A n cap b off, v = .slice A n cap ∧ n = ws.length ∧ n ≤ 9223372036854775807 ∧ (0 < n → A = some ⟨b, off, none⟩ ∧ lo ≤ b ∧ b < hi) ∧ ∀ i x, ws[i]? = some x → w.cell? ⟨b, off + i, none⟩ = some (.string ⟨x.toArray⟩)
/-- v is a row of the lines xs. -/
def Lins (lo hi : Nat) (w : World) (v : Value) (xs : List ML) : Prop :=
  ∃ A n cap b off, v = .slice A n cap ∧ n = xs.length ∧ n ≤ 4611686018427387903 ∧ (0 < n → A = some ⟨b, off, none⟩ ∧ lo ≤ b ∧ b < hi) ∧
    ∀ i x, xs[i]? = some x → w.cell? ⟨b, off + i * 2, none⟩ = some (.int .i64 x.1) ∧ w.cell? ⟨b, off + i * 2 + 1, none⟩ = some x.2.1 ∧ Strs lo hi w x.2.1 x.2.2

variable {w w' : World} {lo hi lo' hi' : Nat} {v : Value}
theorem Strs.move {ws : List Wd} (h : Strs lo hi w v ws) (hk : ∀ k, lo ≤ k → k < hi → w'.heap[k]? = w.heap[k]?) : Strs lo hi w' v ws := by
  obtain ⟨A, n, cap, b, off, e, hn, hm, ha, hc⟩ := h
  refine ⟨A, n, cap, b, off, e, hn, hm, ha, fun i x hx => ?_⟩
  have hi : i < ws.length := (List.getElem?_eq_some_iff.1 hx).1
  obtain ⟨_, h1, h2⟩ := ha (by omega)
  exact (World.cell?_of_block (w := w) (hk b h1 h2)).trans (hc i x hx)
theorem Lins.move {xs : List ML} (h : Lins lo hi w v xs) (hk : ∀ k, lo ≤ k → k < hi → w'.heap[k]? = w.heap[k]?) : Lins lo hi w' v xs := by
  obtain ⟨A, n, cap, b, off, e, hn, hm, ha, hc⟩ := h
  refine ⟨A, n, cap, b, off, e, hn, hm, ha, fun i x hx => ?_⟩
  have hi : i < xs.length := (List.getElem?_eq_some_iff.1 hx).1
  obtain ⟨_, h1, h2⟩ := ha (by omega)
  obtain ⟨c1, c2, c3⟩ := hc i x hx
  exact ⟨(World.cell?_of_block (w := w) (hk b h1 h2)).trans c1, (World.cell?_of_block (w := w) (hk b h1 h2)).trans c2, c3.move hk⟩
theorem Strs.wide {ws : List Wd} (h : Strs lo hi w v ws) (h1 : lo' ≤ lo) (h2 : hi ≤ hi') : Strs lo' hi' w v ws := by
  obtain ⟨A, n, cap, b, off, e, hn, hm, ha, hc⟩ := h
  exact ⟨A, n, cap, b, off, e, hn, hm, fun h0 => ⟨(ha h0).1, by have := (ha h0).2; omega, by have := (ha h0).2; omega⟩, hc⟩
theorem Lins.wide {xs : List ML} (h : Lins lo hi w v xs) (h1 : lo' ≤ lo) (h2 : hi ≤ hi') : Lins lo' hi' w v xs := by
  obtain ⟨A, n, cap, b, off, e, hn, hm, ha, hc⟩ := h
  exact ⟨A, n, cap, b, off, e, hn, hm, fun h0 => ⟨(ha h0).1, by have := (ha h0).2; omega, by have := (ha h0).2; omega⟩, fun i x hx => ⟨(hc i x hx).1, (hc i x hx).2.1, (hc i x hx).2.2.wide h1 h2⟩⟩
/-- .. behind a step that turns nothing that there was. -/
theorem Lins.below {xs : List ML} (h : Lins lo hi w v xs) (hb : Below hi w w') : Lins lo hi w' v xs := h.move fun k _ hk => hb.block k hk
theorem Strs.below {ws : List Wd} (h : Strs lo hi w v ws) (hb : Below hi w w') : Strs lo hi w' v ws := h.move fun k _ hk => hb.block k hk

/-- a row of strings, of just what it reads. -/
theorem Strs.get {ws : List Wd} {A : Option Addr} {n cap : Nat} (h : Strs lo hi w (.slice A n cap) ws) : ∃ b off, n = ws.length ∧ n ≤ 9223372036854775807 ∧ (0 < n → A = some ⟨b, off, none⟩ ∧ lo ≤ b ∧ b < hi) ∧ ∀ i x, ws[i]? = some x → w.cell? ⟨b, off + i, none⟩ = some (.string ⟨x.toArray⟩) := by
  obtain ⟨A', n', cap', b, off, e, r⟩ := h
  cases e
  exact ⟨b, off, r⟩

theorem Strs.form {ws : List Wd} (h : Strs lo hi w v ws) : ∃ A cap, v = .slice A ws.length cap := by
  obtain ⟨A, n, cap, b, off, rfl, rfl, _⟩ := h
  exact ⟨A, cap, rfl⟩

/-! ### owned -/
theorem Strs.of_own {base : Nat} {e : TypeId} {n : Nat} {ws : List Wd} (h : w.ownsRow base e 1 v n (strs ws)) (hh : w.heap.size ≤ hi) : Strs base hi w v ws := by
  have hl := h.1
  rw [strs_length, Nat.mul_one] at hl
  rcases h.2 with ⟨rfl, hn⟩ | ⟨g, cap, cur, rfl, hb, hg, hnc, hcm, hcs, ht⟩
  · refine ⟨none, 0, 0, 0, 0, rfl, by omega, by omega, by omega, fun i x hx => ?_⟩
    have := (List.getElem?_eq_some_iff.1 hx).1
    omega
  · refine ⟨_, n, cap, g, 0, rfl, hl.symm, by unfold maxLen at hcm; omega, fun _ => ⟨rfl, hb, Nat.lt_of_lt_of_le (Array.getElem?_eq_some_iff.1 hg).1 hh⟩, fun i x hx => ?_⟩
    have := h.cells (g := g) rfl i (.string ⟨x.toArray⟩) (by unfold strs; rw [List.getElem?_map, hx]; rfl)
    have e : (⟨g, 0, none⟩ : Addr).add i = ⟨g, 0 + i, none⟩ := by unfold Addr.add; split <;> simp_all
    rw [e] at this
    exact this

theorem Lins.of_own {base : Nat} {e : TypeId} {n : Nat} {xs : List ML} (h : w.ownsRow base e 2 v n (cells xs)) (hn : n ≤ 4611686018427387903) (hl : lo ≤ base) (hh : w.heap.size ≤ hi) (hs : ∀ x ∈ xs, Strs lo hi w x.2.1 x.2.2) : Lins lo hi w v xs := by
  have hl2 := h.1
  rw [cells_length] at hl2
  rcases h.2 with ⟨rfl, hn⟩ | ⟨g, cap, cur, rfl, hb, hg, hnc, hcm, hcs, ht⟩
  · refine ⟨none, 0, 0, 0, 0, rfl, by omega, by omega, by omega, fun i x hx => ?_⟩
    have := (List.getElem?_eq_some_iff.1 hx).1
    omega
  · refine ⟨_, n, cap, g, 0, rfl, by omega, by omega, fun _ => ⟨rfl, by omega, Nat.lt_of_lt_of_le (Array.getElem?_eq_some_iff.1 hg).1 hh⟩, fun i x hx => ?_⟩
    obtain ⟨c1, c2⟩ := cells_at xs i x hx
    have d1 := h.cells (g := g) rfl _ _ c1
    have d2 := h.cells (g := g) rfl _ _ c2
    have e1 : ∀ j, (⟨g, 0, none⟩ : Addr).add j = ⟨g, 0 + j, none⟩ := fun j => by unfold Addr.add; split <;> simp_all
    rw [e1] at d1 d2
    exact ⟨d1, by rw [Nat.add_assoc]; exact d2, hs x (List.mem_of_getElem? hx)⟩

theorem grown_of {w w' : World} (hb : Below w.heap.size w w') (row : Option Nat) : w.grownBy w' row := ⟨hb.os, hb.tape, hb.output, hb.size, fun k hk _ => hb.block k hk⟩
theorem own_below {base : Nat} {e : TypeId} {size n : Nat} {xs : List Value} (h : w.ownsRow base e size v n xs) (hb : Below w.heap.size w w') : w'.ownsRow base e size v n xs :=
  h.kept (grown_of hb none) (by cases hv : v.ownBlock <;> simp)
theorem own_form {base : Nat} {e : TypeId} {size n : Nat} {xs : List Value} (h : w.ownsRow base e size v n xs) : ∃ A cap, v = .slice A n cap := by
  rcases h.2 with ⟨rfl, rfl⟩ | ⟨g, cap, cur, rfl, _⟩
  · exact ⟨_, _, rfl⟩
  · exact ⟨_, _, rfl⟩
theorem own_lower {base b : Nat} {e : TypeId} {size n : Nat} {xs : List Value} (h : w.ownsRow base e size v n xs) (hb : b ≤ base) : w.ownsRow b e size v n xs := by
  refine ⟨h.1, ?_⟩
  rcases h.2 with h | ⟨g, cap, cur, rfl, h1, r⟩
  · exact .inl h
  · exact .inr ⟨g, cap, cur, rfl, Nat.le_trans hb h1, r⟩
/-- rows of unlike types lie apart. -/
theorem apart {b1 b2 s1 s2 n1 n2 : Nat} {e1 e2 : TypeId} {v1 v2 : Value} {x1 x2 : List Value} (h1 : w.ownsRow b1 e1 s1 v1 n1 x1) (h2 : w.ownsRow b2 e2 s2 v2 n2 x2) (hne : e1 ≠ e2) : v1.ownBlock = none ∨ v1.ownBlock ≠ v2.ownBlock := by
  rcases h1.2 with ⟨rfl, _⟩ | ⟨g, cap, cur, rfl, _, hg, _⟩
  · left; rfl
  · rcases h2.2 with ⟨rfl, _⟩ | ⟨g2, cap2, cur2, rfl, _, hg2, _⟩
    · right; simp [Value.ownBlock]
    · right
      intro e
      simp [Value.ownBlock] at e
      subst e
      rw [hg] at hg2
      simp at hg2
      exact hne hg2.2
theorem apart_at {b1 s1 n1 : Nat} {e1 : TypeId} {v1 : Value} {x1 : List Value} (h1 : w.ownsRow b1 e1 s1 v1 n1 x1) {B : Nat} (hB : ∀ k, v.ownBlock = some k → k < B) (hb : B ≤ b1) : v.ownBlock = none ∨ v.ownBlock ≠ v1.ownBlock := by
  cases hv : v.ownBlock with
  | none => left; rfl
  | some k =>
    right
    intro e
    have := hB k hv
    have := (h1.lt k e.symm).1
    omega

/-- v is a row of lines that the call has made, from block base on, words' rows below hi. -/
def OwnLins (E Es : TypeId) (base hi : Nat) (w : World) (v : Value) (xs : List ML) : Prop :=
  w.ownsRow base E 2 v xs.length (cells xs) ∧ ∀ x ∈ xs, w.ownsRow base Es 1 x.2.1 x.2.2.length (strs x.2.2) ∧ ∀ k, x.2.1.ownBlock = some k → k < hi
variable {E Es : TypeId} {base : Nat} {xs : List ML}
theorem OwnLins.nil (E Es : TypeId) (base hi : Nat) (w : World) : OwnLins E Es base hi w (.slice none 0 0) [] := ⟨World.ownsRow_nil _ _ _ _, fun _ h => by cases h⟩
theorem OwnLins.below (h : OwnLins E Es base hi w v xs) (hb : Below w.heap.size w w') : OwnLins E Es base hi w' v xs := ⟨own_below h.1 hb, fun x hx => ⟨own_below (h.2 x hx).1 hb, (h.2 x hx).2⟩⟩
/-- .. while another row grows. -/
theorem OwnLins.kept {b s n : Nat} {e : TypeId} {u : Value} {us : List Value} (h : OwnLins E Es base hi w v xs) (hu : w.ownsRow b e s u n us) (hg : w.grownBy w' u.ownBlock) (h1 : e ≠ E) (h2 : e ≠ Es ∨ hi ≤ b) : OwnLins E Es base hi w' v xs := by
  refine ⟨h.1.kept hg (apart h.1 hu (Ne.symm h1)), fun x hx => ⟨(h.2 x hx).1.kept hg ?_, (h.2 x hx).2⟩⟩
  rcases h2 with h2 | h2
  · exact apart (h.2 x hx).1 hu (Ne.symm h2)
  · exact apart_at hu (h.2 x hx).2 h2
theorem OwnLins.push {n : Nat} {N : Int} {u v' : Value} {ws : List Wd} (h : OwnLins E Es base hi w v xs) (hE : Es ≠ E) (hu : w.ownsRow base Es 1 u ws.length (strs ws)) (hhi : hi ≤ hi') (huh : w.heap.size ≤ hi') (hg : w.grownBy w' v.ownBlock)
    (hv : w'.ownsRow base E 2 v' n (cells xs ++ [.int .i64 N, u])) (hn : n = xs.length + 1) : OwnLins E Es base hi' w' v' (xs ++ [(N, u, ws)]) := by
  subst hn
  refine ⟨by rw [cells_append, List.length_append]; exact hv, fun x hx => ?_⟩
  rcases List.mem_append.1 hx with hx | hx
  · exact ⟨(h.2 x hx).1.kept hg (apart (h.2 x hx).1 h.1 hE), fun k hk => Nat.lt_of_lt_of_le ((h.2 x hx).2 k hk) hhi⟩
  · rw [List.mem_singleton] at hx
    subst hx
    exact ⟨hu.kept hg (apart hu h.1 hE), fun k hk => Nat.lt_of_lt_of_le (hu.lt k hk).2 huh⟩
theorem OwnLins.lins (h : OwnLins E Es base hi w v xs) (hn : xs.length ≤ 4611686018427387903) : Lins base w.heap.size w v xs :=
  Lins.of_own h.1 hn (Nat.le_refl _) (Nat.le_refl _) fun x hx => Strs.of_own (h.2 x hx).1 (Nat.le_refl _)
theorem OwnLins.up (h : OwnLins E Es base hi w v xs) (hh : hi ≤ hi') : OwnLins E Es base hi' w v xs := ⟨h.1, fun x hx => ⟨(h.2 x hx).1, fun k hk => Nat.lt_of_lt_of_le ((h.2 x hx).2 k hk) hh⟩⟩

/-- 'append(s, x)': one element, laid in a new block. -/
theorem wpList_push {P : Program} {w : World} {ops : Array Oper} {rest : List Oper} {o : Oper} {a : Act} {Q : Exit → Act → World → Prop} (hgd : o.guard = none) (s x : Operand) (t : TypeId)
    (ho : o.op = .call { callee := .builtin .append, args := #[s, x], argTypes := #[t, t] })
    (base : Nat) (e : TypeId) (i : TypeInfo) (z : Value) (size bytes : Nat) (ht : P.underlying t = some (.slice e)) (hi : P.info? e = some i) (hz : i.zero = some z)
    (hsize : i.size = size) (hby : i.bytes = bytes) (hzs : z.cells.size = size) (hsz : 0 < size)
    (v : Value) (n : Nat) (xs : List Value) (hs : a.eval s = v) (hown : w.ownsRow base e size v n xs)
    (news : List Value) (hx : a.eval x = .slice (some ⟨w.heap.size, 0, none⟩) 1 1) (hl : news.length = size) (h1 : ∀ u ∈ news, u.oneCell' = true)
    (h63 : n + 1 ≤ maxLen) (hbytes : (n + 1) * bytes ≤ 140737488355328) (hbase : base ≤ w.heap.size)
    (h : ∀ v' w', w'.ownsRow base e size v' (n + 1) (xs ++ news) → w.grownBy w' v.ownBlock → wpList P ops Q rest (a.put o.dst v') w') :
    wpList P ops Q (o :: rest) a (w.alloc (.cells news.toArray e)) := by
  refine wpList_append_own (w := w.alloc (.cells news.toArray e)) hgd s x t ho base e i z size bytes ht hi hz hsize hby hzs hsz v n xs hs (hown.alloc _) ⟨w.heap.size, 0, none⟩ 1 1 news hx (by omega) ?_ h1 h63 hbytes (by simp; omega) ?_
  · intro j u hu
    have e1 : (⟨w.heap.size, 0, none⟩ : Addr).add j = ⟨w.heap.size, j, none⟩ := by unfold Addr.add; split <;> simp_all
    rw [e1, (Own.made w e news).cell]
    exact hu
  · intro v' w' h2 h3 _
    refine h v' w' h2 ⟨h3.os, h3.tape, h3.output, Nat.le_trans (by simp) h3.size, fun k hk hne => ?_⟩
    exact (h3.block k (by simp; omega) hne).trans (heap_alloc_old w _ hk)

/-- .. where the new block's number is spelled otherwise. -/
theorem wpList_push_at {P : Program} {w : World} {ops : Array Oper} {rest : List Oper} {o : Oper} {a : Act} {Q : Exit → Act → World → Prop} (hgd : o.guard = none) (s x : Operand) (t : TypeId)
    (ho : o.op = .call { callee := .builtin .append, args := #[s, x], argTypes := #[t, t] })
    (base : Nat) (e : TypeId) (i : TypeInfo) (z : Value) (size bytes : Nat) (ht : P.underlying t = some (.slice e)) (hi : P.info? e = some i) (hz : i.zero = some z)
    (hsize : i.size = size) (hby : i.bytes = bytes) (hzs : z.cells.size = size) (hsz : 0 < size)
    (v : Value) (n : Nat) (xs : List Value) (hs : a.eval s = v) (hown : w.ownsRow base e size v n xs)
    (news : List Value) (k : Nat) (hk : k = w.heap.size) (hx : a.eval x = .slice (some ⟨k, 0, none⟩) 1 1) (hl : news.length = size) (h1 : ∀ u ∈ news, u.oneCell' = true)
    (h63 : n + 1 ≤ maxLen) (hbytes : (n + 1) * bytes ≤ 140737488355328) (hbase : base ≤ w.heap.size)
    (h : ∀ v' w', w'.ownsRow base e size v' (n + 1) (xs ++ news) → w.grownBy w' v.ownBlock → wpList P ops Q rest (a.put o.dst v') w') :
    wpList P ops Q (o :: rest) a (w.alloc (.cells news.toArray e)) := by
  subst hk
  exact wpList_push hgd s x t ho base e i z size bytes ht hi hz hsize hby hzs hsz v n xs hs hown news hx hl h1 h63 hbytes hbase h

theorem below_grown {B : Nat} {a w w' : World} {b s n : Nat} {e : TypeId} {u : Value} {us : List Value} (h : Below B a w) (hu : w.ownsRow b e s u n us) (hg : w.grownBy w' u.ownBlock) (hB : B ≤ w.heap.size) (hb : B ≤ b) : Below B a w' :=
  h.grown hg hB fun k hk => Nat.le_trans hb (hu.lt k hk).1
end Go.Proofs.YtdgmdpphimenjaaDoor.LinesM

namespace Go.Proofs.YtdgmdpphimenjaaDoor
open Go.RowKit LinesM Mem

theorem ret_int {k : IntKind} {a b : Int} (h : a = b) : Ending.returned (.int k a) = .returned (.int k b) := by rw [h]
theorem drop_at (s : ByteArray) (k : Nat) (h : k < s.size) : s.data.toList.drop k = s[k] :: s.data.toList.drop (k + 1) := by
  rw [List.drop_eq_getElem_cons (by simpa using h)]; rfl
theorem size_list (s : ByteArray) : s.data.toList.length = s.size := by rw [Array.length_toList]; rfl

theorem index_seg (l : List UInt8) : Lib.indexByte l 10 = if (seg l).length = l.length then -1 else ((seg l).length : Int) := by
  induction l with
  | nil => rfl
  | cons c l ih =>
    unfold Lib.indexByte
    by_cases hc : c = 10
    · subst hc; simp [seg]
    · have e : seg (c :: l) = c :: seg l := by unfold seg; rw [List.takeWhile_cons_of_pos (by simp [hc])]
      have hb : (c == 10) = false := by simpa using hc
      rw [hb, e, ih]
      have := seg_le l
      by_cases h : (seg l).length = l.length
      · rw [if_pos h]; simp [h]
      · rw [if_neg h]
        have h2 : ((((seg l).length : Int)) == -1) = false := by simp
        rw [h2]
        simp [h]

end Go.Proofs.YtdgmdpphimenjaaDoor

namespace Go.Proofs.YtdgmdpphimenjaaDoor
open Go.RowKit LinesM Mem

theorem s_info : (Tryd.prog.info? 9).map (fun i => (i.zero, i.size, i.bytes)) = some (some (.string ⟨#[]⟩), 1, 16) := by kernel_rfl

/-- What cutting a line leaves. -/
def CutPost (W : World) (q : List Wd × Bool) (e : Ending) (w' : World) : Prop :=
  ∃ v, e = .returned (.tuple #[v, .bool q.2]) ∧ w'.ownsRow W.heap.size 9 1 v q.1.length (strs q.1) ∧ Below W.heap.size W w'

theorem word_of (s : ByteArray) (i j : Nat) : s.extract i j = ⟨((s.data.toList.drop i).take (j - i)).toArray⟩ := by
  have := Lib.extract_data s i j
  rw [← this]

theorem ends_of {s : ByteArray} {i : Nat} {b : Bool} (h : (words (s.data.toList.drop i)).2 = b) (h0 : run 0 (s.data.toList.drop i) = 0) (hi : i < s.size) : (kindB s[i] == 2) = b := by
  rw [words, dif_pos h0, drop_at s i hi] at h
  exact h

theorem words_step {l : List UInt8} (h : run 0 l ≠ 0) :
    words l = (l.take (run 0 l) :: (words ((l.drop (run 0 l)).drop (run 1 (l.drop (run 0 l))))).1, (words ((l.drop (run 0 l)).drop (run 1 (l.drop (run 0 l))))).2) := by
  rw [words, dif_neg h]
theorem run_pos {c : UInt8} {l : List UInt8} (h : kindB c = 0) : run 0 (c :: l) ≠ 0 := by rw [run_cons_yes h]; omega

/-- a word more, in the relation of the round. -/
theorem cut_rel {s : ByteArray} {j m a : Nat} {acc : List Wd} {q : List Wd × Bool} (hk : run 0 (s.data.toList.drop j) ≠ 0) (hm : j + run 0 (s.data.toList.drop j) = m) (ha : m + run 1 (s.data.toList.drop m) = a)
    (h : acc ++ (words (s.data.toList.drop j)).1 = q.1 ∧ (words (s.data.toList.drop j)).2 = q.2) :
    (acc ++ [(s.data.toList.drop j).take (m - j)]) ++ (words (s.data.toList.drop a)).1 = q.1 ∧ (words (s.data.toList.drop a)).2 = q.2 := by
  have e : run 0 (s.data.toList.drop j) = m - j := by omega
  rw [words_step hk] at h
  have h2 : (s.data.toList.drop j).drop (run 0 (s.data.toList.drop j)) = s.data.toList.drop m := by rw [List.drop_drop, hm]
  rw [h2, List.drop_drop, ha, e] at h
  simpa using h

theorem one_str (x : Wd) : ∀ u ∈ [Value.string ⟨x.toArray⟩], u.oneCell' = true := by intro u hu; rw [List.mem_singleton] at hu; subst hu; rfl

theorem l_info : (Tryd.prog.info? 115).map (fun i => (i.zero, i.size, i.bytes)) = some (some (.agg #[.int .i64 0, .slice none 0 0]), 2, 32) := by kernel_rfl

/-- What splitting a text leaves. -/
def SplitPost (W : World) (r : Res) (e : Ending) (w' : World) : Prop :=
  ∃ v xs, e = .returned (.tuple #[v, .int .i64 (r.2.1 : Int), .int .i64 (r.2.2 : Int)]) ∧ xs.map line = lns r.1 ∧ xs.length ≤ 4194305 ∧ OwnLins 115 9 W.heap.size w'.heap.size w' v xs ∧ Below W.heap.size W w'

theorem seg_take (l : List UInt8) : l.take (seg l).length = seg l := by
  obtain ⟨t, ht⟩ := List.takeWhile_prefix (l := l) (fun c : UInt8 => c != 10)
  have e : l = seg l ++ t := ht.symm
  conv => lhs; rw [e]
  have : seg (seg l ++ t) = seg l := by rw [← e]
  rw [this, List.take_left']
  rfl

theorem split_step {n : Nat} {out : List Ln} {l : List UInt8} {ws : List Wd} {b : Bool} (h0 : l ≠ []) (h : cutV (seg l) = (ws, b)) :
    splitP n out l = if b = true then splitP (n + 1) (emit n out ws) (l.drop ((seg l).length + 1)) else ([], n, 3) := by
  rw [splitP, dif_neg h0]
  simp only [h]
theorem split_end {n : Nat} {out : List Ln} : splitP n out [] = (out, 0, 0) := by rw [splitP, dif_pos rfl]

theorem two_cells (n : Int) {w : World} {b e k : Nat} {v : Value} {xs : List Value} (h : w.ownsRow b e 1 v k xs) : ∀ u ∈ [Value.int .i64 n, v], u.oneCell' = true := by
  intro u hu
  simp only [List.mem_cons, List.not_mem_nil, or_false] at hu
  rcases hu with rfl | rfl
  · rfl
  · rcases h.2 with ⟨rfl, _⟩ | ⟨g, cap, cur, rfl, _⟩ <;> rfl

end Go.Proofs.YtdgmdpphimenjaaDoor

/-
  What flo.Plain, flo.number, flo.bits, flo.truth and flo.Do do, on whatever they are given. A result that is no number has whatever bits; what is answered hangs on none of them.
  Plain facts on floats and whole numbers, each turned into the other. No program is named here.
  flo.OfInt and flo.ToInt, on whatever they are given.
  flo.Put: 0f, and a float's sixteen digits, laid from the last one on into an array.
  flo.digit, flo.read, flo.Get: a text as a float.
-/
namespace Go.Proofs.YtdgmdpphimenjaaDoor
open Go.RowKit NumM FloM

theorem ret_i {k : IntKind} {a b : Int} (h : a = b) : Ending.returned (Value.int k a) = .returned (.int k b) := by rw [h]
theorem ret_p {a b : Int} {x y : Bool} (h : a = b) (h' : x = y) : Ending.returned (.tuple #[.int .i64 a, .bool x]) = .returned (.tuple #[.int .i64 b, .bool y]) := by rw [h, h']

set_option maxHeartbeats 400000 in
theorem plain_any (n : Int) (w : World) : Calls Tryd.prog 148 #[.int .i64 n] w fun e w' => e = .returned (.int .i64 (plainV n)) ∧ w = w' := by
  by_cases h : 9218868437227405312 < n % 9223372036854775808
  · have hd : decide (9218868437227405312 < bits .and .i64 n 9223372036854775807) = true := by rw [low63]; simpa using h
    have hv : plainV n = 9221120237041090560 := by unfold plainV; rw [if_pos h]
    rw [hv]
    clear hv h
    go_enter Tryd.func148, Tryd.ntmps148
    go_wp2
    go_ret
    exact ⟨rfl, rfl⟩
  · have hd : decide (9218868437227405312 < bits .and .i64 n 9223372036854775807) = false := by rw [low63]; simpa using h
    have hv : plainV n = n := by unfold plainV; rw [if_neg h]
    rw [hv]
    clear hv h
    go_enter Tryd.func148, Tryd.ntmps148
    go_wp2
    go_ret
    exact ⟨rfl, rfl⟩

/-- '+', '-', '*', '/' on two floats: some float, whose bits, with the one NaN in place of the others, are the IEEE's. -/
theorem run_fop {P : Program} (op : BinOp) (hop : op = .add ∨ op = .sub ∨ op = .mul ∨ op = .quo) (x y : Nat) (w : World) :
    ∃ r w1, (∀ t, (binOp op t (.float .f64 x) (.float .f64 y)).run P w = .ok (.float .f64 r) w1) ∧ Below w.heap.size w w1 ∧ plainV (wrap64 (r : Int)) = fr (floatBits op .f64 x y) ∧ (nn r ↔ floatBits op .f64 x y = none) ∧ r < 18446744073709551616 := by
  cases h : floatBits op .f64 x y with
  | some r =>
    have hr : ¬ nn r ∧ r < 18446744073709551616 := by
      rcases hop with rfl | rfl | rfl | rfl
      · exact add_num h
      · exact sub_num h
      · exact mul_num h
      · exact div_num h
    exact ⟨r, w, fun t => run_float_arith w op t .f64 x y r h, Below.refl _ _, plain_wrap hr, by simp [hr.1], hr.2⟩
  | none =>
    have hc := cut_nan x y (w.tape w.drawn (.nanBits .f64 x y))
    refine ⟨_, w.drew, fun t => ?_, (Below.refl _ _).drew, ?_, ?_, hc.2⟩
    · unfold floatBits at h
      rcases hop with rfl | rfl | rfl | rfl <;> simp only at h <;> simp [binOp, Op.floatArith, h, Question.forced]
      all_goals rfl
    · exact plain_nan (by rw [ub_wrap, ub_nat _ hc.2]; exact hc.1)
    · simp [hc.1]

end Go.Proofs.YtdgmdpphimenjaaDoor

namespace Go.Proofs.YtdgmdpphimenjaaDoor.FloM
open Go.RowKit NumM

/-- flo.OfInt. -/
def ofV (n : Int) : Int := wrap64 (FloatKind.f64.nearest n : Nat)
/-- the whole part of a float without its sign, by its digits and its exponent. -/
def shf (m e : Nat) : Nat := m * 2 ^ (e - 1075) / 2 ^ (1075 - e)
/-- flo.ToInt. -/
def toV (n : Int) : Int :=
  if nn (ub n) then 0
  else if 1086 ≤ ub n % 9223372036854775808 / 4503599627370496 then (if n < 0 then -9223372036854775808 else 9223372036854775807)
  else if ub n % 9223372036854775808 / 4503599627370496 < 1023 then 0
  else if n < 0 then -(shf (ub n % 9223372036854775808 % 4503599627370496 + 4503599627370496) (ub n % 9223372036854775808 / 4503599627370496) : Nat)
  else (shf (ub n % 9223372036854775808 % 4503599627370496 + 4503599627370496) (ub n % 9223372036854775808 / 4503599627370496) : Nat)

theorem near_of (n : Int) : ¬ nn (FloatKind.f64.nearest n) ∧ FloatKind.f64.nearest n < 18446744073709551616 := write_num (d := .number (n < 0) n.natAbs 0) rfl
theorem of_plain (n : Int) : plainV (wrap64 (floatOfInt .f64 n : Nat)) = ofV n := plain_wrap (near_of n)

theorem cut_zero (s : Bool) (n d : Nat) : Ieee.Toward.zero.cut s n d = n / 2 ^ d := by
  unfold Ieee.Toward.cut
  simp only [Nat.one_shiftLeft, Bool.toNat_false, Nat.add_zero]
  by_cases h : d ≤ n.log2 + 2
  · rw [Nat.min_eq_left h]
  · rw [Nat.min_eq_right (by omega)]
    have h1 : n < 2 ^ (n.log2 + 1) := Nat.lt_log2_self
    rw [Nat.div_eq_of_lt (Nat.lt_of_lt_of_le h1 (Nat.pow_le_pow_right (by decide) (by omega))), Nat.div_eq_of_lt (Nat.lt_of_lt_of_le h1 (Nat.pow_le_pow_right (by decide) (by omega)))]

theorem read_c1 : Ieee.double.read 14114281232179134464 = .number true 4503599627370496 11 := by decide +kernel
theorem read_c2 : Ieee.double.read 4890909195324358656 = .number false 4503599627370496 11 := by decide +kernel

theorem sg_neg {n : Int} (h : In n) : sg (ub n) = decide (n < 0) := by
  obtain ⟨h1, h2⟩ := h
  unfold sg ub
  by_cases hn : n < 0
  · rw [show ((n % 18446744073709551616).toNat / 9223372036854775808 % 2) = 1 by omega]; simp [hn]
  · rw [show ((n % 18446744073709551616).toNat / 9223372036854775808 % 2) = 0 by omega]; simp [hn]

theorem mg_hi {r : Nat} (h : 1 ≤ r / 4503599627370496) : mg r = r % 4503599627370496 + 4503599627370496 ∧ pl r = r / 4503599627370496 - 1 := by
  unfold mg pl
  rw [if_neg (by omega), if_neg (by omega)]; omega
theorem mg_lt (r : Nat) : mg r < 9007199254740992 := by unfold mg; split <;> omega

theorem shl_ge (m k : Nat) : m ≤ m <<< k := by rw [Nat.shiftLeft_eq]; exact Nat.le_mul_of_pos_right _ (Nat.two_pow_pos k)

theorem cmp_lt {a b : Int} (h : a < b) : compare a b = .lt := by
  show compareOfLessAndEq a b = _
  unfold compareOfLessAndEq
  rw [if_pos h]
theorem cmp_gt {a b : Int} (h : b < a) : compare a b = .gt := by
  show compareOfLessAndEq a b = _
  unfold compareOfLessAndEq
  rw [if_neg (by omega), if_neg (by omega)]
theorem cmp_eq {a b : Int} (h : a = b) : compare a b = .eq := by
  show compareOfLessAndEq a b = _
  unfold compareOfLessAndEq
  rw [if_neg (by omega), if_pos h]
theorem sg_t (m k : Nat) : Ieee.signed true m k = -((m <<< k : Nat) : Int) := rfl
theorem sg_f (m k : Nat) : Ieee.signed false m k = ((m <<< k : Nat) : Int) := rfl
theorem shl_0 (m : Nat) : m <<< 0 = m := rfl

/-- below 2^63 in size: between both bounds. -/
theorem ord_in (s : Bool) (m : Nat) (i : Int) (hm : m < 9007199254740992) (hi : i ≤ 10) :
    Ieee.Datum.order (.number s m i) (.number true 4503599627370496 11) = some .gt ∧ Ieee.Datum.order (.number s m i) (.number false 4503599627370496 11) = some .lt := by
  simp only [Ieee.Datum.order, Option.some_inj]
  rw [show min i 11 = i by omega, show (i - i).toNat = 0 by omega]
  obtain ⟨k, hk⟩ : ∃ k, (11 - i).toNat = k + 1 := ⟨(11 - i).toNat - 1, by omega⟩
  rw [hk]
  have h1 := shl_ge 9007199254740992 k
  have h2 : 4503599627370496 <<< (k + 1) = 9007199254740992 <<< k := by rw [Nat.shiftLeft_eq, Nat.shiftLeft_eq, Nat.pow_succ]; omega
  rw [← h2] at h1
  clear h2
  constructor
  · apply cmp_gt
    cases s <;> simp only [sg_t, sg_f, shl_0] <;> generalize 4503599627370496 <<< (k + 1) = X at h1 ⊢ <;> omega
  · apply cmp_lt
    cases s <;> simp only [sg_t, sg_f, shl_0] <;> generalize 4503599627370496 <<< (k + 1) = X at h1 ⊢ <;> omega
/-- not less than 2^63 in size. -/
theorem ord_out (m : Nat) (i : Int) (hm : 4503599627370496 ≤ m) (hi : 11 ≤ i) :
    (Ieee.Datum.order (.number true m i) (.number true 4503599627370496 11) = some .lt ∨ (m <<< (i - 11).toNat = 4503599627370496 ∧ Ieee.Datum.order (.number true m i) (.number true 4503599627370496 11) = some .eq ∧ Ieee.Datum.order (.number true m i) (.number false 4503599627370496 11) = some .lt)) ∧
    (Ieee.Datum.order (.number false m i) (.number true 4503599627370496 11) = some .gt ∧ (Ieee.Datum.order (.number false m i) (.number false 4503599627370496 11) = some .gt ∨ Ieee.Datum.order (.number false m i) (.number false 4503599627370496 11) = some .eq)) := by
  simp only [Ieee.Datum.order, Option.some_inj]
  rw [show min i 11 = 11 by omega, show ((11 : Int) - 11).toNat = 0 from rfl]
  simp only [sg_t, sg_f, shl_0]
  have h1 := shl_ge m (i - 11).toNat
  generalize m <<< (i - 11).toNat = X at h1 ⊢
  refine ⟨?_, cmp_gt (by omega), ?_⟩
  · by_cases hX : 4503599627370496 < X
    · exact .inl (cmp_lt (by omega))
    · exact .inr ⟨by omega, cmp_eq (by omega), cmp_lt (by omega)⟩
  · by_cases hX : 4503599627370496 < X
    · exact .inl (cmp_gt (by omega))
    · exact .inr (cmp_eq (by omega))

/-- the whole number that a number is cut to. -/
theorem int_of (s : Bool) (m : Nat) (i : Int) : (Ieee.Datum.number s m i).toInt .zero = some (if s then -((m <<< i.toNat / 2 ^ (-i).toNat : Nat) : Int) else ((m <<< i.toNat / 2 ^ (-i).toNat : Nat) : Int)) := by
  unfold Ieee.Datum.toInt Ieee.Datum.integral
  simp only [cut_zero]
  cases s <;> simp only [sg_t, sg_f, shl_0] <;> rfl

theorem toV_num {n : Int} (h : ¬ nn (ub n)) : toV n = if 1086 ≤ ub n % 9223372036854775808 / 4503599627370496 then (if n < 0 then (-9223372036854775808 : Int) else 9223372036854775807)
    else if ub n % 9223372036854775808 / 4503599627370496 < 1023 then (0 : Int)
    else if n < 0 then -((shf (ub n % 9223372036854775808 % 4503599627370496 + 4503599627370496) (ub n % 9223372036854775808 / 4503599627370496) : Nat) : Int)
    else ((shf (ub n % 9223372036854775808 % 4503599627370496 + 4503599627370496) (ub n % 9223372036854775808 / 4503599627370496) : Nat) : Int) := by unfold toV; rw [if_neg h]

/-- of a float that isn't NaN, with what size and sign it has: flo.ToInt's tests, and what is cut. -/
theorem to_cases (n : Int) (hn : In n) (h : ¬ nn (ub n)) :
    (Ieee.double.order (ub n) 14114281232179134464 = some .lt ∧ toV n = -9223372036854775808) ∨
    ((Ieee.double.order (ub n) 14114281232179134464 = some .gt ∧ (Ieee.double.order (ub n) 4890909195324358656 = some .gt ∨ Ieee.double.order (ub n) 4890909195324358656 = some .eq)) ∧ toV n = 9223372036854775807) ∨
    ((Ieee.double.order (ub n) 14114281232179134464 = some .gt ∨ Ieee.double.order (ub n) 14114281232179134464 = some .eq) ∧ Ieee.double.order (ub n) 4890909195324358656 = some .lt ∧ floatToIntVal .f64 (ub n) .i64 = some (toV n)) := by
  have hs := sg_neg hn
  have hdec : FloatKind.f64.decode (ub n) = Ieee.double.read (ub n) := rfl
  unfold Ieee.Format.order floatToIntVal
  rw [read_c1, read_c2, hdec]
  rw [toV_num h]
  unfold nn at h
  clear hdec
  by_cases he : 1086 ≤ ub n % 9223372036854775808 / 4503599627370496
  · rw [if_pos he]
    by_cases hi : ub n % 9223372036854775808 = 9218868437227405312
    · rw [read_inf _ hi, hs]
      by_cases h0 : n < 0
      · left; rw [if_pos h0]; simp [h0, Ieee.Datum.order]
      · right; left; rw [if_neg h0]; simp [h0, Ieee.Datum.order]
    · obtain ⟨hm, hp⟩ := mg_hi (r := ub n % 9223372036854775808) (by omega)
      rw [read_fin _ (by omega), hs, hm, hp]
      generalize hM : ub n % 9223372036854775808 % 4503599627370496 + 4503599627370496 = M
      generalize hI : (-1074 + ((ub n % 9223372036854775808 / 4503599627370496 - 1 : Nat) : Int)) = I
      obtain ⟨o1, o2⟩ := ord_out M I (by omega) (by omega)
      by_cases h0 : n < 0
      · rw [if_pos h0, show decide (n < 0) = true from by simpa using h0]
        rcases o1 with o1 | ⟨e, o1, o3⟩
        · exact .inl ⟨o1, rfl⟩
        · refine .inr (.inr ⟨.inr o1, o3, ?_⟩)
          rw [int_of]
          have e2 : M <<< I.toNat / 2 ^ (-I).toNat = 9223372036854775808 := by
            rw [show (-I).toNat = 0 by omega, Nat.pow_zero, Nat.div_one, show I.toNat = (I - 11).toNat + 11 by omega, Nat.shiftLeft_add, e]
            rfl
          rw [e2]
          decide
      · rw [if_neg h0, show decide (n < 0) = false from by simpa using h0]
        exact .inr (.inl ⟨o2, rfl⟩)
  · rw [if_neg he]
    right; right
    rw [read_fin _ (by omega), hs]
    have hml := mg_lt (ub n % 9223372036854775808)
    have hpl : (pl (ub n % 9223372036854775808) : Int) ≤ 1084 := by unfold pl; split <;> omega
    obtain ⟨o1, o2⟩ := ord_in (decide (n < 0)) (mg (ub n % 9223372036854775808)) (-1074 + (pl (ub n % 9223372036854775808) : Nat)) hml (by omega)
    refine ⟨.inl o1, o2, ?_⟩
    rw [int_of]
    have key : mg (ub n % 9223372036854775808) <<< (-1074 + ((pl (ub n % 9223372036854775808) : Nat) : Int)).toNat / 2 ^ (-(-1074 + ((pl (ub n % 9223372036854775808) : Nat) : Int))).toNat =
        if ub n % 9223372036854775808 / 4503599627370496 < 1023 then 0 else shf (ub n % 9223372036854775808 % 4503599627370496 + 4503599627370496) (ub n % 9223372036854775808 / 4503599627370496) := by
      split
      · rename_i hlt
        have hp2 : pl (ub n % 9223372036854775808) ≤ 1021 := by unfold pl; split <;> omega
        rw [show (-1074 + ((pl (ub n % 9223372036854775808) : Nat) : Int)).toNat = 0 by omega, shl_0]
        apply Nat.div_eq_of_lt
        refine Nat.lt_of_lt_of_le hml ?_
        have hp3 := Nat.pow_le_pow_right (n := 2) (show 0 < 2 by decide) (show 53 ≤ (-(-1074 + ((pl (ub n % 9223372036854775808) : Nat) : Int))).toNat by omega)
        exact Nat.le_trans (by decide) hp3
      · rename_i hge
        obtain ⟨hm, hp⟩ := mg_hi (r := ub n % 9223372036854775808) (by omega)
        unfold shf
        rw [hm, hp, Nat.shiftLeft_eq]
        rw [show (-1074 + ((ub n % 9223372036854775808 / 4503599627370496 - 1 : Nat) : Int)).toNat = ub n % 9223372036854775808 / 4503599627370496 - 1075 by omega,
          show (-(-1074 + ((ub n % 9223372036854775808 / 4503599627370496 - 1 : Nat) : Int))).toNat = 1075 - ub n % 9223372036854775808 / 4503599627370496 by omega]
    have hsz : (if ub n % 9223372036854775808 / 4503599627370496 < 1023 then 0 else shf (ub n % 9223372036854775808 % 4503599627370496 + 4503599627370496) (ub n % 9223372036854775808 / 4503599627370496)) < 9223372036854775808 := by
      split
      · decide
      · unfold shf
        refine Nat.lt_of_le_of_lt (Nat.div_le_self _ _) ?_
        have : 2 ^ (ub n % 9223372036854775808 / 4503599627370496 - 1075) ≤ 2 ^ 10 := Nat.pow_le_pow_right (by decide) (by omega)
        have h2 := Nat.mul_le_mul (show ub n % 9223372036854775808 % 4503599627370496 + 4503599627370496 ≤ 9007199254740991 by omega) this
        omega
    rw [key]
    generalize hX : (if ub n % 9223372036854775808 / 4503599627370496 < 1023 then 0 else shf (ub n % 9223372036854775808 % 4503599627370496 + 4503599627370496) (ub n % 9223372036854775808 / 4503599627370496)) = X at hsz
    have hmin : IntKind.i64.min = -9223372036854775808 := by decide
    have hmax : IntKind.i64.max = 9223372036854775807 := by decide
    rw [hmin, hmax]
    by_cases h0 : n < 0
    · rw [show decide (n < 0) = true from by simpa using h0]
      simp only [if_true, h0]
      rw [if_pos (by omega), ← hX]
      split <;> rfl
    · rw [show decide (n < 0) = false from by simpa using h0]
      simp only [h0, Bool.false_eq_true, if_false]
      rw [if_pos (by omega), ← hX]
      split <;> rfl

end Go.Proofs.YtdgmdpphimenjaaDoor.FloM

namespace Go.Proofs.YtdgmdpphimenjaaDoor
open Go.RowKit NumM FloM

theorem ne_self {b : Nat} (h : nn b) : (FloatKind.f64.format.order b b != some .eq) = true := by
  show (Ieee.double.order b b != some .eq) = true
  rw [order_nanl h]; rfl
theorem eq_self {b : Nat} (h : ¬ nn b) : (FloatKind.f64.format.order b b != some .eq) = false := by
  show (Ieee.double.order b b != some .eq) = false
  rw [order_self h]; rfl
theorem fl_nan {n : Int} (h : nn (ub n)) : fl n = 9221120237041090560 := by unfold fl; rw [plain_nan h]; rfl
theorem fl_num {n : Int} (h : ¬ nn (ub n)) : fl n = ub n := by unfold fl; rw [plain_num h]
theorem nn_nan : nn 9221120237041090560 := by decide

end Go.Proofs.YtdgmdpphimenjaaDoor

namespace Go.Proofs.YtdgmdpphimenjaaDoor
open Go.RowKit NumM FloM Mem

theorem arr_whole (w : World) (g : Nat) :
    (Instr.sliceAt 220 (.pointer (some ⟨g, 0, none⟩)) none none none).run Tryd.prog w = .ok (.slice (some ⟨g, 0, none⟩) 18 18) w := by kernel_rfl

theorem whole_back (w : World) (g : Nat) (l : List UInt8) (t : TypeId) (ho : Own w g t (l.map fun b => .int .u8 (b.toNat : Int))) (hl : l.length = 18) :
    (convert 53 9 (.slice (some ⟨g, 0, none⟩) 18 18)).run Tryd.prog w = .ok (.string ⟨l.toArray⟩) w := by
  rw [← hl]
  refine run_convert_bytes_back (P := Tryd.prog) w 53 9 5 ⟨g, 0, none⟩ l.length l Tryd.underlying53 Tryd.underlying5 Tryd.underlying9 ?_
  intro j hj
  have e : (⟨g, 0, none⟩ : Addr).add j = ⟨g, j, none⟩ := by
    unfold Addr.add
    by_cases h0 : j = 0
    · subst h0; simp
    · simp [h0]
  rw [e, ho.cell]
  simp [List.getElem?_eq_getElem hj]

theorem low_four (r : Nat) : bits .and .u64 (r : Int) 15 = ((r % 16 : Nat) : Int) := by
  rw [bits_and_u64, wu64, BitVec.toNat_and, BitVec.toNat_ofInt, BitVec.toNat_ofInt]
  rw [show (15 % ((2 ^ 64 : Nat) : Int)).toNat = 2 ^ 4 - 1 from by decide, Nat.and_two_pow_sub_one_eq_mod]
  omega

set_option maxRecDepth 100000 in
theorem digit_of (k : Nat) (h : k < 16) (w : World) : (Instr.index 9 (.string ⟨#[48, 49, 50, 51, 52, 53, 54, 55, 56, 57, 97, 98, 99, 100, 101, 102]⟩) (.int .u64 (k : Int))).run Tryd.prog w = .ok (.int .u8 ((hx k).toNat : Int)) w := by
  match k, h with
  | 0, _ | 1, _ | 2, _ | 3, _ | 4, _ | 5, _ | 6, _ | 7, _ | 8, _ | 9, _ | 10, _ | 11, _ | 12, _ | 13, _ | 14, _ | 15, _ => (show _ = _; kernel_rfl)
  | k + 16, h => omega

theorem digit_at (r : Nat) (w : World) : (Instr.index 9 (.string ⟨#[48, 49, 50, 51, 52, 53, 54, 55, 56, 57, 97, 98, 99, 100, 101, 102]⟩) (.int .u64 (bits .and .u64 (r : Int) 15))).run Tryd.prog w = .ok (.int .u8 ((hx r).toNat : Int)) w := by
  have hh : hx r = hx (r % 16) := by unfold hx; rw [Nat.mod_mod]
  rw [low_four, hh]
  exact digit_of _ (Nat.mod_lt _ (by decide)) w

/-- 'copy(text[:], "0f")' into a new array. -/
theorem copy_head (w : World) (ty : TypeId) (T : TypeId) :
    ∃ w1, (Builtin.copy_ #[53, 9] ty #[.slice (some ⟨w.heap.size, 0, none⟩) 18 18, .string ⟨#[48, 102]⟩]).run Tryd.prog (w.alloc (.cells #[.int .u8 0, .int .u8 0, .int .u8 0, .int .u8 0, .int .u8 0, .int .u8 0, .int .u8 0, .int .u8 0, .int .u8 0, .int .u8 0, .int .u8 0, .int .u8 0, .int .u8 0, .int .u8 0, .int .u8 0, .int .u8 0, .int .u8 0, .int .u8 0] T)) = .ok (.int .i64 2) w1 ∧
      Own w1 w.heap.size T ([.int .u8 48, .int .u8 102] ++ List.replicate 16 (.int .u8 0)) ∧ Below w.heap.size w w1 := by
  have ho : Own (w.alloc (.cells #[.int .u8 0, .int .u8 0, .int .u8 0, .int .u8 0, .int .u8 0, .int .u8 0, .int .u8 0, .int .u8 0, .int .u8 0, .int .u8 0, .int .u8 0, .int .u8 0, .int .u8 0, .int .u8 0, .int .u8 0, .int .u8 0, .int .u8 0, .int .u8 0] T)) w.heap.size T (List.replicate 18 (Value.int .u8 0)) := Own.made w T _
  refine ⟨_, run_copy_string (P := Tryd.prog) _ 53 9 ty 5 w.heap.size 0 18 18 ⟨#[48, 102]⟩ Tryd.underlying53 (fun w => by kernel_rfl) (by decide) ?_ ?_, ?_, ?_⟩
  · intro j hj
    have hj : j < 2 := hj
    rw [ho.cell, List.getElem?_replicate, if_pos (by omega)]; rfl
  · intro j hj; exact ho.thaw _
  · exact (ho.store 0 (.int .u8 48)).store 1 (.int .u8 102)
  · exact (((Below.refl w.heap.size w).alloc (Nat.le_refl _) _).setCell (Nat.le_refl _) _).setCell (Nat.le_refl _) _

theorem set_mid (a : Nat) (ha : 2 ≤ a) (z x : Value) (f t : List Value) (hf : f.length = 2) : (f ++ (List.replicate (a - 1) z ++ t)).set a x = f ++ (List.replicate (a - 2) z ++ x :: t) := by
  obtain ⟨k, rfl⟩ : ∃ k, a = k + 2 := ⟨a - 2, by omega⟩
  have e : List.replicate (k + 2 - 1) z ++ t = List.replicate k z ++ z :: t := by
    rw [show k + 2 - 1 = k + 1 from rfl, List.replicate_succ']; simp
  rw [e, Nat.add_sub_cancel, List.set_append_right _ _ (by omega), hf, Nat.add_sub_cancel, List.set_append_right _ _ (by simp)]
  simp

set_option maxHeartbeats 800000 in
set_option maxRecDepth 20000 in
theorem fput_any (n : Int) (w : World) : Calls Tryd.prog 125 #[.int .i64 n] w fun e w' => e = .returned (.string ⟨(putV n).toArray⟩) ∧ Below w.heap.size w w' := by
  obtain ⟨w1, hcp, ho1, hb1⟩ := copy_head w 3 220
  have Ho := Lib.hid ho1
  have Hb := Lib.hid hb1
  have Hlt : Hid ((fl n : Int) < 18446744073709551616) := by have := fl_lt n; show _ < _; omega
  have Hfl : Hid (Value.int .u64 (IntKind.u64.wrap (plainV n)) = .int .u64 (fl n : Int)) := by
    show _ = _
    rw [wu64]; unfold fl ub; congr 1; omega
  clear ho1 hb1
  go_enter Tryd.func125, Tryd.ntmps125
  go_wp2_with (go_at_call 148; refine (plain_any _ _).mono ?_; rintro e w' ⟨rfl, rfl⟩)
  go_loopw [4, 5] (fun rest at_ wr => ∃ (a r : Nat) (l : List UInt8), at_ = .int .i64 (a : Int) ∧ rest = .int .u64 (r : Int) ∧ 1 ≤ a ∧ a ≤ 17 ∧ (r : Int) < 18446744073709551616 ∧ Hexs (fl n) (a - 1) r l ∧
      Own wr w.heap.size 220 ([.int .u8 48, .int .u8 102] ++ (List.replicate (a - 1) (.int .u8 0) ++ l.map fun b => .int .u8 (b.toNat : Int))) ∧ l.length + a = 17 ∧ Below w.heap.size w wr) (fun _ at_ _ => (intOf at_).toNat)
  case atStart =>
    exact ⟨17, fl n, [], rfl, Hfl.out, by omega, by omega, Hlt.out, Hexs.start _, Ho.out, rfl, Hb.out⟩
  case round =>
    obtain ⟨a, r, l, rfl, rfl, ha, ha', hr, hd, ho, hl, hb⟩ := hrel
    by_cases h1 : a = 1
    · subst h1
      have hcv := whole_back wr w.heap.size ([48, 102] ++ l) _ (by simpa using ho) (by simp; omega)
      have hfin : Ending.returned (.string ⟨([48, 102] ++ l).toArray⟩) = .returned (.string ⟨(putV n).toArray⟩) := by rw [putV, hd.last]
      have Hfin := Lib.hid hfin
      have hsl : ∀ wx, (Instr.sliceAt 220 (.pointer (some ⟨w.heap.size, 0, none⟩)) none none none).run Tryd.prog wx = .ok (.slice (some ⟨w.heap.size, 0, none⟩) 18 18) wx := fun wx => arr_whole wx _
      clear hfin hd ho hl hr
      go_wp2
      go_ret
      exact ⟨Hfin.out, hb⟩
    · have hc : wr.cell? ⟨w.heap.size, a, none⟩ = some (.int .u8 0) := by
        rw [ho.cell, List.getElem?_append_right (by simp; omega)]
        rw [List.getElem?_append_left (by simp; omega), List.getElem?_replicate, if_pos (by simp; omega)]
      have hf := ho.thaw a
      have hix := fun wx => digit_at r wx
      have Ho := Lib.hid ho
      have Hd := Lib.hid hd
      have Hl := Lib.hid hl
      have hd2 : decide (2 ≤ (a : Int)) = true := by simp; omega
      have H2 : Hid (2 ≤ a) := by show _ ≤ _; omega
      clear ho hd hl h1 ha
      go_wp2
      go_roundw
      case rel =>
        have h2 := H2.out
        have ho := Ho.out.store a (.int .u8 ((hx r).toNat : Int))
        rw [set_mid a (by omega) _ _ _ _ rfl] at ho
        refine ⟨a - 1, r / 16, hx r :: l, by go_num, by go_num, by omega, by omega, by omega, ?_, ho, by have := Hl.out; simp; omega, hb.setCell (Nat.le_refl _) _⟩
        have := Hd.out
        rw [show a - 1 = a - 1 - 1 + 1 by omega] at this
        exact this.more
      case measure => have h2 := H2.out; simp [intOf]; omega

end Go.Proofs.YtdgmdpphimenjaaDoor

namespace Go.Proofs.YtdgmdpphimenjaaDoor
open Go.RowKit NumM FloM Mem

theorem ftake_next (s : ByteArray) (k : Nat) (h : k < s.size) : s.data.toList.take (k + 1) = s.data.toList.take k ++ [s[k]] := by
  rw [List.take_succ_eq_append_getElem (by simpa using h)]; rfl

theorem cut_two (s : ByteArray) (h : s.size = 18) : (s.extract 2 18).data.toList = s.data.toList.drop 2 := by
  rw [ByteArray.data_extract, Array.toList_extract]
  simp only [List.extract_eq_take_drop]
  rw [List.take_of_length_le]
  have : s.data.toList.length = 18 := by simpa using h
  simp [this]

end Go.Proofs.YtdgmdpphimenjaaDoor

/-
  word.isDigit, word.isLetter, word.Name, walked.
  word.Right, word.Put, walked.
  word.readNought, word.read, word.Get, walked.
  word.Get, walked.
-/
namespace Go.Proofs.YtdgmdpphimenjaaDoor
open Go.RowKit NumM FloM WordM Mem

theorem wdigit_any (c : Int) (w : World) : Calls Tryd.prog 79 #[.int .u8 c] w fun e w' => e = .returned (.bool (decide (48 ≤ c) && decide (c ≤ 57))) ∧ w = w' := by
  rcases Bool.eq_false_or_eq_true (decide (48 ≤ c)) with h | h
  all_goals
    go_enter Tryd.func79, Tryd.ntmps79
    go_wp2
    go_ret
    exact ⟨by simp only [h, Bool.true_and, Bool.false_and] <;> rfl, rfl⟩

theorem wletter_any (c : Int) (w : World) : Calls Tryd.prog 80 #[.int .u8 c] w fun e w' =>
    e = .returned (.bool (decide (97 ≤ c) && decide (c ≤ 122) || decide (65 ≤ c) && decide (c ≤ 90) || (c == 95))) ∧ w = w' := by
  rcases Bool.eq_false_or_eq_true (decide (97 ≤ c)) with h1 | h1 <;> rcases Bool.eq_false_or_eq_true (decide (c ≤ 122)) with h2 | h2 <;>
    rcases Bool.eq_false_or_eq_true (decide (65 ≤ c)) with h3 | h3 <;> rcases Bool.eq_false_or_eq_true (decide (c ≤ 90)) with h4 | h4
  all_goals
    go_enter Tryd.func80, Tryd.ntmps80
    go_wp2
    go_ret
    exact ⟨by simp only [h1, h2, h3, h4, Bool.true_and, Bool.false_and, Bool.true_or, Bool.false_or, Bool.or_true] <;> rfl, rfl⟩

theorem len_lit (n : Nat) (k : Nat) : decide ((k : Int) < (n : Int)) = decide (k < n) := by simp

/-- the walk's letters and digits are the plain ones. -/
theorem letB_eq (c : UInt8) : letB c = (decide (97 ≤ (c.toNat : Int)) && decide ((c.toNat : Int) ≤ 122) || decide (65 ≤ (c.toNat : Int)) && decide ((c.toNat : Int) ≤ 90) || ((c.toNat : Int) == 95)) := rfl

theorem wdigit_at (c : UInt8) (b : Bool) (h : digB c = b) (w : World) : Calls Tryd.prog 79 #[.int .u8 (c.toNat : Int)] w fun e w' => e = .returned (.bool b) ∧ w = w' := by
  rw [← h]; exact wdigit_any _ w
theorem wletter_at (c : UInt8) (b : Bool) (h : letB c = b) (w : World) : Calls Tryd.prog 80 #[.int .u8 (c.toNat : Int)] w fun e w' => e = .returned (.bool b) ∧ w = w' := by
  rw [← h]; exact wletter_any _ w

theorem nameV_nil : nameV [] = false := by decide +kernel
theorem nameV_long {l : List UInt8} (h : 16 < l.length) : nameV l = false := by
  unfold nameV; rw [show decide (l.length ≤ 16) = false from decide_eq_false (by omega)]; simp
theorem nameV_digit {c : UInt8} {t : List UInt8} (h : digB c = true) : nameV (c :: t) = false := by
  unfold nameV; rw [List.headD_cons, h]; simp
theorem nameV_bad {l : List UInt8} {c : UInt8} (h : c ∈ l) (hc : (letB c || digB c) = false) : nameV l = false := by
  have : l.all (fun c => letB c || digB c) = false := by
    rw [List.all_eq_false]
    exact ⟨c, h, by simp [hc]⟩
  unfold nameV; rw [this]; simp
theorem nameV_end {c : UInt8} {t : List UInt8} (h1 : (c :: t).length ≤ 16) (h2 : digB c = false) (h3 : (c :: t).all (fun c => letB c || digB c) = true) :
    nameV (c :: t) = ((c :: t != nullL) && (c :: t != intL) && (c :: t != floatL)) := by
  unfold nameV
  rw [List.headD_cons, h2, h3, show decide ((c :: t).length ≤ 16) = true from decide_eq_true h1]
  simp

set_option maxHeartbeats 1000000 in
theorem name_any (s : ByteArray) (w : World) : Calls Tryd.prog 52 #[.string s] w fun e w' => e = .returned (.bool (nameV s.data.toList)) ∧ w = w' := by
  by_cases h0 : s.size = 0
  · have hs : s = ⟨[].toArray⟩ := by
      have : s = ByteArray.empty := by simpa using h0
      rw [this]; rfl
    subst hs
    rw [nameV_nil]
    go_enter Tryd.func52, Tryd.ntmps52
    go_wp2_with fail
    go_ret
    exact ⟨rfl, rfl⟩
  · have hl : s.data.toList.length = s.size := by rw [Array.length_toList]; rfl
    have e0 : (s.toList == []) = false := by
      rw [ByteArray.toList_eq, beq_eq_false_iff_ne]
      intro e; rw [e] at hl; simp at hl; omega
    by_cases h16 : 16 < s.size
    · rw [nameV_long (by omega)]
      have e1 : decide (16 < (s.size : Int)) = true := decide_eq_true (by omega)
      clear hl h0 h16
      go_enter Tryd.func52, Tryd.ntmps52
      go_wp2_with fail
      go_ret
      exact ⟨rfl, rfl⟩
    · have h1 : 0 < s.size := by omega
      have e1 : decide (16 < (s.size : Int)) = false := decide_eq_false (by omega)
      obtain ⟨t, ht⟩ : ∃ t, s.data.toList = s[0] :: t := by
        have hh := head_of s h1
        cases hx : s.data.toList with
        | nil => rw [hx] at hh; simp at hh
        | cons c t => rw [hx] at hh; exact ⟨t, by rw [Option.some.inj hh]⟩
      by_cases hd : digB s[0] = true
      · rw [ht, nameV_digit hd]
        have Hd := Lib.hid hd
        clear hl h0 h16 hd ht
        go_enter Tryd.func52, Tryd.ntmps52
        go_wp2_with (go_at_call 79; refine (wdigit_at _ _ Hd.out _).mono ?_; rintro e w1 ⟨rfl, rfl⟩)
        go_ret
        exact ⟨rfl, rfl⟩
      · have hd' : digB s[0] = false := by simpa using hd
        obtain ⟨g, hg⟩ : ∃ g, nameV s.data.toList = g := ⟨_, rfl⟩
        rw [hg]
        have hend : (s.data.toList.all (fun c => letB c || digB c) = true) → g = ((s.data.toList != nullL) && (s.data.toList != intL) && (s.data.toList != floatL)) := by
          intro ha
          rw [← hg, ht]
          rw [ht] at ha
          exact nameV_end (by rw [← ht, hl]; omega) hd' ha
        have hbad : ∀ (k : Nat) (h : k < s.size), (letB s[k] || digB s[k]) = false → g = false := by
          intro k h hb
          rw [← hg]
          exact nameV_bad (c := s[k]) (List.getElem_mem (l := s.data.toList) (n := k) (by rw [hl]; exact h)) hb
        have Hd := Lib.hid hd'
        have Hend := Lib.hid hend
        have Hbad := Lib.hid hbad
        have Hl := Lib.hid hl
        have hsz : s.size ≤ 16 := by omega
        clear hl h0 h16 hd ht hg hend hbad hd'
        go_enter Tryd.func52, Tryd.ntmps52
        go_wp2_with (go_at_call 79; refine (wdigit_at _ _ Hd.out _).mono ?_; rintro e w1 ⟨rfl, rfl⟩)
        go_loop [3, 18] (fun _ i => ∃ k : Nat, k ≤ s.size ∧ i = .int .i64 k ∧ (s.data.toList.take k).all (fun c => letB c || digB c) = true) (fun _ i => s.size - (intOf i).toNat)
        case atStart => exact ⟨0, Nat.zero_le _, rfl, rfl⟩
        case round =>
          obtain ⟨k, hk, rfl, hall⟩ := hrel
          by_cases hlt : k < s.size
          · rcases Bool.eq_false_or_eq_true (letB s[k]) with hb | hb
            · have Hb := Lib.hid hb
              have Hall := Lib.hid hall
              clear hall hb
              go_wp2_with (go_at_call 80; refine (wletter_at _ _ Hb.out _).mono ?_; rintro e w1 ⟨rfl, rfl⟩)
              all_goals
                go_round
                case rel => exact ⟨k + 1, by omega, by go_num, by rw [take_next s k hlt, List.all_append, Hall.out]; simp [Hb.out]⟩
                case measure => simp [intOf]; omega
            · rcases Bool.eq_false_or_eq_true (digB s[k]) with hc | hc
              · have Hb := Lib.hid hb
                have Hc := Lib.hid hc
                have Hall := Lib.hid hall
                clear hall hb hc
                go_wp2_with (first | (go_at_call 80; refine (wletter_at _ _ Hb.out _).mono ?_; rintro e w1 ⟨rfl, rfl⟩) | (go_at_call 79; refine (wdigit_at _ _ Hc.out _).mono ?_; rintro e w1 ⟨rfl, rfl⟩))
                all_goals
                  go_round
                  case rel => exact ⟨k + 1, by omega, by go_num, by rw [take_next s k hlt, List.all_append, Hall.out]; simp [Hc.out]⟩
                  case measure => simp [intOf]; omega
              · obtain rfl : g = false := Hbad.out k hlt (by rw [hb, hc]; rfl)
                have Hb := Lib.hid hb
                have Hc := Lib.hid hc
                clear hall hb hc
                go_wp2_with (first | (go_at_call 80; refine (wletter_at _ _ Hb.out _).mono ?_; rintro e w1 ⟨rfl, rfl⟩) | (go_at_call 79; refine (wdigit_at _ _ Hc.out _).mono ?_; rintro e w1 ⟨rfl, rfl⟩))
                go_ret
                exact ⟨rfl, rfl⟩
          · obtain rfl : k = s.size := by omega
            obtain rfl := Hend.out (by rw [← Hl.out, List.take_length] at hall; exact hall)
            clear hall hlt hk
            rcases Bool.eq_false_or_eq_true (s.toList == [110, 117, 108, 108]) with q1 | q1 <;> rcases Bool.eq_false_or_eq_true (s.toList == [105, 110, 116]) with q2 | q2 <;>
              rcases Bool.eq_false_or_eq_true (s.toList == [102, 108, 111, 97, 116]) with q3 | q3
            all_goals
              go_wp2_with fail
              go_ret
              exact ⟨by unfold nullL intL floatL; rw [← ByteArray.toList_eq]; simp only [bne, q1, q2, q3, Bool.not_true, Bool.not_false, Bool.true_and, Bool.false_and] <;> rfl, rfl⟩
end Go.Proofs.YtdgmdpphimenjaaDoor

namespace Go.Proofs.YtdgmdpphimenjaaDoor
open Go.RowKit NumM FloM WordM Mem

theorem one_more (w : World) (o : Obj) : Below w.heap.size w (w.alloc o) := (Below.refl _ w).alloc (Nat.le_refl _) o

/-- what a boxed argument holds behind a call that turns nothing of it. -/
theorem box3 {w w1 : World} {t : TypeId} {v0 v1 v2 : Value} (hb : Below (w.alloc (.cells #[v0, v1, v2] t)).heap.size (w.alloc (.cells #[v0, v1, v2] t)) w1) :
    w1.cell? ⟨w.heap.size, 0, none⟩ = some v0 ∧ w1.cell? ⟨w.heap.size, 1, none⟩ = some v1 ∧ w1.cell? ⟨w.heap.size, 2, none⟩ = some v2 := by
  have o : Own w1 w.heap.size t [v0, v1, v2] := (Own.made w t [v0, v1, v2]).below hb (by simp)
  exact ⟨o.cell 0, o.cell 1, o.cell 2⟩
theorem box3s {w w1 : World} {t : TypeId} {v0 v1 v2 : Value} (hb : Below (w.alloc (.cells #[v0, v1, v2] t)).heap.size (w.alloc (.cells #[v0, v1, v2] t)) w1) :
    w1.frozen? ⟨w.heap.size, 0, none⟩ = false ∧ w1.frozen? ⟨w.heap.size, 1, none⟩ = false ∧ w1.frozen? ⟨w.heap.size, 2, none⟩ = false ∧ w.heap.size < w1.heap.size := by
  have o : Own w1 w.heap.size t [v0, v1, v2] := (Own.made w t [v0, v1, v2]).below hb (by simp)
  exact ⟨o.thaw 0, o.thaw 1, o.thaw 2, o.lt⟩

set_option maxHeartbeats 1000000 in
theorem right_1 (s : ByteArray) (n : Int) (w : World) :
    Calls Tryd.prog 124 #[.agg #[.int .i64 1, .string s, .int .i64 n]] w fun e w' => e = .returned (.bool ((n == 0) && nameV s.data.toList)) ∧ Below w.heap.size w w' := by
  rcases Bool.eq_false_or_eq_true (n == 0) with h | h
  all_goals
    go_enter Tryd.func124, Tryd.ntmps124
    go_wp2_with (go_at_call 52; (with_reducible refine (name_any s _).mono ?_); rintro e w1 ⟨rfl, rfl⟩)
    go_ret
    exact ⟨by rw [h] <;> rfl, one_more _ _⟩

set_option maxHeartbeats 1000000 in
theorem right_2 (s : ByteArray) (n : Int) (w : World) :
    Calls Tryd.prog 124 #[.agg #[.int .i64 2, .string s, .int .i64 n]] w fun e w' => e = .returned (.bool s.toList.isEmpty) ∧ Below w.heap.size w w' := by
  go_enter Tryd.func124, Tryd.ntmps124
  go_wp2_with fail
  go_ret
  exact ⟨rfl, one_more _ _⟩

set_option maxHeartbeats 1000000 in
theorem right_3 (s : ByteArray) (n : Int) (w : World) :
    Calls Tryd.prog 124 #[.agg #[.int .i64 3, .string s, .int .i64 n]] w fun e w' => e = .returned (.bool (s.toList.isEmpty && (plainV n == n))) ∧ Below w.heap.size w w' := by
  rcases Bool.eq_false_or_eq_true s.toList.isEmpty with h | h
  all_goals
    go_enter Tryd.func124, Tryd.ntmps124
    go_wp2_with fail
    go_quiet ((go_at_call 148; exact Calls.quiet_of_same ((plain_any n _).mono fun _ _ h => ⟨h.1, h.2.symm⟩)))
    go_wp2_with fail
    go_ret
    exact ⟨by rw [h] <;> rfl, below_drewN (one_more _ _) _⟩

set_option maxHeartbeats 1000000 in
theorem right_4 (s : ByteArray) (n : Int) (w : World) :
    Calls Tryd.prog 124 #[.agg #[.int .i64 4, .string s, .int .i64 n]] w fun e w' => e = .returned (.bool (s.toList.isEmpty && (n == 0))) ∧ Below w.heap.size w w' := by
  rcases Bool.eq_false_or_eq_true s.toList.isEmpty with h | h
  all_goals
    go_enter Tryd.func124, Tryd.ntmps124
    go_wp2_with fail
    go_ret
    exact ⟨by rw [h] <;> rfl, one_more _ _⟩

set_option maxHeartbeats 1000000 in
theorem right_5 (s : ByteArray) (n : Int) (w : World) :
    Calls Tryd.prog 124 #[.agg #[.int .i64 5, .string s, .int .i64 n]] w fun e w' => e = .returned (.bool (s.toList.isEmpty && decide (0 ≤ n) && decide (n ≤ 999))) ∧ Below w.heap.size w w' := by
  rcases Bool.eq_false_or_eq_true s.toList.isEmpty with h | h <;> rcases Bool.eq_false_or_eq_true (decide (0 ≤ n)) with h2 | h2
  all_goals
    go_enter Tryd.func124, Tryd.ntmps124
    go_wp2_with fail
    go_ret
    exact ⟨by simp only [h, h2, Bool.true_and, Bool.false_and] <;> rfl, one_more _ _⟩

set_option maxHeartbeats 1000000 in
theorem right_0 (k : Int) (s : ByteArray) (n : Int) (w : World) (h1 : (k == 1) = false) (h2 : (k == 2) = false) (h3 : (k == 3) = false) (h4 : (k == 4) = false) (h5 : (k == 5) = false) :
    Calls Tryd.prog 124 #[.agg #[.int .i64 k, .string s, .int .i64 n]] w fun e w' => e = .returned (.bool false) ∧ Below w.heap.size w w' := by
  go_enter Tryd.func124, Tryd.ntmps124
  go_wp2_with fail
  go_ret
  exact ⟨rfl, one_more _ _⟩

theorem wright_any (a : A) (w : World) :
    Calls Tryd.prog 124 #[val a] w fun e w' => e = .returned (.bool (rightV a)) ∧ Below w.heap.size w w' := by
  obtain ⟨k, s, n⟩ := a
  unfold val rightV
  simp only
  rw [show (s.data.toList == []) = s.toList.isEmpty by rw [ByteArray.toList_eq]; cases s.data.toList <;> rfl]
  split
  · rename_i h; subst h; exact right_1 s n w
  · split
    · rename_i h; subst h; exact right_2 s n w
    · split
      · rename_i h; subst h; exact right_3 s n w
      · split
        · rename_i h; subst h; exact right_4 s n w
        · split
          · rename_i h; subst h; exact right_5 s n w
          · rename_i h1 h2 h3 h4 h5
            exact right_0 k s n w (by simpa using h1) (by simpa using h2) (by simpa using h3) (by simpa using h4) (by simpa using h5)

theorem wright_at (k : Int) (s : ByteArray) (n : Int) (b : Bool) (h : rightV (k, s, n) = b) (w : World) :
    Calls Tryd.prog 124 #[.agg #[.int .i64 k, .string s, .int .i64 n]] w fun e w' => e = .returned (.bool b) ∧ Below w.heap.size w w' := by
  rw [← h]; exact wright_any (k, s, n) w

theorem grow3 {w x y : World} (h : Below w.heap.size w x) (k : Below x.heap.size x y) : Below w.heap.size w y := h.trans (k.mono h.size)

set_option maxHeartbeats 1000000 in
theorem wput_no (k : Int) (s : ByteArray) (n : Int) (w : World) (h : rightV (k, s, n) = false) :
    Calls Tryd.prog 104 #[.agg #[.int .i64 k, .string s, .int .i64 n]] w fun e w' => e = .returned (.string ⟨#[]⟩) ∧ Below w.heap.size w w' := by
  have Hr := Lib.hid (wright_at k s n false h)
  clear h
  go_enter Tryd.func104, Tryd.ntmps104
  go_wp2_with (go_at_call 124; refine (Hr.out _).mono ?_; rintro e w1 ⟨rfl, hb⟩; obtain ⟨hc0, hc1, hc2⟩ := box3 hb)
  go_ret
  exact ⟨rfl, grow3 (one_more _ _) hb⟩
set_option maxHeartbeats 1000000 in
theorem wput_1 (s : ByteArray) (w : World) (h : nameV s.data.toList = true) :
    Calls Tryd.prog 104 #[.agg #[.int .i64 1, .string s, .int .i64 0]] w fun e w' => e = .returned (.string s) ∧ Below w.heap.size w w' := by
  have Hr := Lib.hid (wright_at 1 s 0 true (right1 h))
  have hs : s.size ≤ 281474976710656 := by
    obtain ⟨c, t, _, _, _, hl⟩ := name_parts h
    have : s.data.toList.length = s.size := by rw [Array.length_toList]; rfl
    omega
  have Hs := Lib.hid hs
  clear h hs
  go_enter Tryd.func104, Tryd.ntmps104
  go_wp2_with (first | (go_at_call 124; refine (Hr.out _).mono ?_; rintro e w1 ⟨rfl, hb⟩; obtain ⟨hc0, hc1, hc2⟩ := box3 hb) | (go_at_call 69; refine (clone_any s _ Hs.out).mono ?_; rintro e w2 ⟨rfl, hb2⟩))
  go_ret
  exact ⟨rfl, grow3 (grow3 (one_more _ _) hb) hb2⟩
set_option maxHeartbeats 1000000 in
theorem wput_2 (n : Int) (hn : In n) (w : World) :
    Calls Tryd.prog 104 #[.agg #[.int .i64 2, .string ⟨#[]⟩, .int .i64 n]] w fun e w' => e = .returned (.string ⟨(dec n).toArray⟩) ∧ Below w.heap.size w w' := by
  have Hr := Lib.hid (wright_at 2 ⟨#[]⟩ n true (right2 n))
  have Hn := Lib.hid hn
  clear hn
  go_enter Tryd.func104, Tryd.ntmps104
  go_wp2_with (first | (go_at_call 124; refine (Hr.out _).mono ?_; rintro e w1 ⟨rfl, hb⟩; obtain ⟨hc0, hc1, hc2⟩ := box3 hb) | (go_at_call 74; refine (put_any n _ Hn.out).mono ?_; rintro e w2 ⟨rfl, hb2⟩))
  go_ret
  exact ⟨rfl, grow3 (grow3 (one_more _ _) hb) hb2⟩
set_option maxHeartbeats 1000000 in
theorem wput_3 (n : Int) (hn : plainV n = n) (w : World) :
    Calls Tryd.prog 104 #[.agg #[.int .i64 3, .string ⟨#[]⟩, .int .i64 n]] w fun e w' => e = .returned (.string ⟨(putV n).toArray⟩) ∧ Below w.heap.size w w' := by
  have Hr := Lib.hid (wright_at 3 ⟨#[]⟩ n true (right3 hn))
  clear hn
  go_enter Tryd.func104, Tryd.ntmps104
  go_wp2_with (first | (go_at_call 124; refine (Hr.out _).mono ?_; rintro e w1 ⟨rfl, hb⟩; obtain ⟨hc0, hc1, hc2⟩ := box3 hb) | (go_at_call 125; refine (fput_any n _).mono ?_; rintro e w2 ⟨rfl, hb2⟩))
  go_ret
  exact ⟨rfl, grow3 (grow3 (one_more _ _) hb) hb2⟩
set_option maxHeartbeats 1000000 in
theorem wput_4 (w : World) :
    Calls Tryd.prog 104 #[.agg #[.int .i64 4, .string ⟨#[]⟩, .int .i64 0]] w fun e w' => e = .returned (.string ⟨nullL.toArray⟩) ∧ Below w.heap.size w w' := by
  have Hr := Lib.hid (wright_at 4 ⟨#[]⟩ 0 true right4)
  go_enter Tryd.func104, Tryd.ntmps104
  go_wp2_with (go_at_call 124; refine (Hr.out _).mono ?_; rintro e w1 ⟨rfl, hb⟩; obtain ⟨hc0, hc1, hc2⟩ := box3 hb)
  go_ret
  exact ⟨rfl, grow3 (one_more _ _) hb⟩
set_option maxHeartbeats 1000000 in
theorem wput_5 (n : Int) (hi : In n) (hn : 0 ≤ n ∧ n ≤ 999) (w : World) :
    Calls Tryd.prog 104 #[.agg #[.int .i64 5, .string ⟨#[]⟩, .int .i64 n]] w fun e w' => e = .returned (.string ⟨(35 :: dec n).toArray⟩) ∧ Below w.heap.size w w' := by
  have Hr := Lib.hid (wright_at 5 ⟨#[]⟩ n true (right5 hn))
  have Hi := Lib.hid hi
  have hfin : (⟨#[35]⟩ : ByteArray) ++ ⟨(dec n).toArray⟩ = ⟨(35 :: dec n).toArray⟩ := by
    apply ByteArray.ext; rw [ByteArray.data_append]; simp
  have Hfin := Lib.hid hfin
  have hlen : ¬ 9223372036854775807 < 1 + (dec n).length := by have := (read_dec n hi).2.2; omega
  clear hn hi hfin
  go_enter Tryd.func104, Tryd.ntmps104
  go_wp2_with (first | (go_at_call 124; refine (Hr.out _).mono ?_; rintro e w1 ⟨rfl, hb⟩; obtain ⟨hc0, hc1, hc2⟩ := box3 hb) | (go_at_call 74; refine (put_any n _ Hi.out).mono ?_; rintro e w2 ⟨rfl, hb2⟩))
  go_ret
  exact ⟨congrArg (fun b => Ending.returned (Value.string b)) Hfin.out, grow3 (grow3 (one_more _ _) hb) hb2⟩

theorem wput_any (a : A) (ha : In a.2.2) (w : World) :
    Calls Tryd.prog 104 #[val a] w fun e w' => e = .returned (.string ⟨(wput a).toArray⟩) ∧ Below w.heap.size w w' := by
  by_cases h : rightV a = true
  · rcases right_cases h with ⟨s, rfl, hn⟩ | ⟨n, rfl⟩ | ⟨n, rfl, hpl⟩ | rfl | ⟨n, rfl, hn⟩
    · rw [wput1 hn, bytes_of]; exact wput_1 s w hn
    · rw [wput2]; exact wput_2 n ha w
    · rw [wput3 hpl]; exact wput_3 n hpl w
    · rw [wput4]; exact wput_4 w
    · rw [wput5 hn]; exact wput_5 n ha hn w
  · have h' : rightV a = false := by simpa using h
    have hp : wput a = [] := by unfold wput; rw [if_neg h]
    rw [hp]
    exact wput_no a.1 a.2.1 a.2.2 w h'
end Go.Proofs.YtdgmdpphimenjaaDoor

namespace Go.Proofs.YtdgmdpphimenjaaDoor
open Go.RowKit NumM FloM WordM Mem

def valP (g : A × Bool) : Ending := .returned (.tuple #[val g.1, .bool g.2])

theorem put3 {w w1 : World} {g : Nat} {v0 v1 v2 : Value} (hg : w.heap.size ≤ g) (h : Below w.heap.size w w1) : Below w.heap.size w (((w1.setCell ⟨g, 0, none⟩ v0).setCell ⟨g, 1, none⟩ v1).setCell ⟨g, 2, none⟩ v2) :=
  ((h.setCell hg _).setCell hg _).setCell hg _

theorem not_empty (s : ByteArray) (h0 : 0 < s.size) : s.toList.isEmpty = false := by
  rw [ByteArray.toList_eq]
  have : s.data.toList.length = s.size := by rw [Array.length_toList]; rfl
  cases hx : s.data.toList with
  | nil => rw [hx] at this; simp at this; omega
  | cons => rfl

theorem head_split (s : ByteArray) (h0 : 0 < s.size) : ∃ t, s.data.toList = s[0] :: t := by
  have hh := head_of s h0
  cases hx : s.data.toList with
  | nil => rw [hx] at hh; simp at hh
  | cons c t => rw [hx] at hh; exact ⟨t, by rw [Option.some.inj hh]⟩
theorem u8_is {c d : UInt8} (h : c.toNat = d.toNat) : c = d := UInt8.toNat_inj.1 h

end Go.Proofs.YtdgmdpphimenjaaDoor

namespace Go.Proofs.YtdgmdpphimenjaaDoor
open Go.RowKit NumM FloM WordM Mem

theorem own3 {w : World} {g : Nat} {t : TypeId} {v0 v1 v2 : Value} (o : Own w g t [v0, v1, v2]) :
    (w.cell? ⟨g, 0, none⟩ = some v0 ∧ w.cell? ⟨g, 1, none⟩ = some v1 ∧ w.cell? ⟨g, 2, none⟩ = some v2) ∧
    (w.frozen? ⟨g, 0, none⟩ = false ∧ w.frozen? ⟨g, 1, none⟩ = false ∧ w.frozen? ⟨g, 2, none⟩ = false) ∧ g < w.heap.size :=
  ⟨⟨o.cell 0, o.cell 1, o.cell 2⟩, ⟨o.thaw 0, o.thaw 1, o.thaw 2⟩, o.lt⟩
theorem made3 {w w1 : World} {t : TypeId} {v0 v1 v2 : Value} (hb : Below (w.alloc (.cells #[v0, v1, v2] t)).heap.size (w.alloc (.cells #[v0, v1, v2] t)) w1) : Own w1 w.heap.size t [v0, v1, v2] :=
  (Own.made w t [v0, v1, v2]).below hb (by simp)
theorem keep3 {w1 w2 : World} {g : Nat} {t : TypeId} {cs : List Value} {x : Obj} (o : Own w1 g t cs) (hb : Below (w1.alloc x).heap.size (w1.alloc x) w2) : Own w2 g t cs :=
  (o.alloc x).below hb (by have := o.lt; simp; omega)

theorem wput_at (k : Int) (s : ByteArray) (n : Int) (l : List UInt8) (hn : In n) (h : wput (k, s, n) = l) (w : World) :
    Calls Tryd.prog 104 #[.agg #[.int .i64 k, .string s, .int .i64 n]] w fun e w' => e = .returned (.string ⟨l.toArray⟩) ∧ Below w.heap.size w w' := by
  rw [← h]; exact wput_any (k, s, n) hn w
end Go.Proofs.YtdgmdpphimenjaaDoor

/-
  What the document's own Do does, walked: half, size, truth, bits, and Do.
-/
namespace Go.Proofs.YtdgmdpphimenjaaDoor.R01
open Go.RowKit NumM Mem

set_option maxHeartbeats 400000 in
theorem size_any (n : Int) (w : World) (h : In n) : Calls Tryd.prog 40 #[.int .i64 n] w fun e w' => e = .returned (.int .u64 (n.natAbs : Int)) ∧ w = w' := by
  have h1 := h.1
  have h2 := h.2
  have hw : IntKind.u64.wrap (0 - IntKind.u64.wrap n) = -n ∨ 0 ≤ n := by rw [wu64, wu64]; omega
  have hw1 : IntKind.u64.wrap (-IntKind.u64.wrap n) = -n ∨ 0 ≤ n := by rw [wu64, wu64]; omega
  have hw2 : IntKind.u64.wrap n = n ∨ n < 0 := by rw [wu64]; omega
  clear h
  by_cases hn : n < 0
  all_goals
    go_enter Tryd.func40, Tryd.ntmps40
    go_wp2
    go_ret
    exact ⟨congrArg (fun x => Ending.returned (Value.int IntKind.u64 x)) (by omega), rfl⟩

/-- the four cells of a table. -/
def cells4 (t : Nat → Nat) : List Value := [.int .u64 (t 0 : Nat), .int .u64 (t 1 : Nat), .int .u64 (t 2 : Nat), .int .u64 (t 3 : Nat)]

theorem u64_eq {a b : Int} (h : a = b) : Value.int IntKind.u64 a = .int .u64 b := by rw [h]
theorem sum_eq {g p : Nat} {z : Int} {i : Nat} {t : Nat → Nat} (h : (t i = 0 ∧ z = g) ∨ (t i = 1 ∧ z = g + p)) : z = ((g + p * t i : Nat) : Int) := by
  rcases h with ⟨h1, h2⟩ | ⟨h1, h2⟩
  · rw [h1, h2]; simp
  · rw [h1, h2]; simp

theorem ret_pair {a b : Int} {x y : Bool} (h : a = b) (h' : x = y) : Ending.returned (.tuple #[.int .i64 a, .bool x]) = .returned (.tuple #[.int .i64 b, .bool y]) := by rw [h, h']

theorem quo_val (a b : Int) (hb : ¬ b = 0) : doV 4 a b = if decide (a < 0) = decide (b < 0) then wrap64 ((a.natAbs : Int) / (b.natAbs : Int)) else wrap64 (-((a.natAbs : Int) / (b.natAbs : Int))) := by
  rw [show doV 4 a b = if b = 0 then 0 else wrap64 (a.tdiv b) from rfl, if_neg hb, quo_sizes]
  split <;> simp
theorem rem_val (a b : Int) (hb : ¬ b = 0) (ha : In a) (hib : In b) : doV 5 a b = if a < 0 then wrap64 (-((a.natAbs : Int) % (b.natAbs : Int))) else wrap64 ((a.natAbs : Int) % (b.natAbs : Int)) := by
  have h1 : doV 5 a b = a.tmod b := by
    rw [show doV 5 a b = if b = 0 then 0 else a.tmod b from rfl, if_neg hb]
  have h2 : a.natAbs % b.natAbs < b.natAbs := Nat.mod_lt _ (by omega)
  obtain ⟨ha1, ha2⟩ := ha
  obtain ⟨hb1, hb2⟩ := hib
  have h3 : a.natAbs % b.natAbs ≤ a.natAbs := Nat.mod_le _ _
  rw [h1, rem_sizes]
  split
  · rw [← Int.natCast_emod, wrap_in]; unfold In; omega
  · rw [← Int.natCast_emod, wrap_in]; unfold In; omega

end Go.Proofs.YtdgmdpphimenjaaDoor.R01

/-
  What the document's own Put and Get do, walked.
-/
namespace Go.Proofs.YtdgmdpphimenjaaDoor.R01
open Go.RowKit NumM Mem

theorem info_u8 : (Tryd.prog.info? 5).map (fun i => (i.zero, i.size, i.bytes)) = some (some (.int .u8 0), 1, 1) := by kernel_rfl

theorem own_cons {w : World} {base n r : Nat} {v : Value} {l : List UInt8} (h : w.ownsRow base 5 1 v n ([.int .u8 (48 + (r : Int) % 10)] ++ l.map fun c => .int .u8 (c.toNat : Int))) :
    w.ownsRow base 5 1 v n ((dig r :: l).map fun c => .int .u8 (c.toNat : Int)) := by
  rw [List.map_cons, dig_val]; exact h

theorem str_cons {w : World} {base n r : Nat} {v : Value} {l : List UInt8} (h : w.ownsRow base 5 1 v n ([.int .u8 (48 + (r : Int) % 10)] ++ l.map fun c => .int .u8 (c.toNat : Int))) :
    (convert 53 9 v).run Tryd.prog w = .ok (.string ⟨(dig r :: l).toArray⟩) w :=
  own_string w 53 9 5 Tryd.underlying53 Tryd.underlying5 Tryd.underlying9 (dig r :: l) (by simp) (own_cons h)

theorem fits_next {r c : Nat} (hc : c ≤ 18) (h : r < 10 ^ (19 - c)) (hz : ¬ r / 10 = 0) : c + 1 ≤ 18 ∧ r / 10 < 10 ^ (19 - (c + 1)) := by
  have h2 : 10 ^ (19 - c) = 10 ^ (19 - (c + 1)) * 10 := by rw [← Nat.pow_succ]; congr 1; omega
  refine ⟨?_, by omega⟩
  by_cases h3 : c = 18
  · subst h3; simp at h; omega
  · omega

set_option maxRecDepth 20000 in
set_option maxHeartbeats 1000000 in
theorem put_any (n : Int) (w : World) (h : In n) : Calls Tryd.prog 18 #[.int .i64 n] w fun e w' => e = .returned (.string ⟨(dec n).toArray⟩) ∧ Below w.heap.size w w' := by
  have hs : n.natAbs < 10 ^ (19 - 0) := by have h1 := h.1; have h2 := h.2; omega
  obtain ⟨i0, hi, hz0, hz1, hz2⟩ := info_parts info_u8
  have Hs := Lib.hid hs
  have Hi := Lib.hid hi
  have Hz0 := Lib.hid hz0
  have Hz1 := Lib.hid hz1
  have Hz2 := Lib.hid hz2
  clear hs hi hz0 hz1 hz2
  go_enter Tryd.func18, Tryd.ntmps18
  go_wp2_with (go_at_call 40; refine (size_any _ _ h).mono ?_; rintro e w' ⟨rfl, rfl⟩)
  go_loopw [3, 4] (fun b m wr => ∃ (r : Nat) (l : List UInt8), m = .int .u64 (r : Int) ∧ Digs n.natAbs r l ∧ l.length ≤ 18 ∧ r < 10 ^ (19 - l.length) ∧
      wr.ownsRow w.heap.size 5 1 b l.length (l.map fun c => .int .u8 (c.toNat : Int)) ∧ Below w.heap.size w wr) (fun _ m _ => (intOf m).toNat)
  case atStart => exact ⟨n.natAbs, [], rfl, Digs.start _, by simp, Hs.out, ⟨by simp, .inl ⟨rfl, rfl⟩⟩, Below.refl _ _⟩
  case round =>
    rename_i b _
    obtain ⟨r, l, rfl, hd, hl, hr, ho, hb⟩ := hrel
    have hr64 : (r : Int) < 18446744073709551616 := by
      have : 10 ^ (19 - l.length) ≤ 10 ^ 19 := Nat.pow_le_pow_right (by decide) (by omega)
      omega
    have Ho := Lib.hid ho
    have Hd := Lib.hid hd
    have Hr := Lib.hid hr
    clear ho hd hr
    have hw : w.heap.size ≤ wr.heap.size := hb.size
    have hone : ((wr.alloc (.cells #[.int .u8 (48 + (r : Int) % 10)] 5)).ownsRow w.heap.size 5 1 (.slice (some ⟨wr.heap.size, 0, none⟩) 1 1) 1 [.int .u8 (48 + (r : Int) % 10)]) :=
      (Own.made wr 5 [.int .u8 (48 + (r : Int) % 10)]).row hw (by omega) (by decide) rfl rfl
    have hcs : ∀ u ∈ l.map (fun c : UInt8 => Value.int .u8 (c.toNat : Int)), u.oneCell' = true := by
      intro u hu; obtain ⟨c, _, rfl⟩ := List.mem_map.1 hu; rfl
    have Hone := Lib.hid hone
    have Hcs := Lib.hid hcs
    have Hw := Lib.hid hw
    clear hone hcs hw
    by_cases hz : r / 10 = 0
    · have hz1 : ((r : Int) / 10 == 0) = true := by simp; omega
      have Hz := Lib.hid hz
      clear hz
      by_cases hn : n < 0
      · have hfin : (⟨#[45]⟩ : ByteArray) ++ ⟨(dig r :: l).toArray⟩ = ⟨(dec n).toArray⟩ := by
          rw [dec, if_pos hn, Hd.out.last Hz.out]; apply ByteArray.ext; rw [ByteArray.data_append]; simp
        have Hfin := Lib.hid hfin
        clear hfin
        go_wp2_with (at_builtin; refine wpList_app (w := wr.alloc (.cells #[.int .u8 (48 + (r : Int) % 10)] 5)) rfl _ _ 53 rfl w.heap.size 5 i0 (.int .u8 0) 1 1 Tryd.underlying53 Hi.out Hz0.out Hz1.out Hz2.out rfl (by decide) _ 1 [.int .u8 (48 + (r : Int) % 10)] rfl Hone.out _ l.length _ rfl (Ho.out.alloc _) Hcs.out (by unfold maxLen; omega) (by omega) (by have := Hw.out; simp; omega) ?_; intro v' w1 hown1 hb1; have hcv := str_cons hown1; have Hb1 := Lib.hid hb1; clear hown1 hb1)
        go_ret
        exact ⟨congrArg (fun b => Ending.returned (Value.string b)) Hfin.out, (hb.alloc Hw.out _).trans Hb1.out⟩
      · have hfin : (⟨(dig r :: l).toArray⟩ : ByteArray) = ⟨(dec n).toArray⟩ := by
          rw [dec, if_neg hn, Hd.out.last Hz.out]
        have Hfin := Lib.hid hfin
        clear hfin
        go_wp2_with (at_builtin; refine wpList_app (w := wr.alloc (.cells #[.int .u8 (48 + (r : Int) % 10)] 5)) rfl _ _ 53 rfl w.heap.size 5 i0 (.int .u8 0) 1 1 Tryd.underlying53 Hi.out Hz0.out Hz1.out Hz2.out rfl (by decide) _ 1 [.int .u8 (48 + (r : Int) % 10)] rfl Hone.out _ l.length _ rfl (Ho.out.alloc _) Hcs.out (by unfold maxLen; omega) (by omega) (by have := Hw.out; simp; omega) ?_; intro v' w1 hown1 hb1; have hcv := str_cons hown1; have Hb1 := Lib.hid hb1; clear hown1 hb1)
        go_ret
        exact ⟨congrArg (fun b => Ending.returned (Value.string b)) Hfin.out, (hb.alloc Hw.out _).trans Hb1.out⟩
    · have hz1 : ((r : Int) / 10 == 0) = false := by simp; omega
      have Hz := Lib.hid hz
      clear hz
      go_wp2_with (at_builtin; refine wpList_app (w := wr.alloc (.cells #[.int .u8 (48 + (r : Int) % 10)] 5)) rfl _ _ 53 rfl w.heap.size 5 i0 (.int .u8 0) 1 1 Tryd.underlying53 Hi.out Hz0.out Hz1.out Hz2.out rfl (by decide) _ 1 [.int .u8 (48 + (r : Int) % 10)] rfl Hone.out _ l.length _ rfl (Ho.out.alloc _) Hcs.out (by unfold maxLen; omega) (by omega) (by have := Hw.out; simp; omega) ?_; intro v' w1 hown1 hb1)
      go_roundw
      case rel =>
        obtain ⟨f1, f2⟩ := fits_next hl Hr.out Hz.out
        refine ⟨r / 10, dig r :: l, by go_num, Hd.out.more Hz.out, by simpa using f1, by simpa using f2, ?_, (hb.alloc Hw.out _).trans hb1⟩
        rw [List.length_cons, Nat.add_comm]
        exact own_cons hown1
      case measure =>
        have := Hz.out
        simp [intOf]; omega

theorem ustep_eq (n : Int) (c : UInt8) : IntKind.u64.wrap (IntKind.u64.wrap (IntKind.u64.wrap (n * 10) + IntKind.u64.wrap (c.toNat : Int)) - 48) = uStep n c := by
  unfold uStep; rw [wu64, wu64, wu64, wu64]; omega
theorem ustep_eq' (n : Int) (c : UInt8) : IntKind.u64.wrap (IntKind.u64.wrap (IntKind.u64.wrap (n * 10) + (c.toNat : Int)) - 48) = uStep n c := by
  unfold uStep; rw [wu64, wu64, wu64]; omega
theorem tail_next (s : ByteArray) (k : Nat) (h0 : 0 < k) (h : k < s.size) : (s.data.toList.take (k + 1)).tail = (s.data.toList.take k).tail ++ [s[k]] := by
  rw [take_next s k h, List.tail_append_of_ne_nil]
  intro e
  have hl := congrArg List.length e
  rw [List.length_take, Array.length_toList, List.length_nil] at hl
  have hsz : s.data.size = s.size := rfl
  omega
theorem take_end (s : ByteArray) (k : Nat) (h2 : k ≤ 30) (h : ¬ (k < s.size ∧ k < 30)) : s.data.toList.take k = s.data.toList.take 30 := by
  by_cases h3 : k = 30
  · rw [h3]
  · have h4 : s.size ≤ k := by
      rcases Nat.lt_or_ge k s.size with h4 | h4
      · exact absurd ⟨h4, by omega⟩ h
      · exact h4
    have e1 : s.data.toList.take k = s.data.toList := List.take_of_length_le (by simpa using h4)
    have e2 : s.data.toList.take 30 = s.data.toList := List.take_of_length_le (by rw [Array.length_toList]; exact Nat.le_trans h4 h2)
    rw [e1, e2]

end Go.Proofs.YtdgmdpphimenjaaDoor.R01

/-
  What the document's own IsNan, Plain, made, truth, Do and OfInt do, walked: what the program's do.
-/
namespace Go.Proofs.YtdgmdpphimenjaaDoor.R02
open Go.RowKit NumM FloM

set_option maxHeartbeats 400000 in
theorem isnan_any (n : Int) (w : World) : Calls Tryd.prog 102 #[.int .i64 n] w fun e w' => e = .returned (.bool (decide (9218868437227405312 < n % 9223372036854775808))) ∧ w = w' := by
  have hv : decide (9218868437227405312 < IntKind.u64.wrap n % 9223372036854775808) = decide (9218868437227405312 < n % 9223372036854775808) := by
    rw [wu64, show n % 18446744073709551616 % 9223372036854775808 = n % 9223372036854775808 by omega]
  have Hv := Lib.hid hv
  have h0 : 0 ≤ IntKind.u64.wrap n := by rw [wu64]; omega
  have h1 : IntKind.u64.wrap n < 18446744073709551616 := by rw [wu64]; omega
  clear hv
  go_enter Tryd.func102, Tryd.ntmps102
  go_wp2
  go_ret
  exact ⟨congrArg (fun x => Ending.returned (Value.bool x)) Hv.out, rfl⟩
/-- .. with its answer. -/
theorem isnan_at (n : Int) (x : Bool) (h : decide (9218868437227405312 < n % 9223372036854775808) = x) (w : World) : Calls Tryd.prog 102 #[.int .i64 n] w fun e w' => e = .returned (.bool x) ∧ w = w' := by
  subst h; exact isnan_any n w

set_option maxHeartbeats 400000 in
theorem plain_any (n : Int) (w : World) : Calls Tryd.prog 72 #[.int .i64 n] w fun e w' => e = .returned (.int .i64 (plainV n)) ∧ w = w' := by
  by_cases h : 9218868437227405312 < n % 9223372036854775808
  · have hv : plainV n = 9221120237041090560 := by unfold plainV; rw [if_pos h]
    rw [hv]
    have H := Lib.hid (decide_eq_true h)
    clear hv h
    go_enter Tryd.func72, Tryd.ntmps72
    go_wp2_with (go_at_call 102; refine (isnan_at _ true H.out _).mono ?_; rintro e w' ⟨rfl, rfl⟩)
    go_ret
    exact ⟨rfl, rfl⟩
  · have hv : plainV n = n := by unfold plainV; rw [if_neg h]
    rw [hv]
    have H := Lib.hid (decide_eq_false h)
    clear hv h
    go_enter Tryd.func72, Tryd.ntmps72
    go_wp2_with (go_at_call 102; refine (isnan_at _ false H.out _).mono ?_; rintro e w' ⟨rfl, rfl⟩)
    go_ret
    exact ⟨rfl, rfl⟩

theorem told {n : Int} (h : ¬ 9218868437227405312 < n % 9223372036854775808) : (IntKind.u64.wrap n).toNat = fl n := by
  unfold fl plainV; rw [if_neg h, wu64]; rfl

theorem op_cases (op : Int) (h : 15 ≤ op ∧ op ≤ 21) : op = 15 ∨ op = 16 ∨ op = 17 ∨ op = 18 ∨ op = 19 ∨ op = 20 ∨ op = 21 := by omega

/-- what NaN makes. -/
theorem do_nan (op a b : Int) (h : nn (ub a) ∨ nn (ub b)) (hop : 15 ≤ op ∧ op ≤ 21) : fdo op a b = if op ≤ 18 then 9221120237041090560 else 0 := by
  have hx : nn (fl a) ∨ nn (fl b) := by
    rcases h with h | h
    · left; rw [fl_nan h]; exact nn_nan
    · right; rw [fl_nan h]; exact nn_nan
  have e1 : Ieee.double.add (fl a) (fl b) = none := hx.elim add_nanl add_nanr
  have e2 : Ieee.double.sub (fl a) (fl b) = none := hx.elim sub_nanl sub_nanr
  have e3 : Ieee.double.mul (fl a) (fl b) = none := hx.elim mul_nanl mul_nanr
  have e4 : Ieee.double.div (fl a) (fl b) = none := hx.elim div_nanl div_nanr
  have e5 : Ieee.double.order (fl a) (fl b) = none := hx.elim order_nanl order_nanr
  unfold fdo
  rw [e1, e2, e3, e4, e5]
  rcases op_cases op hop with rfl | rfl | rfl | rfl | rfl | rfl | rfl <;> rfl
theorem nn_of {n : Int} (h : 9218868437227405312 < n % 9223372036854775808) : nn (ub n) := by unfold nn; have := ub_mod n; omega

theorem made_of (r : Nat) (o : Option Nat) (hr : plainV (wrap64 (r : Int)) = fr o) (hn : nn r ↔ o = none) (hlt : r < 18446744073709551616) : nn r ∧ fr o = 9221120237041090560 ∨ ¬ nn r ∧ fr o = wrap64 r := by
  by_cases h : nn r
  · left; rw [hn.1 h]; exact ⟨h, rfl⟩
  · right; rw [← hr]; exact ⟨h, plain_wrap ⟨h, hlt⟩⟩
theorem le_of_not (a b : Int) (h : (FloatKind.f64.format.order (fl a) (fl b) == some .lt) = false) : fdo 21 a b = tr (FloatKind.f64.format.order (fl a) (fl b) == some .eq) := by
  show tr (FloatKind.f64.format.order (fl a) (fl b) == some .lt || FloatKind.f64.format.order (fl a) (fl b) == some .eq) = _
  rw [h]; rfl
theorem le_of_lt (a b : Int) (h : (FloatKind.f64.format.order (fl a) (fl b) == some .lt) = true) : fdo 21 a b = 1 := by
  show tr (FloatKind.f64.format.order (fl a) (fl b) == some .lt || FloatKind.f64.format.order (fl a) (fl b) == some .eq) = _
  rw [h]; rfl

end Go.Proofs.YtdgmdpphimenjaaDoor.R02

/-
  What the document's own Put and Get do, walked: what the program's do.
-/
namespace Go.Proofs.YtdgmdpphimenjaaDoor.R02
open Go.RowKit NumM FloM Mem

theorem info_u8 : (Tryd.prog.info? 5).map (fun i => (i.zero, i.size, i.bytes)) = some (some (.int .u8 0), 1, 1) := by kernel_rfl

theorem hx_lo {r : Nat} (h : r % 16 < 10) : (r : Int) % 16 + 48 = ((hx r).toNat : Int) := by rw [hx_val, if_pos h]; omega
theorem hx_hi {r : Nat} (h : ¬ r % 16 < 10) : (r : Int) % 16 + 87 = ((hx r).toNat : Int) := by rw [hx_val, if_neg h]; omega

theorem own_cons {w : World} {base n r : Nat} {v : Value} {l : List UInt8} {d : Int} (hd : d = ((hx r).toNat : Int)) (h : w.ownsRow base 5 1 v n ([.int .u8 d] ++ l.map fun c => .int .u8 (c.toNat : Int))) :
    w.ownsRow base 5 1 v n ((hx r :: l).map fun c => .int .u8 (c.toNat : Int)) := by
  subst hd
  rw [List.map_cons]; exact h

theorem fl_u64 (n : Int) : IntKind.u64.wrap (plainV n) = (fl n : Int) := by rw [wu64]; unfold fl ub; omega

set_option maxRecDepth 20000 in
set_option maxHeartbeats 1000000 in
theorem put_any (n : Int) (w : World) : Calls Tryd.prog 42 #[.int .i64 n] w fun e w' => e = .returned (.string ⟨(putV n).toArray⟩) ∧ Below w.heap.size w w' := by
  obtain ⟨i0, hi, hz0, hz1, hz2⟩ := info_parts info_u8
  have Hi := Lib.hid hi
  have Hz0 := Lib.hid hz0
  have Hz1 := Lib.hid hz1
  have Hz2 := Lib.hid hz2
  have Hlt : Hid ((fl n : Int) < 18446744073709551616) := by have := fl_lt n; show _ < _; omega
  have Hfl : Hid (Value.int .u64 (IntKind.u64.wrap (plainV n)) = .int .u64 (fl n : Int)) := by show _ = _; rw [fl_u64]
  clear hi hz0 hz1 hz2
  go_enter Tryd.func42, Tryd.ntmps42
  go_wp2_with (go_at_call 72; refine (plain_any _ _).mono ?_; rintro e w' ⟨rfl, rfl⟩)
  go_loopw [3, 4, 5] (fun u b i wr => ∃ (k r : Nat) (l : List UInt8), i = .int .i64 (k : Int) ∧ u = .int .u64 (r : Int) ∧ k ≤ 16 ∧ (r : Int) < 18446744073709551616 ∧ Hexs (fl n) (16 - k) r l ∧ l.length = k ∧
      wr.ownsRow w.heap.size 5 1 b k (l.map fun c => .int .u8 (c.toNat : Int)) ∧ Below w.heap.size w wr) (fun _ _ i _ => (16 - intOf i).toNat)
  case atStart => exact ⟨0, fl n, [], rfl, Hfl.out, by omega, Hlt.out, Hexs.start _, rfl, ⟨by simp, .inl ⟨rfl, rfl⟩⟩, Below.refl _ _⟩
  case round =>
    obtain ⟨k, r, l, rfl, rfl, hk, hr, hd, hl, ho, hb⟩ := hrel
    have Ho := Lib.hid ho
    have Hd := Lib.hid hd
    have Hl := Lib.hid hl
    have hw : w.heap.size ≤ wr.heap.size := hb.size
    have Hw := Lib.hid hw
    clear ho hd hl hw
    by_cases h16 : k < 16
    · have t1 : decide ((k : Int) < 16) = true := decide_eq_true (by omega)
      have Hk := Lib.hid h16
      have hcs : ∀ u ∈ l.map (fun c : UInt8 => Value.int .u8 (c.toNat : Int)), u.oneCell' = true := by
        intro u hu; obtain ⟨c, _, rfl⟩ := List.mem_map.1 hu; rfl
      have Hcs := Lib.hid hcs
      clear hcs h16
      by_cases h10 : r % 16 < 10
      · have t2 : decide ((r : Int) % 16 < 10) = true := decide_eq_true (by omega)
        have Hx := Lib.hid (hx_lo h10)
        clear h10
        have hone : ((wr.alloc (.cells #[.int .u8 ((r : Int) % 16 + 48)] 5)).ownsRow w.heap.size 5 1 (.slice (some ⟨wr.heap.size, 0, none⟩) 1 1) 1 [.int .u8 ((r : Int) % 16 + 48)]) :=
          (Own.made wr 5 [.int .u8 ((r : Int) % 16 + 48)]).row Hw.out (by omega) (by decide) rfl rfl
        have Hone := Lib.hid hone
        clear hone
        go_wp2_with (at_builtin; refine wpList_app (w := wr.alloc (.cells #[.int .u8 ((r : Int) % 16 + 48)] 5)) rfl _ _ 53 rfl w.heap.size 5 i0 (.int .u8 0) 1 1 Tryd.underlying53 Hi.out Hz0.out Hz1.out Hz2.out rfl (by decide) _ 1 [.int .u8 ((r : Int) % 16 + 48)] rfl Hone.out _ k _ rfl (Ho.out.alloc _) Hcs.out (by unfold maxLen; omega) (by omega) (by have := Hw.out; simp; omega) ?_; intro v' w1 hown1 hb1)
        go_roundw
        case rel =>
          have h1 := Hk.out
          refine ⟨k + 1, r / 16, hx r :: l, by go_num, by go_num, by omega, by omega, ?_, by have := Hl.out; simp; omega, ?_, (hb.alloc Hw.out _).trans hb1⟩
          · have h2 := Hd.out
            rw [show 16 - k = 16 - (k + 1) + 1 by omega] at h2
            exact h2.more
          · rw [Nat.add_comm]; exact own_cons Hx.out hown1
        case measure =>
          have := Hk.out
          simp [intOf]; omega
      · have t2 : decide ((r : Int) % 16 < 10) = false := decide_eq_false (by omega)
        have Hx := Lib.hid (hx_hi h10)
        clear h10
        have hone : ((wr.alloc (.cells #[.int .u8 ((r : Int) % 16 + 87)] 5)).ownsRow w.heap.size 5 1 (.slice (some ⟨wr.heap.size, 0, none⟩) 1 1) 1 [.int .u8 ((r : Int) % 16 + 87)]) :=
          (Own.made wr 5 [.int .u8 ((r : Int) % 16 + 87)]).row Hw.out (by omega) (by decide) rfl rfl
        have Hone := Lib.hid hone
        clear hone
        go_wp2_with (at_builtin; refine wpList_app (w := wr.alloc (.cells #[.int .u8 ((r : Int) % 16 + 87)] 5)) rfl _ _ 53 rfl w.heap.size 5 i0 (.int .u8 0) 1 1 Tryd.underlying53 Hi.out Hz0.out Hz1.out Hz2.out rfl (by decide) _ 1 [.int .u8 ((r : Int) % 16 + 87)] rfl Hone.out _ k _ rfl (Ho.out.alloc _) Hcs.out (by unfold maxLen; omega) (by omega) (by have := Hw.out; simp; omega) ?_; intro v' w1 hown1 hb1)
        go_roundw
        case rel =>
          have h1 := Hk.out
          refine ⟨k + 1, r / 16, hx r :: l, by go_num, by go_num, by omega, by omega, ?_, by have := Hl.out; simp; omega, ?_, (hb.alloc Hw.out _).trans hb1⟩
          · have h2 := Hd.out
            rw [show 16 - k = 16 - (k + 1) + 1 by omega] at h2
            exact h2.more
          · rw [Nat.add_comm]; exact own_cons Hx.out hown1
        case measure =>
          have := Hk.out
          simp [intOf]; omega
    · obtain rfl : k = 16 := by omega
      have h2 := Hd.out
      have hfin : (⟨#[48, 102]⟩ : ByteArray) ++ ⟨l.toArray⟩ = ⟨(putV n).toArray⟩ := by
        rw [putV, Hexs.last h2]; apply ByteArray.ext; rw [ByteArray.data_append]; simp
      have hcv :=
        own_string (P := Tryd.prog) wr 53 9 5 Tryd.underlying53 Tryd.underlying5 Tryd.underlying9 l (by have := Hl.out; rintro rfl; simp at this) Ho.out
      have Hfin := Lib.hid hfin
      have hl16 := Hl.out
      clear hfin h2 h16 hk
      go_wp2
      go_ret
      exact ⟨congrArg (fun b => Ending.returned (Value.string b)) Hfin.out, hb⟩

theorem u64_eqt {a b : Int} (h : a = b) : Value.int IntKind.u64 a = .int .u64 b := by rw [h]

theorem take_drop_next (s : ByteArray) (k : Nat) (h0 : 2 ≤ k) (h : k < s.size) : (s.data.toList.take (k + 1)).drop 2 = (s.data.toList.take k).drop 2 ++ [s[k]] := by
  rw [ftake_next s k h, List.drop_append_of_le_length]
  rw [List.length_take, Array.length_toList]
  have hsz : s.data.size = s.size := rfl
  omega

theorem step_hi (u c : Int) : IntKind.u64.wrap (IntKind.u64.wrap (u * 16) + (c - 87) % 16) = (u * 16 + (c - 87) % 16) % 18446744073709551616 := by rw [wu64, wu64]; omega
theorem step_lo (u c : Int) : IntKind.u64.wrap (IntKind.u64.wrap (u * 16) + (IntKind.u64.wrap (c - 48)).tmod 16) = (u * 16 + (c - 48) % 18446744073709551616 % 16) % 18446744073709551616 := by
  rw [Int.tmod_eq_emod_of_nonneg (by rw [wu64]; omega), wu64, wu64, wu64]; omega

theorem rrd_in (l : List UInt8) : 0 ≤ rrd l ∧ rrd l < 18446744073709551616 := by
  unfold rrd
  suffices h : ∀ (l : List UInt8) (a : Int), 0 ≤ a ∧ a < 18446744073709551616 → 0 ≤ l.foldl rstep a ∧ l.foldl rstep a < 18446744073709551616 from h l 0 (by omega)
  intro l
  induction l with
  | nil => intro a h; exact h
  | cons c l ih => intro a _; exact ih _ (by unfold rstep; omega)

end Go.Proofs.YtdgmdpphimenjaaDoor.R02

/-
  The document's own Name, Right, Put, Get of layer 3, walked: what the program's do.
-/
namespace Go.Proofs.YtdgmdpphimenjaaDoor.R03
open Go.RowKit NumM FloM WordM Mem

/-- what the document's Name has seen of the bytes ahead of the k-th. -/
def Seen (s : ByteArray) (k : Nat) : Prop := (s.data.toList.take k).all (fun c => letB c || digB c) = true ∧ (0 < k → digB (s.data.toList.headD 0) = false)
theorem dig_not_let {c : UInt8} (h : digB c = true) : letB c = false := by
  simp [digB] at h
  cases hl : letB c
  · rfl
  · have := let_val hl; omega
theorem let_not_dig {c : UInt8} (h : letB c = true) : digB c = false := by
  cases hd : digB c
  · rfl
  · rw [dig_not_let hd] at h; cases h
theorem headD_of (s : ByteArray) (h0 : 0 < s.size) : s.data.toList.headD 0 = s[0] := by
  obtain ⟨t, ht⟩ := head_split s h0
  rw [ht]; rfl
theorem Seen.let {s : ByteArray} {k : Nat} (h : Seen s k) (hk : k < s.size) (hc : letB s[k] = true) : Seen s (k + 1) := by
  refine ⟨by rw [take_next s k hk, List.all_append, h.1]; simp [hc], fun _ => ?_⟩
  by_cases h0 : k = 0
  · subst h0; rw [headD_of s hk]; exact let_not_dig hc
  · exact h.2 (by omega)
theorem Seen.dig {s : ByteArray} {k : Nat} (h : Seen s k) (hk : k < s.size) (h0 : 0 < k) (hc : digB s[k] = true) : Seen s (k + 1) :=
  ⟨by rw [take_next s k hk, List.all_append, h.1]; simp [hc], fun _ => h.2 h0⟩
theorem bad_dig {s : ByteArray} (hk : 0 < s.size) (hc : digB s[0] = true) : nameV s.data.toList = false := by
  obtain ⟨t, ht⟩ := head_split s hk
  rw [ht]; exact nameV_digit hc
theorem bad_any {s : ByteArray} {k : Nat} (hk : k < s.size) (h1 : letB s[k] = false) (h2 : digB s[k] = false) : nameV s.data.toList = false :=
  nameV_bad (c := s[k]) (List.getElem_mem (l := s.data.toList) (n := k) (by rw [Array.length_toList]; exact hk)) (by rw [h1, h2]; rfl)
theorem Seen.end {s : ByteArray} (h : Seen s s.size) (h0 : 1 ≤ s.size) (h16 : s.size ≤ 16) : nameV s.data.toList = ((s.data.toList != nullL) && (s.data.toList != intL) && (s.data.toList != floatL)) := by
  obtain ⟨t, ht⟩ := head_split s h0
  have hl : s.data.toList.length = s.size := by rw [Array.length_toList]; rfl
  have h1 := h.1
  have h2 := h.2 h0
  rw [← hl, List.take_length] at h1
  rw [ht] at h1 h2 hl ⊢
  exact nameV_end (by omega) h2 h1

set_option maxHeartbeats 4000000 in
theorem name_any (s : ByteArray) (w : World) (hm : s.size ≤ 9223372036854775807) : Calls Tryd.prog 71 #[.string s] w fun e w' => e = .returned (.bool (nameV s.data.toList)) ∧ w = w' := by
  obtain ⟨g, hg⟩ : ∃ g, nameV s.data.toList = g := ⟨_, rfl⟩
  rw [hg]
  have Hg := Lib.hid hg
  clear hg
  go_enter Tryd.func71, Tryd.ntmps71
  go_wp2_with fail
  go_loop [3, 4, 5] (fun i _ _ => ∃ k : Nat, k ≤ s.size ∧ i = .int .i64 k ∧ Seen s k) (fun i _ _ => s.size - (intOf i).toNat)
  case atStart => exact ⟨0, Nat.zero_le _, rfl, rfl, fun h => absurd h (by omega)⟩
  case round =>
    obtain ⟨k, hk, rfl, hS⟩ := hrel
    have HS := Lib.hid hS
    clear hS
    by_cases hlt : k < s.size
    · have hcl : (48 ≤ s[k].toNat ∧ s[k].toNat ≤ 57) ∨ s[k].toNat = 95 ∨ (65 ≤ s[k].toNat ∧ s[k].toNat ≤ 90) ∨ (97 ≤ s[k].toNat ∧ s[k].toNat ≤ 122) ∨ s[k].toNat ≤ 47 ∨ (58 ≤ s[k].toNat ∧ s[k].toNat ≤ 64) ∨ (91 ≤ s[k].toNat ∧ s[k].toNat ≤ 94) ∨ s[k].toNat = 96 ∨ 123 ≤ s[k].toNat := by omega
      rcases hcl with hc | hc | hc | hc | hc | hc | hc | hc | hc
      · have t1 : decide (48 ≤ (s[k].toNat : Int)) = true := decide_eq_true (by omega)
        have t2 : decide ((s[k].toNat : Int) ≤ 57) = true := decide_eq_true (by omega)
        have t3 : ((s[k].toNat : Int) != 95) = true := by rw [bne_iff_ne]; omega
        have t4 : decide ((s[k].toNat : Int) < 65) = true := decide_eq_true (by omega)
        have t5 : decide (90 < (s[k].toNat : Int)) = false := decide_eq_false (by omega)
        have t6 : decide ((s[k].toNat : Int) < 97) = true := decide_eq_true (by omega)
        have t7 : decide (122 < (s[k].toNat : Int)) = false := decide_eq_false (by omega)
        have Hd := Lib.hid (show digB s[k] = true by simp only [digB, t1, t2]; rfl)
        clear hc
        by_cases h0 : k = 0
        · obtain rfl : g = false := by
            rw [← Hg.out]
            have h1 := Hd.out
            subst h0
            exact bad_dig hlt h1
          subst h0
          go_wp2_with fail
          go_ret
          exact ⟨rfl, rfl⟩
        · have h1 : decide (0 < (k : Int)) = true := decide_eq_true (by omega)
          have hz : 0 < k := by omega
          go_wp2_with fail
          go_round
          case rel => exact ⟨k + 1, by omega, by go_num, HS.out.dig hlt hz Hd.out⟩
          case measure => simp [intOf]; omega
      · have t1 : decide (48 ≤ (s[k].toNat : Int)) = true := decide_eq_true (by omega)
        have t2 : decide ((s[k].toNat : Int) ≤ 57) = false := decide_eq_false (by omega)
        have t3 : ((s[k].toNat : Int) != 95) = false := by rw [hc]; rfl
        have t4 : decide ((s[k].toNat : Int) < 65) = false := decide_eq_false (by omega)
        have t5 : decide (90 < (s[k].toNat : Int)) = true := decide_eq_true (by omega)
        have t6 : decide ((s[k].toNat : Int) < 97) = true := decide_eq_true (by omega)
        have t7 : decide (122 < (s[k].toNat : Int)) = false := decide_eq_false (by omega)
        have Hd := Lib.hid (show letB s[k] = true by unfold letB; simp; omega)
        clear hc
        go_wp2_with fail
        go_round
        case rel => exact ⟨k + 1, by omega, by go_num, HS.out.let hlt Hd.out⟩
        case measure => simp [intOf]; omega
      · have t1 : decide (48 ≤ (s[k].toNat : Int)) = true := decide_eq_true (by omega)
        have t2 : decide ((s[k].toNat : Int) ≤ 57) = false := decide_eq_false (by omega)
        have t3 : ((s[k].toNat : Int) != 95) = true := by rw [bne_iff_ne]; omega
        have t4 : decide ((s[k].toNat : Int) < 65) = false := decide_eq_false (by omega)
        have t5 : decide (90 < (s[k].toNat : Int)) = false := decide_eq_false (by omega)
        have t6 : decide ((s[k].toNat : Int) < 97) = true := decide_eq_true (by omega)
        have t7 : decide (122 < (s[k].toNat : Int)) = false := decide_eq_false (by omega)
        have Hd := Lib.hid (show letB s[k] = true by unfold letB; simp; omega)
        clear hc
        go_wp2_with fail
        go_round
        case rel => exact ⟨k + 1, by omega, by go_num, HS.out.let hlt Hd.out⟩
        case measure => simp [intOf]; omega
      · have t1 : decide (48 ≤ (s[k].toNat : Int)) = true := decide_eq_true (by omega)
        have t2 : decide ((s[k].toNat : Int) ≤ 57) = false := decide_eq_false (by omega)
        have t3 : ((s[k].toNat : Int) != 95) = true := by rw [bne_iff_ne]; omega
        have t4 : decide ((s[k].toNat : Int) < 65) = false := decide_eq_false (by omega)
        have t5 : decide (90 < (s[k].toNat : Int)) = true := decide_eq_true (by omega)
        have t6 : decide ((s[k].toNat : Int) < 97) = false := decide_eq_false (by omega)
        have t7 : decide (122 < (s[k].toNat : Int)) = false := decide_eq_false (by omega)
        have Hd := Lib.hid (show letB s[k] = true by unfold letB; simp; omega)
        clear hc
        go_wp2_with fail
        go_round
        case rel => exact ⟨k + 1, by omega, by go_num, HS.out.let hlt Hd.out⟩
        case measure => simp [intOf]; omega
      · have t1 : decide (48 ≤ (s[k].toNat : Int)) = false := decide_eq_false (by omega)
        have t2 : decide ((s[k].toNat : Int) ≤ 57) = true := decide_eq_true (by omega)
        have t3 : ((s[k].toNat : Int) != 95) = true := by rw [bne_iff_ne]; omega
        have t4 : decide ((s[k].toNat : Int) < 65) = true := decide_eq_true (by omega)
        have t5 : decide (90 < (s[k].toNat : Int)) = false := decide_eq_false (by omega)
        have t6 : decide ((s[k].toNat : Int) < 97) = true := decide_eq_true (by omega)
        have t7 : decide (122 < (s[k].toNat : Int)) = false := decide_eq_false (by omega)
        obtain rfl : g = false := by
          rw [← Hg.out]
          refine bad_any hlt ?_ ?_
          · cases hl : letB s[k]
            · rfl
            · have := let_val hl; omega
          · simp only [digB, t1, t2]; rfl
        clear hc
        go_wp2_with fail
        go_ret
        exact ⟨rfl, rfl⟩
      · have t1 : decide (48 ≤ (s[k].toNat : Int)) = true := decide_eq_true (by omega)
        have t2 : decide ((s[k].toNat : Int) ≤ 57) = false := decide_eq_false (by omega)
        have t3 : ((s[k].toNat : Int) != 95) = true := by rw [bne_iff_ne]; omega
        have t4 : decide ((s[k].toNat : Int) < 65) = true := decide_eq_true (by omega)
        have t5 : decide (90 < (s[k].toNat : Int)) = false := decide_eq_false (by omega)
        have t6 : decide ((s[k].toNat : Int) < 97) = true := decide_eq_true (by omega)
        have t7 : decide (122 < (s[k].toNat : Int)) = false := decide_eq_false (by omega)
        obtain rfl : g = false := by
          rw [← Hg.out]
          refine bad_any hlt ?_ ?_
          · cases hl : letB s[k]
            · rfl
            · have := let_val hl; omega
          · simp only [digB, t1, t2]; rfl
        clear hc
        go_wp2_with fail
        go_ret
        exact ⟨rfl, rfl⟩
      · have t1 : decide (48 ≤ (s[k].toNat : Int)) = true := decide_eq_true (by omega)
        have t2 : decide ((s[k].toNat : Int) ≤ 57) = false := decide_eq_false (by omega)
        have t3 : ((s[k].toNat : Int) != 95) = true := by rw [bne_iff_ne]; omega
        have t4 : decide ((s[k].toNat : Int) < 65) = false := decide_eq_false (by omega)
        have t5 : decide (90 < (s[k].toNat : Int)) = true := decide_eq_true (by omega)
        have t6 : decide ((s[k].toNat : Int) < 97) = true := decide_eq_true (by omega)
        have t7 : decide (122 < (s[k].toNat : Int)) = false := decide_eq_false (by omega)
        obtain rfl : g = false := by
          rw [← Hg.out]
          refine bad_any hlt ?_ ?_
          · cases hl : letB s[k]
            · rfl
            · have := let_val hl; omega
          · simp only [digB, t1, t2]; rfl
        clear hc
        go_wp2_with fail
        go_ret
        exact ⟨rfl, rfl⟩
      · have t1 : decide (48 ≤ (s[k].toNat : Int)) = true := decide_eq_true (by omega)
        have t2 : decide ((s[k].toNat : Int) ≤ 57) = false := decide_eq_false (by omega)
        have t3 : ((s[k].toNat : Int) != 95) = true := by rw [bne_iff_ne]; omega
        have t4 : decide ((s[k].toNat : Int) < 65) = false := decide_eq_false (by omega)
        have t5 : decide (90 < (s[k].toNat : Int)) = true := decide_eq_true (by omega)
        have t6 : decide ((s[k].toNat : Int) < 97) = true := decide_eq_true (by omega)
        have t7 : decide (122 < (s[k].toNat : Int)) = false := decide_eq_false (by omega)
        obtain rfl : g = false := by
          rw [← Hg.out]
          refine bad_any hlt ?_ ?_
          · cases hl : letB s[k]
            · rfl
            · have := let_val hl; omega
          · simp only [digB, t1, t2]; rfl
        clear hc
        go_wp2_with fail
        go_ret
        exact ⟨rfl, rfl⟩
      · have t1 : decide (48 ≤ (s[k].toNat : Int)) = true := decide_eq_true (by omega)
        have t2 : decide ((s[k].toNat : Int) ≤ 57) = false := decide_eq_false (by omega)
        have t3 : ((s[k].toNat : Int) != 95) = true := by rw [bne_iff_ne]; omega
        have t4 : decide ((s[k].toNat : Int) < 65) = false := decide_eq_false (by omega)
        have t5 : decide (90 < (s[k].toNat : Int)) = true := decide_eq_true (by omega)
        have t6 : decide ((s[k].toNat : Int) < 97) = false := decide_eq_false (by omega)
        have t7 : decide (122 < (s[k].toNat : Int)) = true := decide_eq_true (by omega)
        obtain rfl : g = false := by
          rw [← Hg.out]
          refine bad_any hlt ?_ ?_
          · cases hl : letB s[k]
            · rfl
            · have := let_val hl; omega
          · simp only [digB, t1, t2]; rfl
        clear hc
        go_wp2_with fail
        go_ret
        exact ⟨rfl, rfl⟩
    · obtain rfl : k = s.size := by omega
      have e1 : (s.toList == [110, 117, 108, 108]) = (s.data.toList == nullL) := by rw [ByteArray.toList_eq]; rfl
      by_cases h0 : s.size = 0
      · obtain rfl : g = false := by
          rw [← Hg.out]
          have hs : s.data.toList = [] := by
            have : s = ByteArray.empty := by simpa using h0
            rw [this]; rfl
          rw [hs]; exact nameV_nil
        have t1 : decide (1 ≤ (s.size : Int)) = false := decide_eq_false (by omega)
        clear hk hlt h0 e1
        go_wp2_with fail
        go_ret
        exact ⟨rfl, rfl⟩
      · have t1 : decide (1 ≤ (s.size : Int)) = true := decide_eq_true (by omega)
        by_cases h16 : s.size ≤ 16
        · have t2 : decide ((s.size : Int) ≤ 16) = true := decide_eq_true (by omega)
          have hend := HS.out.end (by omega) h16
          rw [Hg.out] at hend
          subst hend
          clear hk hlt h0 h16 e1 Hg
          rcases Bool.eq_false_or_eq_true (s.toList == [110, 117, 108, 108]) with q1 | q1 <;> rcases Bool.eq_false_or_eq_true (s.toList == [105, 110, 116]) with q2 | q2 <;>
            rcases Bool.eq_false_or_eq_true (s.toList == [102, 108, 111, 97, 116]) with q3 | q3
          all_goals
            go_wp2_with fail
            go_ret
            exact ⟨by unfold nullL intL floatL; rw [← ByteArray.toList_eq]; simp only [bne, q1, q2, q3, Bool.not_true, Bool.not_false, Bool.true_and, Bool.false_and] <;> rfl, rfl⟩
        · obtain rfl : g = false := by
            rw [← Hg.out]
            exact nameV_long (by rw [Array.length_toList]; show 16 < s.size; omega)
          have t2 : decide ((s.size : Int) ≤ 16) = false := decide_eq_false (by omega)
          clear hk hlt h0 h16 e1
          go_wp2_with fail
          go_ret
          exact ⟨rfl, rfl⟩
end Go.Proofs.YtdgmdpphimenjaaDoor.R03

/-
  The document's own Right and Put of layer 3, walked.
-/
namespace Go.Proofs.YtdgmdpphimenjaaDoor.R03
open Go.RowKit NumM FloM WordM Mem

set_option maxHeartbeats 1000000 in
theorem right_1 (s : ByteArray) (n : Int) (hm : s.size ≤ 9223372036854775807) (w : World) :
    Calls Tryd.prog 41 #[.agg #[.int .i64 1, .string s, .int .i64 n]] w fun e w' => e = .returned (.bool ((n == 0) && nameV s.data.toList)) ∧ Below w.heap.size w w' := by
  obtain ⟨g, hg⟩ : ∃ g, nameV s.data.toList = g := ⟨_, rfl⟩
  have hq := fun w => name_any s w hm
  rw [hg] at hq ⊢
  have Hq := Lib.hid hq
  clear hq hg hm
  cases g
  all_goals
    go_enter Tryd.func41, Tryd.ntmps41
    go_wp2_with (go_at_call 71; (with_reducible refine (Hq.out _).mono ?_); rintro e w1 ⟨rfl, rfl⟩)
    go_ret
    exact ⟨by simp only [Bool.and_true, Bool.and_false] <;> rfl, one_more _ _⟩

set_option maxHeartbeats 1000000 in
theorem right_2 (s : ByteArray) (n : Int) (w : World) :
    Calls Tryd.prog 41 #[.agg #[.int .i64 2, .string s, .int .i64 n]] w fun e w' => e = .returned (.bool s.toList.isEmpty) ∧ Below w.heap.size w w' := by
  rcases Bool.eq_false_or_eq_true s.toList.isEmpty with h | h
  · have h' : (s.toList != []) = false := by rw [bne_eq_false_iff_eq]; simpa using h
    go_enter Tryd.func41, Tryd.ntmps41
    go_wp2_with fail
    go_quiet (fail)
    go_wp2_with fail
    go_ret
    exact ⟨by rw [h] <;> rfl, below_drewN (one_more _ _) _⟩
  · have h' : (s.toList != []) = true := by rw [bne_iff_ne]; intro e; rw [e] at h; simp at h
    go_enter Tryd.func41, Tryd.ntmps41
    go_wp2_with fail
    go_ret
    exact ⟨by rw [h] <;> rfl, one_more _ _⟩

set_option maxHeartbeats 2000000 in
theorem right_3 (s : ByteArray) (n : Int) (w : World) :
    Calls Tryd.prog 41 #[.agg #[.int .i64 3, .string s, .int .i64 n]] w fun e w' => e = .returned (.bool (s.toList.isEmpty && (plainV n == n))) ∧ Below w.heap.size w w' := by
  rcases Bool.eq_false_or_eq_true s.toList.isEmpty with h | h
  · have h' : (s.toList != []) = false := by rw [bne_eq_false_iff_eq]; simpa using h
    rcases Bool.eq_false_or_eq_true (plainV n == n) with h2 | h2
    all_goals
      go_enter Tryd.func41, Tryd.ntmps41
      go_wp2_with fail
      go_quiet ((go_at_call 72; exact Calls.quiet_of_same ((R02.plain_any n _).mono fun _ _ h => ⟨h.1, h.2.symm⟩)))
      go_wp2_with fail
      go_ret
      exact ⟨by simp only [h, h2, Bool.true_and] <;> rfl, below_drewN (one_more _ _) _⟩
  · have h' : (s.toList != []) = true := by rw [bne_iff_ne]; intro e; rw [e] at h; simp at h
    go_enter Tryd.func41, Tryd.ntmps41
    go_wp2_with fail
    go_ret
    exact ⟨by simp only [h, Bool.false_and] <;> rfl, one_more _ _⟩

set_option maxHeartbeats 2000000 in
theorem right_4 (s : ByteArray) (n : Int) (w : World) :
    Calls Tryd.prog 41 #[.agg #[.int .i64 4, .string s, .int .i64 n]] w fun e w' => e = .returned (.bool (s.toList.isEmpty && (n == 0))) ∧ Below w.heap.size w w' := by
  rcases Bool.eq_false_or_eq_true s.toList.isEmpty with h | h
  · have h' : (s.toList != []) = false := by rw [bne_eq_false_iff_eq]; simpa using h
    rcases Bool.eq_false_or_eq_true (n == 0) with h2 | h2
    all_goals
      go_enter Tryd.func41, Tryd.ntmps41
      go_wp2_with fail
      go_quiet (fail)
      go_wp2_with fail
      go_ret
      exact ⟨by simp only [h, h2, Bool.true_and] <;> rfl, below_drewN (one_more _ _) _⟩
  · have h' : (s.toList != []) = true := by rw [bne_iff_ne]; intro e; rw [e] at h; simp at h
    go_enter Tryd.func41, Tryd.ntmps41
    go_wp2_with fail
    go_ret
    exact ⟨by simp only [h, Bool.false_and] <;> rfl, one_more _ _⟩

set_option maxHeartbeats 2000000 in
theorem right_5 (s : ByteArray) (n : Int) (w : World) :
    Calls Tryd.prog 41 #[.agg #[.int .i64 5, .string s, .int .i64 n]] w fun e w' => e = .returned (.bool (s.toList.isEmpty && decide (0 ≤ n) && decide (n ≤ 999))) ∧ Below w.heap.size w w' := by
  rcases Bool.eq_false_or_eq_true s.toList.isEmpty with h | h
  · have h' : (s.toList != []) = false := by rw [bne_eq_false_iff_eq]; simpa using h
    rcases Bool.eq_false_or_eq_true (decide (0 ≤ n)) with h2 | h2 <;> rcases Bool.eq_false_or_eq_true (decide (n ≤ 999)) with h3 | h3
    all_goals
      go_enter Tryd.func41, Tryd.ntmps41
      go_wp2_with fail
      go_quiet (fail)
      go_wp2_with fail
      go_ret
      exact ⟨by simp only [h, h2, h3, Bool.true_and, Bool.false_and] <;> rfl, below_drewN (one_more _ _) _⟩
  · have h' : (s.toList != []) = true := by rw [bne_iff_ne]; intro e; rw [e] at h; simp at h
    go_enter Tryd.func41, Tryd.ntmps41
    go_wp2_with fail
    go_ret
    exact ⟨by simp only [h, Bool.false_and] <;> rfl, one_more _ _⟩

set_option maxHeartbeats 1000000 in
theorem right_0 (k : Int) (s : ByteArray) (n : Int) (w : World) (hk : k < 1 ∨ 5 < k) :
    Calls Tryd.prog 41 #[.agg #[.int .i64 k, .string s, .int .i64 n]] w fun e w' => e = .returned (.bool false) ∧ Below w.heap.size w w' := by
  have h1 : (k == 1) = false := by rw [beq_eq_false_iff_ne]; omega
  by_cases h : k < 1
  · have h2 : decide (k < 1) = true := decide_eq_true h
    clear hk
    go_enter Tryd.func41, Tryd.ntmps41
    go_wp2_with fail
    go_ret
    exact ⟨rfl, one_more _ _⟩
  · have h2 : decide (k < 1) = false := decide_eq_false h
    have h3 : decide (5 < k) = true := decide_eq_true (by omega)
    clear hk
    go_enter Tryd.func41, Tryd.ntmps41
    go_wp2_with fail
    go_ret
    exact ⟨rfl, one_more _ _⟩

theorem right_any (a : A) (hm : a.2.1.size ≤ 9223372036854775807) (w : World) :
    Calls Tryd.prog 41 #[val a] w fun e w' => e = .returned (.bool (rightV a)) ∧ Below w.heap.size w w' := by
  obtain ⟨k, s, n⟩ := a
  unfold val rightV
  simp only
  rw [show (s.data.toList == []) = s.toList.isEmpty by rw [ByteArray.toList_eq]; cases s.data.toList <;> rfl]
  split
  · rename_i h; subst h; exact right_1 s n hm w
  · split
    · rename_i h; subst h; exact right_2 s n w
    · split
      · rename_i h; subst h; exact right_3 s n w
      · split
        · rename_i h; subst h; exact right_4 s n w
        · split
          · rename_i h; subst h; exact right_5 s n w
          · rename_i h1 h2 h3 h4 h5
            exact right_0 k s n w (by omega)

theorem right_at (k : Int) (s : ByteArray) (n : Int) (b : Bool) (hm : s.size ≤ 9223372036854775807) (h : rightV (k, s, n) = b) (w : World) :
    Calls Tryd.prog 41 #[.agg #[.int .i64 k, .string s, .int .i64 n]] w fun e w' => e = .returned (.bool b) ∧ Below w.heap.size w w' := by
  rw [← h]; exact right_any (k, s, n) hm w

set_option maxHeartbeats 1000000 in
theorem put_no (k : Int) (s : ByteArray) (n : Int) (w : World) (hm : s.size ≤ 9223372036854775807) (h : rightV (k, s, n) = false) :
    Calls Tryd.prog 19 #[.agg #[.int .i64 k, .string s, .int .i64 n]] w fun e w' => e = .returned (.string ⟨#[]⟩) ∧ Below w.heap.size w w' := by
  have Hr := Lib.hid (right_at k s n false hm h)
  clear h hm
  go_enter Tryd.func19, Tryd.ntmps19
  go_wp2_with (go_at_call 41; refine (Hr.out _).mono ?_; rintro e w1 ⟨rfl, hb⟩)
  go_ret
  exact ⟨rfl, grow3 (one_more _ _) hb⟩
set_option maxHeartbeats 1000000 in
theorem put_1 (s : ByteArray) (w : World) (hm : s.size ≤ 9223372036854775807) (h : nameV s.data.toList = true) :
    Calls Tryd.prog 19 #[.agg #[.int .i64 1, .string s, .int .i64 0]] w fun e w' => e = .returned (.string s) ∧ Below w.heap.size w w' := by
  have Hr := Lib.hid (right_at 1 s 0 true hm (right1 h))
  clear h hm
  go_enter Tryd.func19, Tryd.ntmps19
  go_wp2_with (go_at_call 41; refine (Hr.out _).mono ?_; rintro e w1 ⟨rfl, hb⟩; obtain ⟨hc0, hc1, hc2⟩ := box3 hb)
  go_ret
  exact ⟨rfl, grow3 (one_more _ _) hb⟩
set_option maxHeartbeats 1000000 in
theorem put_2 (n : Int) (hn : In n) (w : World) :
    Calls Tryd.prog 19 #[.agg #[.int .i64 2, .string ⟨#[]⟩, .int .i64 n]] w fun e w' => e = .returned (.string ⟨(dec n).toArray⟩) ∧ Below w.heap.size w w' := by
  have Hr := Lib.hid (right_at 2 ⟨#[]⟩ n true (by decide) (right2 n))
  have Hn := Lib.hid hn
  clear hn
  go_enter Tryd.func19, Tryd.ntmps19
  go_wp2_with (first | (go_at_call 41; refine (Hr.out _).mono ?_; rintro e w1 ⟨rfl, hb⟩; obtain ⟨hc0, hc1, hc2⟩ := box3 hb) | (go_at_call 18; refine (R01.put_any n _ Hn.out).mono ?_; rintro e w2 ⟨rfl, hb2⟩))
  go_ret
  exact ⟨rfl, grow3 (grow3 (one_more _ _) hb) hb2⟩
set_option maxHeartbeats 1000000 in
theorem put_3 (n : Int) (hn : plainV n = n) (w : World) :
    Calls Tryd.prog 19 #[.agg #[.int .i64 3, .string ⟨#[]⟩, .int .i64 n]] w fun e w' => e = .returned (.string ⟨(putV n).toArray⟩) ∧ Below w.heap.size w w' := by
  have Hr := Lib.hid (right_at 3 ⟨#[]⟩ n true (by decide) (right3 hn))
  clear hn
  go_enter Tryd.func19, Tryd.ntmps19
  go_wp2_with (first | (go_at_call 41; refine (Hr.out _).mono ?_; rintro e w1 ⟨rfl, hb⟩; obtain ⟨hc0, hc1, hc2⟩ := box3 hb) | (go_at_call 42; refine (R02.put_any n _).mono ?_; rintro e w2 ⟨rfl, hb2⟩))
  go_ret
  exact ⟨rfl, grow3 (grow3 (one_more _ _) hb) hb2⟩
set_option maxHeartbeats 1000000 in
theorem put_4 (w : World) :
    Calls Tryd.prog 19 #[.agg #[.int .i64 4, .string ⟨#[]⟩, .int .i64 0]] w fun e w' => e = .returned (.string ⟨nullL.toArray⟩) ∧ Below w.heap.size w w' := by
  have Hr := Lib.hid (right_at 4 ⟨#[]⟩ 0 true (by decide) right4)
  go_enter Tryd.func19, Tryd.ntmps19
  go_wp2_with (go_at_call 41; refine (Hr.out _).mono ?_; rintro e w1 ⟨rfl, hb⟩; obtain ⟨hc0, hc1, hc2⟩ := box3 hb)
  go_ret
  exact ⟨rfl, grow3 (one_more _ _) hb⟩
set_option maxHeartbeats 1000000 in
theorem put_5 (n : Int) (hi : In n) (hn : 0 ≤ n ∧ n ≤ 999) (w : World) :
    Calls Tryd.prog 19 #[.agg #[.int .i64 5, .string ⟨#[]⟩, .int .i64 n]] w fun e w' => e = .returned (.string ⟨(35 :: dec n).toArray⟩) ∧ Below w.heap.size w w' := by
  have Hr := Lib.hid (right_at 5 ⟨#[]⟩ n true (by decide) (right5 hn))
  have Hi := Lib.hid hi
  have hfin : (⟨#[35]⟩ : ByteArray) ++ ⟨(dec n).toArray⟩ = ⟨(35 :: dec n).toArray⟩ := by
    apply ByteArray.ext; rw [ByteArray.data_append]; simp
  have Hfin := Lib.hid hfin
  have hlen : ¬ 9223372036854775807 < 1 + (dec n).length := by have := (read_dec n hi).2.2; omega
  clear hn hi hfin
  go_enter Tryd.func19, Tryd.ntmps19
  go_wp2_with (first | (go_at_call 41; refine (Hr.out _).mono ?_; rintro e w1 ⟨rfl, hb⟩; obtain ⟨hc0, hc1, hc2⟩ := box3 hb) | (go_at_call 18; refine (R01.put_any n _ Hi.out).mono ?_; rintro e w2 ⟨rfl, hb2⟩))
  go_ret
  exact ⟨congrArg (fun b => Ending.returned (Value.string b)) Hfin.out, grow3 (grow3 (one_more _ _) hb) hb2⟩

theorem put_any (a : A) (ha : In a.2.2) (hm : a.2.1.size ≤ 9223372036854775807) (w : World) :
    Calls Tryd.prog 19 #[val a] w fun e w' => e = .returned (.string ⟨(wput a).toArray⟩) ∧ Below w.heap.size w w' := by
  by_cases h : rightV a = true
  · rcases right_cases h with ⟨s, rfl, hn⟩ | ⟨n, rfl⟩ | ⟨n, rfl, hpl⟩ | rfl | ⟨n, rfl, hn⟩
    · rw [wput1 hn, bytes_of]; exact put_1 s w hm hn
    · rw [wput2]; exact put_2 n ha w
    · rw [wput3 hpl]; exact put_3 n hpl w
    · rw [wput4]; exact put_4 w
    · rw [wput5 hn]; exact put_5 n ha hn w
  · have h' : rightV a = false := by simpa using h
    have hp : wput a = [] := by unfold wput; rw [if_neg h]
    rw [hp]
    exact put_no a.1 a.2.1 a.2.2 w hm h'
theorem put_at (k : Int) (s : ByteArray) (n : Int) (l : List UInt8) (hn : In n) (hm : s.size ≤ 9223372036854775807) (h : wput (k, s, n) = l) (w : World) :
    Calls Tryd.prog 19 #[.agg #[.int .i64 k, .string s, .int .i64 n]] w fun e w' => e = .returned (.string ⟨l.toArray⟩) ∧ Below w.heap.size w w' := by
  rw [← h]; exact put_any (k, s, n) hn hm w
end Go.Proofs.YtdgmdpphimenjaaDoor.R03
