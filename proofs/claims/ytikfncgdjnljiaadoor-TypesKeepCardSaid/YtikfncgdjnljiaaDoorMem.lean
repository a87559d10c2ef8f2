/-
  A block of the call's own, known whole: what its cells are behind draws, new blocks and stores. No program is named here.
-/
import Derived.WalkKit
import Derived.WalkSpells
import Derived.WalkLawsBesides
import Derived.Laws.Rows
import Derived.Laws.AppendOwn
import Derived.Laws.AppendOwnNone
import Derived.Laws.IdiomStrings
import Derived.Below
namespace Go.Proofs.YtikfncgdjnljiaaDoor.Mem
open Go.RowKit

/-- Block g is just the cells cs, none of them frozen. -/
def Own (w : World) (g : Nat) (t : TypeId) (cs : List Value) : Prop := w.heap[g]? = some (.cells cs.toArray t (0, 0))

variable {w : World} {g : Nat} {t : TypeId} {cs : List Value}

theorem Own.lt (h : Own w g t cs) : g < w.heap.size := by
  unfold Own at h
  by_cases hg : g < w.heap.size
  · exact hg
  · rw [Array.getElem?_eq_none (by omega)] at h; cases h

theorem Own.cell (h : Own w g t cs) (i : Nat) : w.cell? ⟨g, i, none⟩ = cs[i]? := by
  have := cell_of_row w g i cs.toArray t (0, 0) h
  simpa using this

theorem Own.thaw (h : Own w g t cs) (i : Nat) : w.frozen? ⟨g, i, none⟩ = false := by
  unfold Own at h
  simp [World.frozen?, h]

theorem Own.made (w : World) (t : TypeId) (cs : List Value) : Own (w.alloc (.cells cs.toArray t)) w.heap.size t cs := heap_alloc_new w _

theorem Own.drew (h : Own w g t cs) : Own w.drew g t cs := h

theorem Own.alloc (h : Own w g t cs) (o : Obj) : Own (w.alloc o) g t cs := (Below.heap_alloc w o g h.lt).trans h

theorem Own.store (h : Own w g t cs) (i : Nat) (u : Value) : Own (w.setCell ⟨g, i, none⟩ u) g t (cs.set i u) := by
  unfold Own at h ⊢
  simp [World.setCell, Array.getElem?_modify, h]

theorem Own.below {w' : World} {B : Nat} (h : Own w g t cs) (hb : Below B w w') (hg : g < B) : Own w' g t cs := (hb.block g hg).trans h

/-- An own row among others is a row of just what it reads. -/
theorem Own.row {base cap n : Nat} {ys : List Value} (h : Own w g t cs) (hb : base ≤ g) (hn : n ≤ cap) (hm : cap ≤ maxLen) (hs : cs.length = cap) (ht : cs.take n = ys) : w.ownsRow base t 1 (.slice (some ⟨g, 0, none⟩) n cap) n ys := by
  refine ⟨by rw [← ht]; simp; omega, .inr ⟨g, cap, cs.toArray, rfl, hb, h, hn, hm, by simpa using hs, by simpa using ht⟩⟩

/-- 'append(a, b...)' where both rows are the call's own, or nil: new cells, and what lies below the call's first block is as it was. -/
theorem wpList_app {P : Program} {w : World} {ops : Array Oper} {rest : List Oper} {o : Oper} {a : Act} {Q : Exit → Act → World → Prop} (hgd : o.guard = none) (s x : Operand) (t : TypeId)
    (ho : o.op = .call { callee := .builtin .append, args := #[s, x], argTypes := #[t, t] })
    (base : Nat) (e : TypeId) (i : TypeInfo) (z : Value) (size bytes : Nat) (ht : P.underlying t = some (.slice e)) (hi : P.info? e = some i) (hz : i.zero = some z)
    (hsize : i.size = size) (hby : i.bytes = bytes) (hzs : z.cells.size = size) (hsz : 0 < size)
    (v : Value) (n : Nat) (xs : List Value) (hs : a.eval s = v) (hown : w.ownsRow base e size v n xs)
    (xv : Value) (m : Nat) (news : List Value) (hx : a.eval x = xv) (hxo : w.ownsRow base e size xv m news) (h1 : ∀ u ∈ news, u.oneCell' = true)
    (h63 : n + m ≤ maxLen) (hbytes : (n + m) * bytes ≤ 140737488355328) (hbase : base ≤ w.heap.size)
    (h : ∀ v' w', w'.ownsRow base e size v' (n + m) (xs ++ news) → Below base w w' → wpList P ops Q rest (a.put o.dst v') w') :
    wpList P ops Q (o :: rest) a w := by
  rcases hxo.2 with ⟨hxn, hm⟩ | ⟨g, cap, cur, hxs, hbg, hg, hnc, hcm, hcs, htake⟩
  · subst hm
    have hn : news = [] := List.eq_nil_of_length_eq_zero (by simpa using hxo.1)
    subst hn
    refine wpList_append_own_none hgd s x t ho base e i size ht hi v n xs hs hown (by rw [hx, hxn]) ?_
    exact h v w (by simpa using hown) (Below.refl _ _)
  · refine wpList_append_own (w := w) hgd s x t ho base e i z size bytes ht hi hz hsize hby hzs hsz v n xs hs hown ⟨g, 0, none⟩ m cap news (by rw [hx, hxs]) hxo.1 (hxo.cells (g := g) (by rw [hxs]; rfl)) h1 h63 hbytes hbase ?_
    intro v' w' h2 h3 _
    exact h v' w' h2 ((Below.refl base w).grown h3 hbase (fun k hk => (hown.lt k hk).1))

/-- 'string(b)' of bytes that the call owns. -/
theorem own_string {P : Program} (w : World) (src dst e : TypeId) (hs : P.underlying src = some (.slice e)) (he : P.underlying e = some (.int .u8)) (hd : P.underlying dst = some .string)
    {base n : Nat} {v : Value} (l : List UInt8) (hl : l ≠ []) (ho : w.ownsRow base e 1 v n (l.map fun b => .int .u8 (b.toNat : Int))) :
    (convert src dst v).run P w = .ok (.string ⟨l.toArray⟩) w := by
  have hlen := ho.1
  rcases ho.2 with ⟨_, hn⟩ | ⟨g, cap, cur, rfl, hbg, hg, hnc, hcm, hcs, htake⟩
  · subst hn
    simp at hlen
    exact absurd hlen hl
  · simp only [List.length_map, Nat.mul_one] at hlen
    subst hlen
    refine run_convert_bytes_back (P := P) w src dst e ⟨g, 0, none⟩ cap l hs he hd fun j hj => ho.cells (g := g) rfl j _ ?_
    simp [List.getElem?_eq_getElem hj]

end Go.Proofs.YtikfncgdjnljiaaDoor.Mem
