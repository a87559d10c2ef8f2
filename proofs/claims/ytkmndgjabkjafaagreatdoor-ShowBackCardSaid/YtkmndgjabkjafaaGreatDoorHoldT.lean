/-
  Rows that a call owns, held apart: one is appended to, or written into, and all others stand. No program is named here.
  A program that is being built in memory: all rows that hold it are owned, and held apart; what is said of it speaks of the rows alone, not of a world. No function of a program is named here.
  What a program that is being built in memory is behind each step: a row grows, the value of the grown row is stored where the last thing ahead of it names it. No function of a program is named here.
-/
import Derived.Test.YtkmndgjabkjafaaGreatDoorMem
import Derived.Test.YtkmndgjabkjafaaGreatDoorPlainS
namespace Go.Proofs.YtkmndgjabkjafaaGreatDoor.Hold
open Go.RowKit Mem

/-- A row: its elements' type and cells, its value, how many elements, the cells. -/
structure Rec where
  t : TypeId
  size : Nat
  v : Value
  n : Nat
  cs : List Value

def Rec.on (w : World) (base : Nat) (r : Rec) : Prop := w.ownsRow base r.t r.size r.v r.n r.cs
/-- All of them are owned, from block base on, and no two lie in one block. -/
def Apart (w : World) (base : Nat) (R : List Rec) : Prop := (∀ r ∈ R, r.on w base) ∧ (R.filterMap fun r => r.v.ownBlock).Nodup
def Rec.empty (t : TypeId) (size : Nat) : Rec := ⟨t, size, .slice none 0 0, 0, []⟩

variable {w w' : World} {base : Nat} {r : Rec} {R R' : List Rec}
theorem grown_all (hb : Below w.heap.size w w') (row : Option Nat) : w.grownBy w' row := ⟨hb.os, hb.tape, hb.output, hb.size, fun k hk _ => hb.block k hk⟩
theorem Rec.on.below (h : r.on w base) (hb : Below w.heap.size w w') : r.on w' base := World.ownsRow.kept h (grown_all hb none) (by cases hv : r.v.ownBlock <;> simp)
theorem Rec.on.lt (h : r.on w base) {k : Nat} (hk : r.v.ownBlock = some k) : base ≤ k ∧ k < w.heap.size := World.ownsRow.lt h k hk
theorem Rec.on.lower {b : Nat} (h : r.on w base) (hb : b ≤ base) : r.on w b := by
  refine ⟨h.1, ?_⟩
  rcases h.2 with h | ⟨g, cap, cur, e, h1, k⟩
  · exact .inl h
  · exact .inr ⟨g, cap, cur, e, Nat.le_trans hb h1, k⟩
theorem Rec.on.form (h : r.on w base) : ∃ A cap, r.v = .slice A r.n cap := by
  rcases h.2 with ⟨e, h0⟩ | ⟨g, cap, cur, e, _⟩
  · exact ⟨none, 0, by rw [e, h0]⟩
  · exact ⟨_, _, e⟩

theorem Apart.nil (w : World) (base : Nat) : Apart w base [] := ⟨fun _ h => (by cases h), List.nodup_nil⟩
theorem Apart.perm (h : Apart w base R) (hp : R.Perm R') : Apart w base R' := ⟨fun x hx => h.1 x (hp.mem_iff.2 hx), (hp.filterMap _).nodup_iff.1 h.2⟩
theorem Apart.sub (h : Apart w base R) (hs : R'.Sublist R) : Apart w base R' := ⟨fun x hx => h.1 x (hs.mem hx), h.2.sublist (hs.filterMap _)⟩
theorem Apart.below (h : Apart w base R) (hb : Below w.heap.size w w') : Apart w' base R := ⟨fun x hx => (h.1 x hx).below hb, h.2⟩
theorem Apart.lower {b : Nat} (h : Apart w base R) (hb : b ≤ base) : Apart w b R := ⟨fun x hx => (h.1 x hx).lower hb, h.2⟩
theorem Apart.empty (h : Apart w base R) (t : TypeId) (size : Nat) : Apart w base (Rec.empty t size :: R) := by
  refine ⟨fun x hx => ?_, ?_⟩
  · rcases List.mem_cons.1 hx with rfl | hx
    · exact World.ownsRow_nil _ _ _ _
    · exact h.1 x hx
  · rw [List.filterMap_cons_none rfl]; exact h.2
theorem Apart.tail (h : Apart w base (r :: R)) : Apart w base R := h.sub (List.sublist_cons_self r R)
theorem Apart.head (h : Apart w base (r :: R)) : r.on w base := h.1 r (by simp)
/-- another row's block is not this one's. -/
theorem Apart.other (h : Apart w base (r :: R)) {x : Rec} (hx : x ∈ R) : x.v.ownBlock = none ∨ x.v.ownBlock ≠ r.v.ownBlock := by
  cases hv : x.v.ownBlock with
  | none => left; rfl
  | some k =>
    right
    intro e
    have hn := h.2
    rw [List.filterMap_cons_some (f := fun r : Rec => r.v.ownBlock) (a := r) e.symm, List.nodup_cons] at hn
    exact hn.1 (List.mem_filterMap.2 ⟨x, hx, hv⟩)
/-- The first row has grown: in its block, or in a new one. -/
theorem Apart.grow {v' : Value} {n' : Nat} {cs' : List Value} (h : Apart w base (r :: R)) (hg : w.grownBy w' r.v.ownBlock) (hv : w'.ownsRow base r.t r.size v' n' cs') (hf : v'.ownBlock = r.v.ownBlock ∨ ∀ k, v'.ownBlock = some k → w.heap.size ≤ k) :
    Apart w' base (⟨r.t, r.size, v', n', cs'⟩ :: R) := by
  refine ⟨fun x hx => ?_, ?_⟩
  · rcases List.mem_cons.1 hx with rfl | hx
    · exact hv
    · exact World.ownsRow.kept (h.1 x (by simp [hx])) hg (h.other hx)
  · cases hk : v'.ownBlock with
    | none => rw [List.filterMap_cons_none (f := fun r : Rec => r.v.ownBlock) (a := ⟨r.t, r.size, v', n', cs'⟩) hk]; exact h.tail.2
    | some k =>
      rw [List.filterMap_cons_some (f := fun r : Rec => r.v.ownBlock) (a := ⟨r.t, r.size, v', n', cs'⟩) hk, List.nodup_cons]
      refine ⟨fun hm => ?_, h.tail.2⟩
      obtain ⟨x, hx, hxk⟩ := List.mem_filterMap.1 hm
      rcases hf with hf | hf
      · rcases h.other hx with h1 | h1
        · rw [hxk] at h1; cases h1
        · exact h1 (by rw [hxk, ← hf, hk])
      · have h1 := hf k hk
        have h2 := ((h.1 x (by simp [hx])).lt hxk).2
        omega
/-- rows that a call has made, in front. -/
theorem Apart.join {R2 : List Rec} (h : Apart w base R) (hb : Below w.heap.size w w') (h2 : Apart w' w.heap.size R2) (hw : base ≤ w.heap.size) : Apart w' base (R2 ++ R) := by
  refine ⟨fun x hx => ?_, ?_⟩
  · rcases List.mem_append.1 hx with hx | hx
    · exact (h2.1 x hx).lower hw
    · exact (h.1 x hx).below hb
  · rw [List.filterMap_append, List.nodup_append]
    refine ⟨h2.2, h.2, fun a ha b hb' e => ?_⟩
    subst e
    obtain ⟨x, hx, hxk⟩ := List.mem_filterMap.1 ha
    obtain ⟨y, hy, hyk⟩ := List.mem_filterMap.1 hb'
    have h3 := ((h2.1 x hx).lt hxk).1
    have h4 := ((h.1 y hy).lt hyk).2
    omega

/-! ### cells -/
theorem Rec.on.at (h : r.on w base) (hn : 0 < r.n) : ∃ g cap cur, r.v = .slice (some ⟨g, 0, none⟩) r.n cap ∧ base ≤ g ∧ w.heap[g]? = some (.cells cur r.t (0, 0)) ∧ r.n * r.size ≤ cur.size ∧ cur.toList.take (r.n * r.size) = r.cs ∧ r.n ≤ 9223372036854775807 := by
  rcases h.2 with ⟨_, h0⟩ | ⟨g, cap, cur, e, hb, hg, h1, h2, h3, h4⟩
  · omega
  · exact ⟨g, cap, cur, e, hb, hg, by rw [h3]; exact Nat.mul_le_mul_right _ h1, h4, by unfold maxLen at h2; omega⟩
theorem Rec.on.len (h : r.on w base) : r.cs.length = r.n * r.size := h.1
theorem Rec.on.cell {g cap : Nat} (h : r.on w base) (hv : r.v = .slice (some ⟨g, 0, none⟩) r.n cap) {j : Nat} {u : Value} (hu : r.cs[j]? = some u) : w.cell? ⟨g, j, none⟩ = some u := by
  have := World.ownsRow.cells h (g := g) (by rw [hv]; rfl) j u hu
  have e : (⟨g, 0, none⟩ : Addr).add j = ⟨g, j, none⟩ := by unfold Addr.add; split <;> simp_all
  rw [e] at this
  exact this
theorem Rec.on.thaw {g cap : Nat} (h : r.on w base) (hv : r.v = .slice (some ⟨g, 0, none⟩) r.n cap) (j : Nat) : w.frozen? ⟨g, j, none⟩ = false := by
  rcases h.2 with ⟨e, _⟩ | ⟨g', cap', cur, e, _, hg, _⟩
  · rw [hv] at e; cases e
  · rw [hv] at e
    cases e
    simp [World.frozen?, hg]
theorem set_take (l : List Value) (n q : Nat) (u : Value) : (l.set q u).take n = (l.take n).set q u := by
  rw [List.take_set]
/-- A store into the first row. -/
theorem Apart.store {g cap q : Nat} {u : Value} (h : Apart w base (r :: R)) (hv : r.v = .slice (some ⟨g, 0, none⟩) r.n cap) : Apart (w.setCell ⟨g, q, none⟩ u) base ({ r with cs := r.cs.set q u } :: R) := by
  have hk : r.v.ownBlock = some g := by rw [hv]; rfl
  refine ⟨fun x hx => ?_, h.2⟩
  rcases List.mem_cons.1 hx with rfl | hx
  · have hr := h.head
    rcases hr.2 with ⟨e, _⟩ | ⟨g', cap', cur, e, hb, hg, h1, h2, h3, h4⟩
    · rw [hv] at e; cases e
    · have e2 := e
      rw [hv] at e2
      cases e2
      refine ⟨?_, .inr ⟨g, cap, cur.setIfInBounds q u, e, hb, ?_, h1, h2, by simpa using h3, ?_⟩⟩
      · show (r.cs.set q u).length = _
        rw [List.length_set]; exact hr.1
      · simp [World.setCell, Array.getElem?_modify, hg]
      · show (cur.setIfInBounds q u).toList.take (r.n * r.size) = r.cs.set q u
        rw [Array.toList_setIfInBounds, set_take, h4]
  · have ho := h.other hx
    have hr := h.1 x (by simp [hx])
    rcases hr.2 with e | ⟨g', cap', cur, e, hb, hg, k⟩
    · exact ⟨hr.1, .inl e⟩
    · refine ⟨hr.1, .inr ⟨g', cap', cur, e, hb, ?_, k⟩⟩
      have hne : g' ≠ g := by
        intro e2; subst e2
        rw [e, hk] at ho
        simp [Value.ownBlock] at ho
      exact (Below.heap_setCell w ⟨g, q, none⟩ u g' hne).trans hg

/-! ### append -/
/-- 'append' to an own row leaves its block, or takes a new one. -/
theorem append_block {P : Program} (w : World) (base : Nat) (t ty e : TypeId) (i : TypeInfo) (z : Value) (ht : P.underlying t = some (.slice e)) (hi : P.info? e = some i) (hz : i.zero = some z)
    (v : Value) (n : Nat) (xs : List Value) (hown : w.ownsRow base e i.size v n xs) (a : Addr) (m c : Nat) (news : List Value) (hl : news.length = m * i.size) (hnews : ∀ j u, news[j]? = some u → w.cell? (a.add j) = some u) (h1 : ∀ u ∈ news, u.oneCell' = true)
    (hm : 0 < m) (h63 : n + m ≤ 9223372036854775807) (hbytes : (n + m) * i.bytes ≤ 140737488355328) :
    ∃ v' w', (Builtin.append_ #[t, t] ty #[v, .slice (some a) m c]).run P w = .ok v' w' ∧ (v'.ownBlock = v.ownBlock ∨ v'.ownBlock = some w.heap.size) := by
  rcases hown.2 with ⟨rfl, rfl⟩ | ⟨g, cap, cur, rfl, _, hg, hnc, _, hcs, _⟩
  · refine ⟨_, _, run_append_nil (P := P) w t ty e i z ht hi hz a m c news hl hnews hm (by omega) ?_, .inr rfl⟩
    rw [Nat.zero_add] at hbytes
    omega
  · by_cases hroom : n + m ≤ cap
    · have hfit : n * i.size + news.length ≤ cur.size := by
        rw [hl, hcs, ← Nat.add_mul]
        exact Nat.mul_le_mul_right _ hroom
      exact ⟨_, _, run_append_room (P := P) w t ty e i ht hi g n cap cur hg a m c news hl hnews h1 hroom hfit, .inl rfl⟩
    · exact ⟨_, _, run_append_grow (P := P) w t ty e i z ht hi hz ⟨g, 0, none⟩ n cap xs hown.1 (hown.cells (g := g) rfl) a m c news hl hnews (by omega) (by omega) (growslice_fits (by omega) hbytes), .inr rfl⟩

/-- 'append(s, x)' of one element laid in a new block: the first row grows, the others stand. -/
theorem wpList_grow {P : Program} {w : World} {ops : Array Oper} {rest : List Oper} {o : Oper} {a : Act} {Q : Exit → Act → World → Prop} {R : List Rec} (hgd : o.guard = none) (s x : Operand) (t : TypeId)
    (ho : o.op = .call { callee := .builtin .append, args := #[s, x], argTypes := #[t, t] })
    (base : Nat) (r : Rec) (i : TypeInfo) (z : Value) (bytes : Nat) (ht : P.underlying t = some (.slice r.t)) (hi : P.info? r.t = some i) (hz : i.zero = some z)
    (hsize : i.size = r.size) (hby : i.bytes = bytes) (hzs : z.cells.size = r.size) (hsz : 0 < r.size)
    (hs : a.eval s = r.v) (hown : Apart w base (r :: R))
    (news : List Value) (k : Nat) (hkw : k = w.heap.size) (hx : a.eval x = .slice (some ⟨k, 0, none⟩) 1 1) (hl : news.length = r.size) (h1 : ∀ u ∈ news, u.oneCell' = true)
    (h63 : r.n + 1 ≤ 9223372036854775807) (hbytes : (r.n + 1) * bytes ≤ 140737488355328) (hbase : base ≤ w.heap.size)
    (h : ∀ v' w', Apart w' base (⟨r.t, r.size, v', r.n + 1, r.cs ++ news⟩ :: R) → Below base w w' → wpList P ops Q rest (a.put o.dst v') w') :
    wpList P ops Q (o :: rest) a (w.alloc (.cells news.toArray r.t)) := by
  subst hkw
  have ho2 : (w.alloc (.cells news.toArray r.t)).ownsRow base r.t r.size r.v r.n r.cs := World.ownsRow.alloc hown.head _
  have hnews : ∀ j u, news[j]? = some u → (w.alloc (.cells news.toArray r.t)).cell? ((⟨w.heap.size, 0, none⟩ : Addr).add j) = some u := by
    intro j u hu
    have e1 : (⟨w.heap.size, 0, none⟩ : Addr).add j = ⟨w.heap.size, j, none⟩ := by unfold Addr.add; split <;> simp_all
    rw [e1, (Own.made w r.t news).cell]
    exact hu
  refine wpList_plain hgd fun K hK => ?_
  obtain ⟨v', w', hr, h2, h3, _⟩ := run_append_own (P := P) (w.alloc (.cells news.toArray r.t)) base t o.type r.t i z r.size bytes ht hi hz hsize hby hzs hsz r.v r.n r.cs ho2 ⟨w.heap.size, 0, none⟩ 1 1 news (by omega) hnews h1 (by unfold maxLen; omega) hbytes (by simp; omega)
  obtain ⟨v2, w2, hr2, h4⟩ := append_block (P := P) (w.alloc (.cells news.toArray r.t)) base t o.type r.t i z ht hi hz r.v r.n r.cs (by rw [hsize]; exact ho2) ⟨w.heap.size, 0, none⟩ 1 1 news (by omega) hnews h1 (by omega) h63 (by rw [hby]; exact hbytes)
  have hb : Below w.heap.size w (w.alloc (.cells news.toArray r.t)) := (Below.refl _ _).alloc (Nat.le_refl _) _
  have e : v2 = v' := by
    rw [hr] at hr2
    injection hr2 with e1 _
    exact e1.symm
  subst e
  have ha := (hown.below hb).grow h3 h2 (by
    rcases h4 with h4 | h4
    · exact .inl h4
    · right; intro k hk; rw [h4] at hk; injection hk with hk; subst hk; exact Nat.le_refl _)
  have hb2 : Below base w w' := (hb.mono hbase).grown h3 (by simp; omega) fun k hk => (World.ownsRow.lt ho2 k hk).1
  unfold Oper.wp execOp
  simp only [ho, resolve, invoke, builtin, Sem.run_bind, Sem.run_pure, Result.andThen_ok, List.map_toArray, List.map_cons, List.map_nil, hs, hx, hr]
  exact hK _ _ (h v2 w' ha hb2)

/-! ### read -/
/-- An own row, read as things. -/
theorem Rec.on.row {α : Type} {hi : Nat} {P : List Value → α → Prop} {xs : List α} {ys : List (List Value)} (h : r.on w base) (hh : w.heap.size ≤ hi) (hn : r.n ≤ 4611686018427387903) (hx : r.n = xs.length) (hy : ys.length = xs.length) (hc : r.cs = ys.flatten)
    (hp : ∀ (i : Nat) (c : List Value) (x : α), ys[i]? = some c → xs[i]? = some x → c.length = r.size ∧ P c x) : Api.Row base hi w r.size P r.v xs := by
  rcases h.2 with ⟨e, h0⟩ | ⟨g, cap, cur, e, hb, hg, h1, h2, h3, h4⟩
  · refine ⟨none, 0, 0, 0, 0, e, by omega, by omega, by omega, fun i x hx' => ?_⟩
    have := (List.getElem?_eq_some_iff.1 hx').1
    omega
  · refine ⟨_, r.n, cap, g, 0, e, hx, ⟨hn, h1⟩, fun _ => ⟨rfl, hb, Nat.lt_of_lt_of_le (Array.getElem?_eq_some_iff.1 hg).1 hh⟩, fun i x hx' => ?_⟩
    have hi' := (List.getElem?_eq_some_iff.1 hx').1
    have hyi : ys[i]? = some (ys[i]'(by omega)) := List.getElem?_eq_getElem (by omega)
    obtain ⟨p1, p2⟩ := hp i _ x hyi hx'
    refine ⟨_, p1, fun j u hj => ?_, p2⟩
    have hall : ∀ (zs : List (List Value)) (i : Nat) (c : List Value), (∀ (k : Nat) (c' : List Value), zs[k]? = some c' → c'.length = r.size) → zs[i]? = some c → ∀ (j : Nat) (u : Value), c[j]? = some u → zs.flatten[i * r.size + j]? = some u := by
      intro zs
      induction zs with
      | nil => intro i c _ hc; simp at hc
      | cons a zs ih =>
        intro i c hl hc j u hj
        have ha := hl 0 a rfl
        cases i with
        | zero =>
          simp at hc; subst hc
          rw [List.flatten_cons, Nat.zero_mul, Nat.zero_add, List.getElem?_append_left (List.getElem?_eq_some_iff.1 hj).1]
          exact hj
        | succ i =>
          rw [List.flatten_cons, List.getElem?_append_right (by rw [ha, Nat.succ_mul]; omega)]
          have e1 : (i + 1) * r.size + j - a.length = i * r.size + j := by rw [ha, Nat.succ_mul]; omega
          rw [e1]
          exact ih i c (fun k c' hk => hl (k + 1) c' (by simpa using hk)) (by simpa using hc) j u hj
    have hlen : ∀ (k : Nat) (c' : List Value), ys[k]? = some c' → c'.length = r.size := fun k c' hk => by
      have hk' := (List.getElem?_eq_some_iff.1 hk).1
      exact (hp k c' (xs[k]'(by omega)) hk (List.getElem?_eq_getElem (by omega))).1
    have hu := hall ys i _ hlen hyi j u hj
    rw [← hc] at hu
    have := World.ownsRow.cells h (g := g) (by rw [e]; rfl) _ _ hu
    have e1 : (⟨g, 0, none⟩ : Addr).add (i * r.size + j) = ⟨g, 0 + i * r.size + j, none⟩ := by unfold Addr.add; split <;> simp_all
    rw [e1] at this
    exact this
end Go.Proofs.YtkmndgjabkjafaaGreatDoor.Hold

namespace Go.Proofs.YtkmndgjabkjafaaGreatDoor.Tree
open Go.RowKit Api Hold Mem Syn

/-- Things, and their cells one behind the other. -/
inductive Cells {α : Type} (size : Nat) (P : List Value → α → Prop) : List Value → List α → Prop
  | nil : Cells size P [] []
  | snoc {cs : List Value} {xs : List α} {c : List Value} {x : α} : Cells size P cs xs → c.length = size → P c x → Cells size P (cs ++ c) (xs ++ [x])

variable {α : Type} {size : Nat} {t : TypeId} {P P' Q Q' : List Value → α → Prop} {cs c : List Value} {xs : List α} {x : α} {D D' : List Rec} {v : Value} {F : Rec} {w w' : World} {base hi : Nat}
theorem Cells.mono (h : Cells size P cs xs) (hp : ∀ c x, P c x → P' c x) : Cells size P' cs xs := by
  induction h with
  | nil => exact .nil
  | snoc _ h1 h2 ih => exact .snoc ih h1 (hp _ _ h2)
theorem Cells.length (h : Cells size P cs xs) : cs.length = xs.length * size := by
  induction h with
  | nil => simp
  | snoc _ h1 _ ih => rw [List.length_append, List.length_append, ih, h1, List.length_singleton, Nat.add_mul, Nat.one_mul]
theorem Cells.parts (h : Cells size P cs xs) : ∃ ys : List (List Value), ys.length = xs.length ∧ cs = ys.flatten ∧ ∀ (i : Nat) (c : List Value) (x : α), ys[i]? = some c → xs[i]? = some x → c.length = size ∧ P c x := by
  induction h with
  | nil => exact ⟨[], rfl, rfl, fun i c x h => by simp at h⟩
  | @snoc cs xs c x h h1 h2 ih =>
    obtain ⟨ys, e1, e2, e3⟩ := ih
    refine ⟨ys ++ [c], by simp [e1], by simp [e2], fun i c' x' hc hx => ?_⟩
    by_cases hi : i < ys.length
    · rw [List.getElem?_append_left hi] at hc
      rw [List.getElem?_append_left (by omega)] at hx
      exact e3 i c' x' hc hx
    · have hb := (List.getElem?_eq_some_iff.1 hc).1
      simp only [List.length_append, List.length_singleton] at hb
      obtain rfl : i = ys.length := by omega
      rw [List.getElem?_append_right (Nat.le_refl _)] at hc
      rw [e1, List.getElem?_append_right (Nat.le_refl _)] at hx
      simp at hc hx
      subst hc hx
      exact ⟨h1, h2⟩
/-- things of cells that are told by themselves. -/
theorem Cells.flat {f : α → List Value} (hf : ∀ x, (f x).length = size) (xs : List α) : Cells size (fun c x => c = f x) (xs.flatMap f) xs := by
  obtain ⟨n, hn⟩ : ∃ n, xs.length = n := ⟨_, rfl⟩
  induction n generalizing xs with
  | zero => obtain rfl := List.eq_nil_of_length_eq_zero hn; exact .nil
  | succ n ih =>
    rcases List.eq_nil_or_concat xs with rfl | ⟨m, x, rfl⟩
    · exact .nil
    · rw [List.concat_eq_append] at hn ⊢
      rw [List.flatMap_append, List.flatMap_singleton]
      exact .snoc (ih m (by simpa using hn)) (hf x) rfl

/-- What a row holds. -/
def RowIs (t : TypeId) (size : Nat) (P : List Value → α → Prop) (F : Rec) (xs : List α) : Prop := F.t = t ∧ F.size = size ∧ F.n = xs.length ∧ xs.length ≤ 1099511627776 ∧ Cells size P F.cs xs
theorem RowIs.mono (h : RowIs t size P F xs) (hp : ∀ c x, P c x → P' c x) : RowIs t size P' F xs := ⟨h.1, h.2.1, h.2.2.1, h.2.2.2.1, h.2.2.2.2.mono hp⟩
theorem RowIs.push (h : RowIs t size P F xs) (hl : xs.length < 1099511627776) (hc : c.length = size) (hp : P c x) (v : Value) : RowIs t size P ⟨F.t, F.size, v, F.n + 1, F.cs ++ c⟩ (xs ++ [x]) :=
  ⟨h.1, h.2.1, by simp [h.2.2.1], by simp; omega, .snoc h.2.2.2.2 hc hp⟩
theorem RowIs.none (t : TypeId) (size : Nat) (P : List Value → α → Prop) : RowIs t size P (Rec.empty t size) [] := ⟨rfl, rfl, rfl, by simp, .nil⟩
theorem RowIs.flat {f : α → List Value} (hf : ∀ x, (f x).length = size) (v : Value) (xs : List α) (hl : xs.length ≤ 1099511627776) : RowIs t size (fun c x => c = f x) ⟨t, size, v, xs.length, xs.flatMap f⟩ xs := ⟨rfl, rfl, rfl, hl, Cells.flat hf xs⟩
theorem RowIs.row (h : RowIs t size P F xs) (hA : F.on w base) (hh : w.heap.size ≤ hi) (hp : ∀ c x, P c x → P' c x) : Api.Row base hi w size P' F.v xs := by
  obtain ⟨rfl, rfl, h3, h4, h5⟩ := h
  obtain ⟨ys, e1, e2, e3⟩ := h5.parts
  exact hA.row hh (by omega) h3 e1 e2 fun i c x hc hx => ⟨(e3 i c x hc hx).1, hp _ _ (e3 i c x hc hx).2⟩

/-- A row among D, or nil. -/
def Node (D : List Rec) (t : TypeId) (size : Nat) (P : List Value → α → Prop) (v : Value) (xs : List α) : Prop := (v = .slice none 0 0 ∧ xs = []) ∨ ∃ F ∈ D, F.v = v ∧ RowIs t size P F xs
theorem Node.nil (D : List Rec) (t : TypeId) (size : Nat) (P : List Value → α → Prop) : Node D t size P (.slice none 0 0) [] := .inl ⟨rfl, rfl⟩
theorem Node.mono (h : Node D t size P v xs) (hD : ∀ F ∈ D, F ∈ D') (hp : ∀ c x, P c x → P' c x) : Node D' t size P' v xs := by
  rcases h with h | ⟨F, hF, e, h⟩
  · exact .inl h
  · exact .inr ⟨F, hD F hF, e, h.mono hp⟩
theorem Node.of (hF : F ∈ D) (h : RowIs t size P F xs) : Node D t size P F.v xs := .inr ⟨F, hF, rfl, h⟩
theorem Node.row (h : Node D t size P v xs) (hA : ∀ F ∈ D, F.on w base) (hh : w.heap.size ≤ hi) (hp : ∀ c x, P c x → P' c x) : Api.Row base hi w size P' v xs := by
  rcases h with ⟨rfl, rfl⟩ | ⟨F, hF, rfl, h⟩
  · exact ⟨Option.none, 0, 0, 0, 0, rfl, rfl, by omega, by omega, fun i x hx => by simp at hx⟩
  · exact h.row (hA F hF) hh hp

/-! ### the kinds of things -/
section
variable (D : List Rec)
def Args (v : Value) (l : List Arg) : Prop := Node D 42 3 (fun c x => c = argC x) v l
def Vars (v : Value) (l : List Var) : Prop := Node D 93 2 (fun c x => c = varC x) v l
def Binds (v : Value) (l : List Bind) : Prop := Node D 163 4 (fun c x => c = bindC x) v l
def Ins (v : Value) (l : List Bind) : Prop := Node D 133 4 (fun c x => c = bindC x) v l
def Texts (v : Value) (l : List Wd) : Prop := Node D 9 1 (fun c x => c = [str x]) v l
def IsClass (c : List Value) (x : Class) : Prop := ∃ u, c = [str x.name, u] ∧ Vars D u x.fields
def IsFrame (c : List Value) (x : Api.Frame) : Prop := ∃ u, c = [str x.func, str x.block, i64 x.pos, u] ∧ Binds D u x.vars
def IsVirt (c : List Value) (x : Virt) : Prop := ∃ u, c = [str x.cls, u] ∧ Args D u x.vals
def IsInstr (c : List Value) (x : Instr) : Prop := ∃ u1 u2 u3, c = [i64 x.op, str x.dst, str x.name, u1, u2, u3] ∧ Args D u1 x.args ∧ Node D 167 4 (IsFrame D) u2 x.frames ∧ Node D 169 2 (IsVirt D) u3 x.objs
def IsPhi (c : List Value) (x : Phi) : Prop := ∃ u, c = [str x.dst, u] ∧ Ins D u x.ins
def IsTerm (c : List Value) (x : Api.Term) : Prop := ∃ u, c = [i64 x.kind, i64 x.a.kind, str x.a.s, i64 x.a.n, u, i64 x.n] ∧ Texts D u x.dest
def IsBlock (c : List Value) (x : Api.Block) : Prop := ∃ u1 u2 c2, c = str x.name :: u1 :: u2 :: c2 ∧ Node D 131 2 (IsPhi D) u1 x.phis ∧ Node D 52 6 (IsInstr D) u2 x.code ∧ IsTerm D c2 x.fin
def IsFunc (c : List Value) (x : Api.Func) : Prop := ∃ u1 u2 u3, c = [str x.name, str x.result, u1, u2, u3] ∧ Vars D u1 x.params ∧ Vars D u2 x.vars ∧ Node D 47 9 (IsBlock D) u3 x.blocks
end
section
variable (hD : ∀ F ∈ D, F ∈ D')
include hD
theorem IsClass.mono {x : Class} (h : IsClass D c x) : IsClass D' c x := by obtain ⟨u, e, h⟩ := h; exact ⟨u, e, h.mono hD fun _ _ h => h⟩
theorem IsFrame.mono {x : Api.Frame} (h : IsFrame D c x) : IsFrame D' c x := by obtain ⟨u, e, h⟩ := h; exact ⟨u, e, h.mono hD fun _ _ h => h⟩
theorem IsVirt.mono {x : Virt} (h : IsVirt D c x) : IsVirt D' c x := by obtain ⟨u, e, h⟩ := h; exact ⟨u, e, h.mono hD fun _ _ h => h⟩
theorem IsInstr.mono {x : Instr} (h : IsInstr D c x) : IsInstr D' c x := by
  obtain ⟨u1, u2, u3, e, h1, h2, h3⟩ := h
  exact ⟨u1, u2, u3, e, h1.mono hD fun _ _ h => h, h2.mono hD fun _ _ h => IsFrame.mono hD h, h3.mono hD fun _ _ h => IsVirt.mono hD h⟩
theorem IsPhi.mono {x : Phi} (h : IsPhi D c x) : IsPhi D' c x := by obtain ⟨u, e, h⟩ := h; exact ⟨u, e, h.mono hD fun _ _ h => h⟩
theorem IsTerm.mono {x : Api.Term} (h : IsTerm D c x) : IsTerm D' c x := by obtain ⟨u, e, h⟩ := h; exact ⟨u, e, h.mono hD fun _ _ h => h⟩
theorem IsBlock.mono {x : Api.Block} (h : IsBlock D c x) : IsBlock D' c x := by
  obtain ⟨u1, u2, c2, e, h1, h2, h3⟩ := h
  exact ⟨u1, u2, c2, e, h1.mono hD fun _ _ h => IsPhi.mono hD h, h2.mono hD fun _ _ h => IsInstr.mono hD h, IsTerm.mono hD h3⟩
theorem IsFunc.mono {x : Api.Func} (h : IsFunc D c x) : IsFunc D' c x := by
  obtain ⟨u1, u2, u3, e, h1, h2, h3⟩ := h
  exact ⟨u1, u2, u3, e, h1.mono hD fun _ _ h => h, h2.mono hD fun _ _ h => h, h3.mono hD fun _ _ h => IsBlock.mono hD h⟩
end
section
variable (hA : ∀ F ∈ D, F.on w base) (hh : w.heap.size ≤ hi)
include hA hh
theorem IsClass.read {x : Class} (h : IsClass D c x) : Api.ClassC base hi w c x := by obtain ⟨u, e, h⟩ := h; exact ⟨u, e, h.row hA hh fun _ _ h => h⟩
theorem IsFrame.read {x : Api.Frame} (h : IsFrame D c x) : Api.FrameC base hi w c x := by obtain ⟨u, e, h⟩ := h; exact ⟨u, e, h.row hA hh fun _ _ h => h⟩
theorem IsVirt.read {x : Virt} (h : IsVirt D c x) : Api.VirtC base hi w c x := by obtain ⟨u, e, h⟩ := h; exact ⟨u, e, h.row hA hh fun _ _ h => h⟩
theorem IsInstr.read {x : Instr} (h : IsInstr D c x) : Api.InstrC base hi w c x := by
  obtain ⟨u1, u2, u3, e, h1, h2, h3⟩ := h
  exact ⟨u1, u2, u3, e, h1.row hA hh fun _ _ h => h, h2.row hA hh fun _ _ h => IsFrame.read hA hh h, h3.row hA hh fun _ _ h => IsVirt.read hA hh h⟩
theorem IsPhi.read {x : Phi} (h : IsPhi D c x) : Api.PhiC base hi w c x := by obtain ⟨u, e, h⟩ := h; exact ⟨u, e, h.row hA hh fun _ _ h => h⟩
theorem IsTerm.read {x : Api.Term} (h : IsTerm D c x) : Api.TermC base hi w c x := by obtain ⟨u, e, h⟩ := h; exact ⟨u, e, h.row hA hh fun _ _ h => h⟩
theorem IsBlock.read {x : Api.Block} (h : IsBlock D c x) : Api.BlockC base hi w c x := by
  obtain ⟨u1, u2, c2, e, h1, h2, h3⟩ := h
  exact ⟨u1, u2, c2, e, h1.row hA hh fun _ _ h => IsPhi.read hA hh h, h2.row hA hh fun _ _ h => IsInstr.read hA hh h, IsTerm.read hA hh h3⟩
theorem IsFunc.read {x : Api.Func} (h : IsFunc D c x) : Api.FuncC base hi w c x := by
  obtain ⟨u1, u2, u3, e, h1, h2, h3⟩ := h
  exact ⟨u1, u2, u3, e, h1.row hA hh fun _ _ h => h, h2.row hA hh fun _ _ h => h, h3.row hA hh fun _ _ h => IsBlock.read hA hh h⟩
end

/-! ### a row whose last thing is still being built: P of those ahead, Q of the last one -/
def SpineRow (t : TypeId) (size : Nat) (P Q : List Value → α → Prop) (F : Rec) (xs : List α) : Prop :=
  F.t = t ∧ F.size = size ∧ F.n = xs.length ∧ xs.length ≤ 1099511627776 ∧ ((xs = [] ∧ F.cs = []) ∨ ∃ init x cs0 c, xs = init ++ [x] ∧ F.cs = cs0 ++ c ∧ Cells size P cs0 init ∧ c.length = size ∧ Q c x)
theorem SpineRow.none (t : TypeId) (size : Nat) (P Q : List Value → α → Prop) : SpineRow t size P Q (Rec.empty t size) [] := ⟨rfl, rfl, rfl, by simp, .inl ⟨rfl, rfl⟩⟩
theorem SpineRow.close (h : SpineRow t size P Q F xs) (hp : ∀ c x, P c x → P' c x) (hq : ∀ c x, Q c x → P' c x) : RowIs t size P' F xs := by
  obtain ⟨h1, h2, h3, h4, h5⟩ := h
  refine ⟨h1, h2, h3, by omega, ?_⟩
  rcases h5 with ⟨rfl, e⟩ | ⟨init, x, cs0, c, rfl, e, h6, h7, h8⟩
  · rw [e]; exact .nil
  · rw [e]; exact .snoc (h6.mono hp) h7 (hq _ _ h8)
theorem SpineRow.mono (h : SpineRow t size P Q F xs) (hp : ∀ c x, P c x → P' c x) (hq : ∀ c x, Q c x → Q' c x) : SpineRow t size P' Q' F xs := by
  obtain ⟨h1, h2, h3, h4, h5⟩ := h
  refine ⟨h1, h2, h3, h4, ?_⟩
  rcases h5 with h5 | ⟨init, x, cs0, c, e1, e, h6, h7, h8⟩
  · exact .inl h5
  · exact .inr ⟨init, x, cs0, c, e1, e, h6.mono hp, h7, hq _ _ h8⟩
/-- one more, and it is the last one. -/
theorem SpineRow.push (h : SpineRow t size P Q F xs) (hl : xs.length < 1099511627776) (hp : ∀ c x, P c x → P' c x) (hq : ∀ c x, Q c x → P' c x) (hc : c.length = size) (hx : Q' c x) (v : Value) : SpineRow t size P' Q' ⟨F.t, F.size, v, F.n + 1, F.cs ++ c⟩ (xs ++ [x]) :=
  ⟨h.1, h.2.1, by simp [h.2.2.1], by simp; omega, .inr ⟨xs, x, F.cs, c, rfl, rfl, (h.close hp hq).2.2.2.2, hc, hx⟩⟩
/-- the last one changes beyond the row. -/
theorem SpineRow.inner {f : α → α} (h : SpineRow t size P Q F xs) (hne : xs ≠ []) (hq : ∀ c x, Q c x → Q' c (f x)) : SpineRow t size P Q' F (Syn.last f xs) := by
  obtain ⟨h1, h2, h3, h4, h5⟩ := h
  refine ⟨h1, h2, by rw [last_length]; exact h3, by rw [last_length]; exact h4, ?_⟩
  rcases h5 with ⟨h5, _⟩ | ⟨init, x, cs0, c, rfl, e, h6, h7, h8⟩
  · exact absurd h5 hne
  · exact .inr ⟨init, f x, cs0, c, last_snoc f init x, e, h6, h7, hq _ _ h8⟩
/-- one cell of the last one is written. -/
theorem SpineRow.alter {f : α → α} {j : Nat} {u : Value} (h : SpineRow t size P Q F xs) (hne : xs ≠ []) (hq : ∀ c x, c.length = size → Q c x → Q' (c.set j u) (f x)) : SpineRow t size P Q' { F with cs := F.cs.set ((xs.length - 1) * size + j) u } (Syn.last f xs) := by
  obtain ⟨h1, h2, h3, h4, h5⟩ := h
  refine ⟨h1, h2, by rw [last_length]; exact h3, by rw [last_length]; exact h4, ?_⟩
  rcases h5 with ⟨h5, _⟩ | ⟨init, x, cs0, c, rfl, e, h6, h7, h8⟩
  · exact absurd h5 hne
  · refine .inr ⟨init, f x, cs0, c.set j u, last_snoc f init x, ?_, h6, by simpa using h7, hq _ _ h7 h8⟩
    have h9 := h6.length
    show F.cs.set _ u = _
    rw [e, List.length_append, List.length_singleton, Nat.add_sub_cancel, ← h9, List.set_append_right _ _ (by omega)]
    congr 2
    omega
/-- the last one's cells. -/
theorem SpineRow.at (h : SpineRow t size P Q F xs) (hne : xs ≠ []) : ∃ init x c, xs = init ++ [x] ∧ c.length = size ∧ Q c x ∧ ∀ j u, c[j]? = some u → F.cs[(xs.length - 1) * size + j]? = some u := by
  obtain ⟨h1, h2, h3, h4, h5⟩ := h
  rcases h5 with ⟨h5, _⟩ | ⟨init, x, cs0, c, rfl, e, h6, h7, h8⟩
  · exact absurd h5 hne
  · refine ⟨init, x, c, rfl, h7, h8, fun j u hj => ?_⟩
    have h9 := h6.length
    rw [e, List.length_append, List.length_singleton, Nat.add_sub_cancel, ← h9, List.getElem?_append_right (by omega)]
    rw [← hj]
    congr 1
    omega

/-! ### what is being built -/
/-- The rows that may still grow: of classes, the last one's fields, globals, externs, functions; the last function's parameters, variables, blocks; the last block's phis, code; the last instruction's frames, objects. -/
structure Act where
  C : Rec
  F : Rec
  G : Rec
  E : Rec
  U : Rec
  R : Rec
  V : Rec
  B : Rec
  H : Rec
  K : Rec
  M : Rec
  O : Rec
def Act.l (a : Act) : List Rec := [a.C, a.F, a.G, a.E, a.U, a.R, a.V, a.B, a.H, a.K, a.M, a.O]
section
variable (a : Act) (D : List Rec)
def QClass (c : List Value) (x : Class) : Prop := c = [str x.name, a.F.v] ∧ RowIs 93 2 (fun c x => c = varC x) a.F x.fields
def QInstr (c : List Value) (x : Instr) : Prop := ∃ u, c = [i64 x.op, str x.dst, str x.name, u, a.M.v, a.O.v] ∧ Args D u x.args ∧ RowIs 167 4 (IsFrame D) a.M x.frames ∧ RowIs 169 2 (IsVirt D) a.O x.objs
def QBlock (c : List Value) (x : Api.Block) : Prop := ∃ c2, c = str x.name :: a.H.v :: a.K.v :: c2 ∧ RowIs 131 2 (IsPhi D) a.H x.phis ∧ SpineRow 52 6 (IsInstr D) (QInstr a D) a.K x.code ∧ IsTerm D c2 x.fin
def QFunc (c : List Value) (x : Api.Func) : Prop := c = [str x.name, str x.result, a.R.v, a.V.v, a.B.v] ∧ RowIs 93 2 (fun c x => c = varC x) a.R x.params ∧ RowIs 93 2 (fun c x => c = varC x) a.V x.vars ∧ SpineRow 47 9 (IsBlock D) (QBlock a D) a.B x.blocks
structure Shape (p : Prog) : Prop where
  c : SpineRow 78 2 (IsClass D) (QClass a) a.C p.classes
  g : RowIs 93 2 (fun c x => c = varC x) a.G p.globals
  e : RowIs 80 2 (fun c x => c = externC x) a.E p.externs
  u : SpineRow 38 5 (IsFunc D) (QFunc a D) a.U p.funcs
end
variable {a : Act} {p : Prog}
theorem QClass.done {x : Class} (h : QClass a c x) (hF : a.F ∈ D) : IsClass D c x := ⟨_, h.1, .of hF h.2⟩
theorem QInstr.done {x : Instr} (h : QInstr a D c x) (hD : ∀ F ∈ D, F ∈ D') (hM : a.M ∈ D') (hO : a.O ∈ D') : IsInstr D' c x := by
  obtain ⟨u, e, h1, h2, h3⟩ := h
  exact ⟨u, _, _, e, h1.mono hD fun _ _ h => h, .of hM (h2.mono fun _ _ h => IsFrame.mono hD h), .of hO (h3.mono fun _ _ h => IsVirt.mono hD h)⟩
theorem QBlock.done {x : Api.Block} (h : QBlock a D c x) (hD : ∀ F ∈ D, F ∈ D') (hH : a.H ∈ D') (hK : a.K ∈ D') (hM : a.M ∈ D') (hO : a.O ∈ D') : IsBlock D' c x := by
  obtain ⟨c2, e, h1, h2, h3⟩ := h
  exact ⟨_, _, c2, e, .of hH (h1.mono fun _ _ h => IsPhi.mono hD h), .of hK (h2.close (fun _ _ h => IsInstr.mono hD h) fun _ _ h => h.done hD hM hO), IsTerm.mono hD h3⟩
theorem QFunc.done {x : Api.Func} (h : QFunc a D c x) (hD : ∀ F ∈ D, F ∈ D') (hR : a.R ∈ D') (hV : a.V ∈ D') (hB : a.B ∈ D') (hH : a.H ∈ D') (hK : a.K ∈ D') (hM : a.M ∈ D') (hO : a.O ∈ D') : IsFunc D' c x := by
  obtain ⟨e, h1, h2, h3⟩ := h
  exact ⟨_, _, _, e, .of hR h1, .of hV h2, .of hB (h3.close (fun _ _ h => IsBlock.mono hD h) fun _ _ h => h.done hD hH hK hM hO)⟩
theorem Shape.start : Shape ⟨.empty 78 2, .empty 93 2, .empty 93 2, .empty 80 2, .empty 38 5, .empty 93 2, .empty 93 2, .empty 47 9, .empty 131 2, .empty 52 6, .empty 167 4, .empty 169 2⟩ [] ⟨false, [], [], [], []⟩ :=
  ⟨.none _ _ _ _, .none _ _ _, .none _ _ _, .none _ _ _ _⟩
theorem Shape.ssa (h : Shape a D p) (b : Bool) : Shape a D { p with ssa := b } := ⟨h.c, h.g, h.e, h.u⟩
/-- The whole, read. -/
theorem Shape.read (h : Shape a D p) (hA : Apart w base (a.l ++ D)) (hh : w.heap.size ≤ hi) : Api.ProgC base hi w [.bool p.ssa, a.C.v, a.G.v, a.E.v, a.U.v] p := by
  have hall : ∀ F ∈ a.l ++ D, F.on w base := hA.1
  have hD : ∀ F ∈ D, F ∈ a.l ++ D := fun F hF => List.mem_append_right _ hF
  have hm : ∀ F ∈ a.l, F ∈ a.l ++ D := fun F hF => List.mem_append_left _ hF
  refine ⟨_, _, _, _, rfl, ?_, ?_, ?_, ?_⟩
  · exact (h.c.close (P' := IsClass (a.l ++ D)) (fun _ _ h => IsClass.mono hD h) fun _ _ h => h.done (hm _ (by simp [Act.l]))).row (hall _ (hm _ (by simp [Act.l]))) hh fun _ _ h => IsClass.read hall hh h
  · exact h.g.row (hall _ (hm _ (by simp [Act.l]))) hh fun _ _ h => h
  · exact h.e.row (hall _ (hm _ (by simp [Act.l]))) hh fun _ _ h => h
  · exact (h.u.close (P' := IsFunc (a.l ++ D)) (fun _ _ h => IsFunc.mono hD h) fun _ _ h => h.done hD (hm _ (by simp [Act.l])) (hm _ (by simp [Act.l])) (hm _ (by simp [Act.l])) (hm _ (by simp [Act.l])) (hm _ (by simp [Act.l])) (hm _ (by simp [Act.l])) (hm _ (by simp [Act.l]))).row (hall _ (hm _ (by simp [Act.l]))) hh fun _ _ h => IsFunc.read hall hh h
end Go.Proofs.YtkmndgjabkjafaaGreatDoor.Tree

namespace Go.Proofs.YtkmndgjabkjafaaGreatDoor.Tree
open Go.RowKit Api Hold Mem Syn

variable {w w' : World} {base : Nat} {r : Rec} {A B D R : List Rec} {a : Act} {p : Prog} {v' : Value} {news : List Value} {N : Nat}
theorem ap_front (h : Apart w base (A ++ r :: B)) : Apart w base (r :: (A ++ B)) := h.perm List.perm_middle
theorem ap_back (h : Apart w base (r :: (A ++ B))) : Apart w base (A ++ r :: B) := h.perm List.perm_middle.symm
theorem ap_same (h : Apart w base R) (hk : ∀ k, base ≤ k → k < w.heap.size → w'.heap[k]? = w.heap[k]?) : Apart w' base R := by
  refine ⟨fun x hx => ?_, h.2⟩
  obtain ⟨h1, h2⟩ := h.1 x hx
  refine ⟨h1, ?_⟩
  rcases h2 with h2 | ⟨g, cap, cur, e, hb, hg, hr⟩
  · exact .inl h2
  · exact .inr ⟨g, cap, cur, e, hb, (hk g hb (Array.getElem?_eq_some_iff.1 hg).1).trans hg, hr⟩
theorem ap_retire (t : TypeId) (s : Nat) (h : Apart w base (A ++ r :: (B ++ D))) : Apart w base (A ++ Rec.empty t s :: (B ++ r :: D)) := by
  have h1 := ap_front h
  have h2 : Apart w base (A ++ (B ++ r :: D)) := by
    rw [← List.append_assoc] at h1 ⊢
    exact ap_back h1
  exact ap_back (h2.empty t s)
/-- A row has grown by the cells of one thing. -/
structure Grew (w w' : World) (base : Nat) (r : Rec) (v' : Value) (news : List Value) : Prop where
  own : w'.ownsRow base r.t r.size v' (r.n + 1) (r.cs ++ news)
  grow : w.grownBy w' r.v.ownBlock
  loc : v'.ownBlock = r.v.ownBlock ∨ ∀ k, v'.ownBlock = some k → w.heap.size ≤ k
abbrev grew (r : Rec) (v' : Value) (news : List Value) : Rec := ⟨r.t, r.size, v', r.n + 1, r.cs ++ news⟩
theorem ap_grow (h : Apart w base (A ++ r :: B)) (g : Grew w w' base r v' news) : Apart w' base (A ++ grew r v' news :: B) := ap_back ((ap_front h).grow g.grow g.own g.loc)
abbrev put (r : Rec) (q : Nat) (u : Value) : Rec := { r with cs := r.cs.set q u }
theorem ap_store {g cap q : Nat} {u : Value} (h : Apart w base (A ++ r :: B)) (hv : r.v = .slice (some ⟨g, 0, none⟩) r.n cap) : Apart (w.setCell ⟨g, q, none⟩ u) base (A ++ put r q u :: B) := ap_back ((ap_front h).store hv)

/-- A program being built: its rows, what they hold; none has more than N things. -/
structure Build (w : World) (base : Nat) (a : Act) (D : List Rec) (p : Prog) (N : Nat) : Prop where
  ap : Apart w base (a.l ++ D)
  sh : Shape a D p
  few : ∀ r ∈ a.l, r.n ≤ N
theorem Build.same (h : Build w base a D p N) (hk : ∀ k, base ≤ k → k < w.heap.size → w'.heap[k]? = w.heap[k]?) : Build w' base a D p N := ⟨ap_same h.ap hk, h.sh, h.few⟩
theorem Build.more {N' : Nat} (h : Build w base a D p N) (hN : N ≤ N') : Build w base a D p N' := ⟨h.ap, h.sh, fun r hr => Nat.le_trans (h.few r hr) hN⟩
theorem Build.ssa (h : Build w base a D p N) (b : Bool) : Build w base a D { p with ssa := b } N := ⟨h.ap, h.sh.ssa b, h.few⟩
/-- a row of one's own goes into D. -/
theorem Build.own {F : Rec} (h : Build w base a D p N) (hF : F.on w base) (hne : ∀ x ∈ a.l ++ D, F.v.ownBlock = none ∨ F.v.ownBlock ≠ x.v.ownBlock) : Apart w base (a.l ++ (F :: D)) := by
  refine ap_back ⟨fun x hx => ?_, ?_⟩
  · rcases List.mem_cons.1 hx with rfl | hx
    · exact hF
    · exact h.ap.1 x hx
  · cases hv : F.v.ownBlock with
    | none => rw [List.filterMap_cons_none (f := fun r : Rec => r.v.ownBlock) (a := F) hv]; exact h.ap.2
    | some k =>
      rw [List.filterMap_cons_some (f := fun r : Rec => r.v.ownBlock) (a := F) hv, List.nodup_cons]
      refine ⟨fun hm => ?_, h.ap.2⟩
      obtain ⟨x, hx, hxk⟩ := List.mem_filterMap.1 hm
      rcases hne x hx with e | e
      · rw [hv] at e; cases e
      · exact e (by rw [hv, hxk])
theorem few_all {a : Act} (h : ∀ r ∈ a.l, r.n ≤ N) : a.C.n ≤ N ∧ a.F.n ≤ N ∧ a.G.n ≤ N ∧ a.E.n ≤ N ∧ a.U.n ≤ N ∧ a.R.n ≤ N ∧ a.V.n ≤ N ∧ a.B.n ≤ N ∧ a.H.n ≤ N ∧ a.K.n ≤ N ∧ a.M.n ≤ N ∧ a.O.n ≤ N := by
  simp only [Act.l, List.mem_cons, List.not_mem_nil, or_false, forall_eq_or_imp, forall_eq] at h
  exact h
theorem few_mk {a : Act} (h : a.C.n ≤ N ∧ a.F.n ≤ N ∧ a.G.n ≤ N ∧ a.E.n ≤ N ∧ a.U.n ≤ N ∧ a.R.n ≤ N ∧ a.V.n ≤ N ∧ a.B.n ≤ N ∧ a.H.n ≤ N ∧ a.K.n ≤ N ∧ a.M.n ≤ N ∧ a.O.n ≤ N) : ∀ r ∈ a.l, r.n ≤ N := by
  simp only [Act.l, List.mem_cons, List.not_mem_nil, or_false, forall_eq_or_imp, forall_eq]
  exact h
theorem few_sub (h : ∀ r ∈ a.l, r.n ≤ N) : a.C.n ≤ N + 1 ∧ a.F.n ≤ N + 1 ∧ a.G.n ≤ N + 1 ∧ a.E.n ≤ N + 1 ∧ a.U.n ≤ N + 1 ∧ a.R.n ≤ N + 1 ∧ a.V.n ≤ N + 1 ∧ a.B.n ≤ N + 1 ∧ a.H.n ≤ N + 1 ∧ a.K.n ≤ N + 1 ∧ a.M.n ≤ N + 1 ∧ a.O.n ≤ N + 1 := by
  obtain ⟨h1, h2, h3, h4, h5, h6, h7, h8, h9, h10, h11, h12⟩ := few_all h
  refine ⟨?_, ?_, ?_, ?_, ?_, ?_, ?_, ?_, ?_, ?_, ?_, ?_⟩ <;> omega
theorem sub_cons {F : Rec} : ∀ x ∈ D, x ∈ F :: D := fun _ h => List.mem_cons_of_mem _ h

/-! ### outside functions -/
theorem Build.global (h : Build w base a D p N) (x : Var) (g : Grew w w' base a.G v' (varC x)) (hN : N < 1073741824) :
    Build w' base { a with G := grew a.G v' (varC x) } D { p with globals := p.globals ++ [x] } (N + 1) := by
  have hf := few_sub h.few
  have hx := few_all h.few
  have hn := h.sh.g.2.2.1
  refine ⟨ap_grow (A := [a.C, a.F]) (B := [a.E, a.U, a.R, a.V, a.B, a.H, a.K, a.M, a.O] ++ D) h.ap g, ⟨h.sh.c, h.sh.g.push (by omega) rfl rfl v', h.sh.e, h.sh.u⟩, few_mk ?_⟩
  simp only
  omega
theorem Build.extern (h : Build w base a D p N) (x : Extern) (g : Grew w w' base a.E v' (externC x)) (hN : N < 1073741824) :
    Build w' base { a with E := grew a.E v' (externC x) } D { p with externs := p.externs ++ [x] } (N + 1) := by
  have hf := few_sub h.few
  have hx := few_all h.few
  have hn := h.sh.e.2.2.1
  refine ⟨ap_grow (A := [a.C, a.F, a.G]) (B := [a.U, a.R, a.V, a.B, a.H, a.K, a.M, a.O] ++ D) h.ap g, ⟨h.sh.c, h.sh.g, h.sh.e.push (by omega) rfl rfl v', h.sh.u⟩, few_mk ?_⟩
  simp only
  omega
theorem QFunc.mono {c : List Value} {x : Api.Func} {F : Rec} (h : QFunc a D c x) : QFunc a (F :: D) c x := by
  obtain ⟨e, h1, h2, h3⟩ := h
  refine ⟨e, h1, h2, h3.mono (fun _ _ h => IsBlock.mono sub_cons h) fun c x h => ?_⟩
  obtain ⟨c2, e, h1, h2, h3⟩ := h
  refine ⟨c2, e, h1.mono fun _ _ h => IsPhi.mono sub_cons h, h2.mono (fun _ _ h => IsInstr.mono sub_cons h) fun c x h => ?_, IsTerm.mono sub_cons h3⟩
  obtain ⟨u, e, h1, h2, h3⟩ := h
  exact ⟨u, e, h1.mono sub_cons fun _ _ h => h, h2.mono fun _ _ h => IsFrame.mono sub_cons h, h3.mono fun _ _ h => IsVirt.mono sub_cons h⟩
theorem Build.cls (h : Build w base a D p N) (x : Wd) (g : Grew w w' base a.C v' [str x, .slice none 0 0]) (hN : N < 1073741824) :
    Build w' base { a with C := grew a.C v' [str x, .slice none 0 0], F := .empty 93 2 } (a.F :: D) { p with classes := p.classes ++ [⟨x, []⟩] } (N + 1) := by
  have hf := few_sub h.few
  have hx := few_all h.few
  have hn := h.sh.c.2.2.1
  have h1 := ap_grow (A := []) (B := [a.F, a.G, a.E, a.U, a.R, a.V, a.B, a.H, a.K, a.M, a.O] ++ D) h.ap g
  have h2 := ap_retire (A := [grew a.C v' [str x, .slice none 0 0]]) (r := a.F) (B := [a.G, a.E, a.U, a.R, a.V, a.B, a.H, a.K, a.M, a.O]) (D := D) 93 2 h1
  refine ⟨h2, ⟨h.sh.c.push (by omega) (fun _ _ h => IsClass.mono sub_cons h) (fun _ _ h => h.done (by simp)) rfl ⟨rfl, .none _ _ _⟩ v', h.sh.g, h.sh.e, h.sh.u.mono (fun _ _ h => IsFunc.mono sub_cons h) fun _ _ h => h.mono⟩, few_mk ?_⟩
  simp only [Rec.empty]
  omega
theorem Build.field {g0 cap : Nat} (h : Build w base a D p N) (x : Var) (hne : p.classes ≠ []) (g : Grew w w' base a.F v' (varC x)) (hv : a.C.v = .slice (some ⟨g0, 0, none⟩) a.C.n cap) (hN : N < 1073741824) :
    Build (w'.setCell ⟨g0, (p.classes.length - 1) * 2 + 1, none⟩ v') base { a with F := grew a.F v' (varC x), C := put a.C ((p.classes.length - 1) * 2 + 1) v' } D { p with classes := Syn.last (fun c => { c with fields := c.fields ++ [x] }) p.classes } (N + 1) := by
  have hf := few_sub h.few
  have hx := few_all h.few
  have h1 := ap_grow (A := [a.C]) (B := [a.G, a.E, a.U, a.R, a.V, a.B, a.H, a.K, a.M, a.O] ++ D) h.ap g
  have h2 := ap_store (A := []) (r := a.C) (q := (p.classes.length - 1) * 2 + 1) (u := v') h1 hv
  refine ⟨h2, ⟨h.sh.c.alter hne fun c y _ hq => ?_, h.sh.g, h.sh.e, h.sh.u⟩, few_mk ?_⟩
  · obtain ⟨e, hr⟩ := hq
    have hn := hr.2.2.1
    exact ⟨by rw [e]; rfl, hr.push (by omega) rfl rfl v'⟩
  · simp only
    omega
theorem Build.fn (h : Build w base a D p N) (x y : Wd) (g : Grew w w' base a.U v' [str x, str y, .slice none 0 0, .slice none 0 0, .slice none 0 0]) (hN : N < 1073741824) :
    Build w' base { a with U := grew a.U v' [str x, str y, .slice none 0 0, .slice none 0 0, .slice none 0 0], R := .empty 93 2, V := .empty 93 2, B := .empty 47 9, H := .empty 131 2, K := .empty 52 6, M := .empty 167 4, O := .empty 169 2 } (a.O :: a.M :: a.K :: a.H :: a.B :: a.V :: a.R :: D) { p with funcs := p.funcs ++ [⟨x, y, [], [], []⟩] } (N + 1) := by
  have hf := few_sub h.few
  have hx := few_all h.few
  have hn := h.sh.u.2.2.1
  have h1 := ap_grow (A := [a.C, a.F, a.G, a.E]) (B := [a.R, a.V, a.B, a.H, a.K, a.M, a.O] ++ D) h.ap g
  have h2 := ap_retire (A := [a.C, a.F, a.G, a.E, grew a.U v' [str x, str y, .slice none 0 0, .slice none 0 0, .slice none 0 0]]) (r := a.R) (B := [a.V, a.B, a.H, a.K, a.M, a.O]) (D := D) 93 2 h1
  have h3 := ap_retire (A := [a.C, a.F, a.G, a.E, grew a.U v' [str x, str y, .slice none 0 0, .slice none 0 0, .slice none 0 0], .empty 93 2]) (r := a.V) (B := [a.B, a.H, a.K, a.M, a.O]) (D := a.R :: D) 93 2 h2
  have h4 := ap_retire (A := [a.C, a.F, a.G, a.E, grew a.U v' [str x, str y, .slice none 0 0, .slice none 0 0, .slice none 0 0], .empty 93 2, .empty 93 2]) (r := a.B) (B := [a.H, a.K, a.M, a.O]) (D := a.V :: a.R :: D) 47 9 h3
  have h5 := ap_retire (A := [a.C, a.F, a.G, a.E, grew a.U v' [str x, str y, .slice none 0 0, .slice none 0 0, .slice none 0 0], .empty 93 2, .empty 93 2, .empty 47 9]) (r := a.H) (B := [a.K, a.M, a.O]) (D := a.B :: a.V :: a.R :: D) 131 2 h4
  have h6 := ap_retire (A := [a.C, a.F, a.G, a.E, grew a.U v' [str x, str y, .slice none 0 0, .slice none 0 0, .slice none 0 0], .empty 93 2, .empty 93 2, .empty 47 9, .empty 131 2]) (r := a.K) (B := [a.M, a.O]) (D := a.H :: a.B :: a.V :: a.R :: D) 52 6 h5
  have h7 := ap_retire (A := [a.C, a.F, a.G, a.E, grew a.U v' [str x, str y, .slice none 0 0, .slice none 0 0, .slice none 0 0], .empty 93 2, .empty 93 2, .empty 47 9, .empty 131 2, .empty 52 6]) (r := a.M) (B := [a.O]) (D := a.K :: a.H :: a.B :: a.V :: a.R :: D) 167 4 h6
  have h8 := ap_retire (A := [a.C, a.F, a.G, a.E, grew a.U v' [str x, str y, .slice none 0 0, .slice none 0 0, .slice none 0 0], .empty 93 2, .empty 93 2, .empty 47 9, .empty 131 2, .empty 52 6, .empty 167 4]) (r := a.O) (B := []) (D := a.M :: a.K :: a.H :: a.B :: a.V :: a.R :: D) 169 2 h7
  have hD : ∀ F ∈ D, F ∈ a.O :: a.M :: a.K :: a.H :: a.B :: a.V :: a.R :: D := fun F hF => by simp [hF]
  refine ⟨h8, ⟨h.sh.c.mono (fun _ _ h => IsClass.mono hD h) fun _ _ h => h, h.sh.g, h.sh.e, h.sh.u.push (by omega) (fun _ _ h => IsFunc.mono hD h) (fun _ _ h => h.done hD (by simp) (by simp) (by simp) (by simp) (by simp) (by simp) (by simp)) rfl ⟨rfl, .none _ _ _, .none _ _ _, .none _ _ _ _⟩ v'⟩, few_mk ?_⟩
  simp only [Rec.empty]
  omega

/-! ### a function's head -/
theorem Build.param {g0 cap : Nat} (h : Build w base a D p N) (x : Var) (hne : p.funcs ≠ []) (g : Grew w w' base a.R v' (varC x)) (hv : a.U.v = .slice (some ⟨g0, 0, none⟩) a.U.n cap) (hN : N < 1073741824) :
    Build (w'.setCell ⟨g0, (p.funcs.length - 1) * 5 + 2, none⟩ v') base { a with R := grew a.R v' (varC x), U := put a.U ((p.funcs.length - 1) * 5 + 2) v' } D { p with funcs := Syn.last (fun f => { f with params := f.params ++ [x] }) p.funcs } (N + 1) := by
  have hf := few_sub h.few
  have hx := few_all h.few
  have h1 := ap_grow (A := [a.C, a.F, a.G, a.E, a.U]) (B := [a.V, a.B, a.H, a.K, a.M, a.O] ++ D) h.ap g
  have h2 := ap_store (A := [a.C, a.F, a.G, a.E]) (r := a.U) (q := (p.funcs.length - 1) * 5 + 2) (u := v') h1 hv
  refine ⟨h2, ⟨h.sh.c, h.sh.g, h.sh.e, h.sh.u.alter hne fun c y _ hq => ?_⟩, few_mk ?_⟩
  · obtain ⟨e, q1, q2, q3⟩ := hq
    have hn := q1.2.2.1
    exact ⟨by rw [e]; rfl, q1.push (by omega) rfl rfl v', q2, q3⟩
  · simp only
    omega
theorem Build.var {g0 cap : Nat} (h : Build w base a D p N) (x : Var) (hne : p.funcs ≠ []) (g : Grew w w' base a.V v' (varC x)) (hv : a.U.v = .slice (some ⟨g0, 0, none⟩) a.U.n cap) (hN : N < 1073741824) :
    Build (w'.setCell ⟨g0, (p.funcs.length - 1) * 5 + 3, none⟩ v') base { a with V := grew a.V v' (varC x), U := put a.U ((p.funcs.length - 1) * 5 + 3) v' } D { p with funcs := Syn.last (fun f => { f with vars := f.vars ++ [x] }) p.funcs } (N + 1) := by
  have hf := few_sub h.few
  have hx := few_all h.few
  have h1 := ap_grow (A := [a.C, a.F, a.G, a.E, a.U, a.R]) (B := [a.B, a.H, a.K, a.M, a.O] ++ D) h.ap g
  have h2 := ap_store (A := [a.C, a.F, a.G, a.E]) (r := a.U) (q := (p.funcs.length - 1) * 5 + 3) (u := v') h1 hv
  refine ⟨h2, ⟨h.sh.c, h.sh.g, h.sh.e, h.sh.u.alter hne fun c y _ hq => ?_⟩, few_mk ?_⟩
  · obtain ⟨e, q1, q2, q3⟩ := hq
    have hn := q2.2.2.1
    exact ⟨by rw [e]; rfl, q1, q2.push (by omega) rfl rfl v', q3⟩
  · simp only
    omega
abbrev nilTerm : List Value := [i64 0, i64 0, str [], i64 0, .slice none 0 0, i64 0]
theorem Build.block {g0 cap : Nat} (h : Build w base a D p N) (x : Wd) (hne : p.funcs ≠ []) (g : Grew w w' base a.B v' (str x :: .slice none 0 0 :: .slice none 0 0 :: nilTerm)) (hv : a.U.v = .slice (some ⟨g0, 0, none⟩) a.U.n cap) (hN : N < 1073741824) :
    Build (w'.setCell ⟨g0, (p.funcs.length - 1) * 5 + 4, none⟩ v') base { a with B := grew a.B v' (str x :: .slice none 0 0 :: .slice none 0 0 :: nilTerm), U := put a.U ((p.funcs.length - 1) * 5 + 4) v', H := .empty 131 2, K := .empty 52 6, M := .empty 167 4, O := .empty 169 2 } (a.O :: a.M :: a.K :: a.H :: D) { p with funcs := Syn.last (fun f => { f with blocks := f.blocks ++ [⟨x, [], [], termZ⟩] }) p.funcs } (N + 1) := by
  have hf := few_sub h.few
  have hx := few_all h.few
  have h1 := ap_grow (A := [a.C, a.F, a.G, a.E, a.U, a.R, a.V]) (B := [a.H, a.K, a.M, a.O] ++ D) h.ap g
  have h2 := ap_store (A := [a.C, a.F, a.G, a.E]) (r := a.U) (q := (p.funcs.length - 1) * 5 + 4) (u := v') h1 hv
  have h5 := ap_retire (A := [a.C, a.F, a.G, a.E, put a.U ((p.funcs.length - 1) * 5 + 4) v', a.R, a.V, grew a.B v' (str x :: .slice none 0 0 :: .slice none 0 0 :: nilTerm)]) (r := a.H) (B := [a.K, a.M, a.O]) (D := D) 131 2 h2
  have h6 := ap_retire (A := [a.C, a.F, a.G, a.E, put a.U ((p.funcs.length - 1) * 5 + 4) v', a.R, a.V, grew a.B v' (str x :: .slice none 0 0 :: .slice none 0 0 :: nilTerm), .empty 131 2]) (r := a.K) (B := [a.M, a.O]) (D := a.H :: D) 52 6 h5
  have h7 := ap_retire (A := [a.C, a.F, a.G, a.E, put a.U ((p.funcs.length - 1) * 5 + 4) v', a.R, a.V, grew a.B v' (str x :: .slice none 0 0 :: .slice none 0 0 :: nilTerm), .empty 131 2, .empty 52 6]) (r := a.M) (B := [a.O]) (D := a.K :: a.H :: D) 167 4 h6
  have h8 := ap_retire (A := [a.C, a.F, a.G, a.E, put a.U ((p.funcs.length - 1) * 5 + 4) v', a.R, a.V, grew a.B v' (str x :: .slice none 0 0 :: .slice none 0 0 :: nilTerm), .empty 131 2, .empty 52 6, .empty 167 4]) (r := a.O) (B := []) (D := a.M :: a.K :: a.H :: D) 169 2 h7
  have hD : ∀ F ∈ D, F ∈ a.O :: a.M :: a.K :: a.H :: D := fun F hF => by simp [hF]
  refine ⟨h8, ⟨h.sh.c.mono (fun _ _ h => IsClass.mono hD h) fun _ _ h => h, h.sh.g, h.sh.e, (h.sh.u.mono (fun _ _ h => IsFunc.mono hD h) fun _ _ h => h).alter hne fun c y _ hq => ?_⟩, few_mk ?_⟩
  · obtain ⟨e, q1, q2, q3⟩ := hq
    have hn := q3.2.2.1
    exact ⟨by rw [e]; rfl, q1, q2, q3.push (by omega) (fun _ _ h => IsBlock.mono hD h) (fun _ _ h => h.done hD (by simp) (by simp) (by simp) (by simp)) rfl ⟨_, rfl, .none _ _ _, .none _ _ _ _, ⟨_, rfl, .nil _ _ _ _⟩⟩ v'⟩
  · simp only [Rec.empty]
    omega

/-! ### inside a block: f is what happens to the last block -/
theorem Build.inBlock {a2 : Act} {D2 : List Rec} {N2 : Nat} {f : Api.Block → Api.Block} (h : Build w base a D p N) (hne : p.funcs ≠ []) (hC : a2.C = a.C) (hF : a2.F = a.F) (hG : a2.G = a.G) (hE : a2.E = a.E) (hU : a2.U = a.U) (hR : a2.R = a.R) (hV : a2.V = a.V) (hBv : a2.B.v = a.B.v)
    (hap : Apart w' base (a2.l ++ D2)) (hD : ∀ F ∈ D, F ∈ D2) (hfew : ∀ r ∈ a2.l, r.n ≤ N2)
    (hB : ∀ l, SpineRow 47 9 (IsBlock D) (QBlock a D) a.B l → l = (p.funcs.getLast?.getD funcZ).blocks → SpineRow 47 9 (IsBlock D2) (QBlock a2 D2) a2.B (Syn.last f l)) :
    Build w' base a2 D2 { p with funcs := Syn.last (fun x => { x with blocks := Syn.last f x.blocks }) p.funcs } N2 := by
  refine ⟨hap, ⟨?_, by rw [hG]; exact h.sh.g, by rw [hE]; exact h.sh.e, ?_⟩, hfew⟩
  · rw [hC]
    refine h.sh.c.mono (fun _ _ h => IsClass.mono hD h) fun c x h => ?_
    unfold QClass at h ⊢
    rw [hF]; exact h
  · rw [hU]
    obtain ⟨h1, h2, h3, h4, h5⟩ := h.sh.u
    refine ⟨h1, h2, by rw [last_length]; exact h3, by rw [last_length]; exact h4, ?_⟩
    rcases h5 with ⟨h5, _⟩ | ⟨init, x, cs0, c, e0, e, h6, h7, h8⟩
    · exact absurd h5 hne
    · refine .inr ⟨init, { x with blocks := Syn.last f x.blocks }, cs0, c, by rw [e0]; exact last_snoc _ init x, e, h6.mono fun _ _ h => IsFunc.mono hD h, h7, ?_⟩
      obtain ⟨e, q1, q2, q3⟩ := h8
      refine ⟨by rw [hR, hV, hBv]; exact e, by rw [hR]; exact q1, by rw [hV]; exact q2, hB _ q3 ?_⟩
      rw [e0]; simp
end Go.Proofs.YtkmndgjabkjafaaGreatDoor.Tree
