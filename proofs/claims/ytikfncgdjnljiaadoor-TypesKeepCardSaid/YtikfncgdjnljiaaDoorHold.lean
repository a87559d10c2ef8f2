/-
  Rows that a call owns, held apart: one is appended to, or written into, and all others stand. No program is named here.
-/
import Derived.Test.YtikfncgdjnljiaaDoorMem
import Derived.Test.YtikfncgdjnljiaaDoorPlainS
namespace Go.Proofs.YtikfncgdjnljiaaDoor.Hold
open Go.RowKit Mem

/-- A row: its elements' type and cells, its value, how many elements, the cells. -/
structure Rec where
  t : TypeId
  size : Nat
  v : Value
  n : Nat
  cs : List Value

def Rec.on (w : World) (base : Nat) (r : Rec) : Prop := w.ownsRow base r.t r.size r.v r.n r.cs
/-- All of them are owned, from block base on, and no two lie in one block. -/
def Apart (w : World) (base : Nat) (R : List Rec) : Prop := (∀ r ∈ R, r.on w base) ∧ (R.filterMap fun r => r.v.ownBlock).Nodup
def Rec.empty (t : TypeId) (size : Nat) : Rec := ⟨t, size, .slice none 0 0, 0, []⟩

variable {w w' : World} {base : Nat} {r : Rec} {R R' : List Rec}
theorem grown_all (hb : Below w.heap.size w w') (row : Option Nat) : w.grownBy w' row := ⟨hb.os, hb.tape, hb.output, hb.size, fun k hk _ => hb.block k hk⟩
theorem Rec.on.below (h : r.on w base) (hb : Below w.heap.size w w') : r.on w' base := World.ownsRow.kept h (grown_all hb none) (by cases hv : r.v.ownBlock <;> simp)
theorem Rec.on.lt (h : r.on w base) {k : Nat} (hk : r.v.ownBlock = some k) : base ≤ k ∧ k < w.heap.size := World.ownsRow.lt h k hk
theorem Rec.on.lower {b : Nat} (h : r.on w base) (hb : b ≤ base) : r.on w b := by
  refine ⟨h.1, ?_⟩
  rcases h.2 with h | ⟨g, cap, cur, e, h1, k⟩
  · exact .inl h
  · exact .inr ⟨g, cap, cur, e, Nat.le_trans hb h1, k⟩
theorem Rec.on.form (h : r.on w base) : ∃ A cap, r.v = .slice A r.n cap := by
  rcases h.2 with ⟨e, h0⟩ | ⟨g, cap, cur, e, _⟩
  · exact ⟨none, 0, by rw [e, h0]⟩
  · exact ⟨_, _, e⟩

theorem Apart.nil (w : World) (base : Nat) : Apart w base [] := ⟨fun _ h => (by cases h), List.nodup_nil⟩
theorem Apart.perm (h : Apart w base R) (hp : R.Perm R') : Apart w base R' := ⟨fun x hx => h.1 x (hp.mem_iff.2 hx), (hp.filterMap _).nodup_iff.1 h.2⟩
theorem Apart.sub (h : Apart w base R) (hs : R'.Sublist R) : Apart w base R' := ⟨fun x hx => h.1 x (hs.mem hx), h.2.sublist (hs.filterMap _)⟩
theorem Apart.below (h : Apart w base R) (hb : Below w.heap.size w w') : Apart w' base R := ⟨fun x hx => (h.1 x hx).below hb, h.2⟩
theorem Apart.lower {b : Nat} (h : Apart w base R) (hb : b ≤ base) : Apart w b R := ⟨fun x hx => (h.1 x hx).lower hb, h.2⟩
theorem Apart.empty (h : Apart w base R) (t : TypeId) (size : Nat) : Apart w base (Rec.empty t size :: R) := by
  refine ⟨fun x hx => ?_, ?_⟩
  · rcases List.mem_cons.1 hx with rfl | hx
    · exact World.ownsRow_nil _ _ _ _
    · exact h.1 x hx
  · rw [List.filterMap_cons_none rfl]; exact h.2
theorem Apart.tail (h : Apart w base (r :: R)) : Apart w base R := h.sub (List.sublist_cons_self r R)
theorem Apart.head (h : Apart w base (r :: R)) : r.on w base := h.1 r (by simp)
/-- another row's block is not this one's. -/
theorem Apart.other (h : Apart w base (r :: R)) {x : Rec} (hx : x ∈ R) : x.v.ownBlock = none ∨ x.v.ownBlock ≠ r.v.ownBlock := by
  cases hv : x.v.ownBlock with
  | none => left; rfl
  | some k =>
    right
    intro e
    have hn := h.2
    rw [List.filterMap_cons_some (f := fun r : Rec => r.v.ownBlock) (a := r) e.symm, List.nodup_cons] at hn
    exact hn.1 (List.mem_filterMap.2 ⟨x, hx, hv⟩)
/-- The first row has grown: in its block, or in a new one. -/
theorem Apart.grow {v' : Value} {n' : Nat} {cs' : List Value} (h : Apart w base (r :: R)) (hg : w.grownBy w' r.v.ownBlock) (hv : w'.ownsRow base r.t r.size v' n' cs') (hf : v'.ownBlock = r.v.ownBlock ∨ ∀ k, v'.ownBlock = some k → w.heap.size ≤ k) :
    Apart w' base (⟨r.t, r.size, v', n', cs'⟩ :: R) := by
  refine ⟨fun x hx => ?_, ?_⟩
  · rcases List.mem_cons.1 hx with rfl | hx
    · exact hv
    · exact World.ownsRow.kept (h.1 x (by simp [hx])) hg (h.other hx)
  · cases hk : v'.ownBlock with
    | none => rw [List.filterMap_cons_none (f := fun r : Rec => r.v.ownBlock) (a := ⟨r.t, r.size, v', n', cs'⟩) hk]; exact h.tail.2
    | some k =>
      rw [List.filterMap_cons_some (f := fun r : Rec => r.v.ownBlock) (a := ⟨r.t, r.size, v', n', cs'⟩) hk, List.nodup_cons]
      refine ⟨fun hm => ?_, h.tail.2⟩
      obtain ⟨x, hx, hxk⟩ := List.mem_filterMap.1 hm
      rcases hf with hf | hf
      · rcases h.other hx with h1 | h1
        · rw [hxk] at h1; cases h1
        · exact h1 (by rw [hxk, ← hf, hk])
      · have h1 := hf k hk
        have h2 := ((h.1 x (by simp [hx])).lt hxk).2
        omega
/-- rows that a call has made, in front. -/
theorem Apart.join {R2 : List Rec} (h : Apart w base R) (hb : Below w.heap.size w w') (h2 : Apart w' w.heap.size R2) (hw : base ≤ w.heap.size) : Apart w' base (R2 ++ R) := by
  refine ⟨fun x hx => ?_, ?_⟩
  · rcases List.mem_append.1 hx with hx | hx
    · exact (h2.1 x hx).lower hw
    · exact (h.1 x hx).below hb
  · rw [List.filterMap_append, List.nodup_append]
    refine ⟨h2.2, h.2, fun a ha b hb' e => ?_⟩
    subst e
    obtain ⟨x, hx, hxk⟩ := List.mem_filterMap.1 ha
    obtain ⟨y, hy, hyk⟩ := List.mem_filterMap.1 hb'
    have h3 := ((h2.1 x hx).lt hxk).1
    have h4 := ((h.1 y hy).lt hyk).2
    omega

/-! ### cells -/
theorem Rec.on.at (h : r.on w base) (hn : 0 < r.n) : ∃ g cap cur, r.v = .slice (some ⟨g, 0, none⟩) r.n cap ∧ base ≤ g ∧ w.heap[g]? = some (.cells cur r.t (0, 0)) ∧ r.n * r.size ≤ cur.size ∧ cur.toList.take (r.n * r.size) = r.cs ∧ r.n ≤ 9223372036854775807 := by
  rcases h.2 with ⟨_, h0⟩ | ⟨g, cap, cur, e, hb, hg, h1, h2, h3, h4⟩
  · omega
  · exact ⟨g, cap, cur, e, hb, hg, by rw [h3]; exact Nat.mul_le_mul_right _ h1, h4, by unfold maxLen at h2; omega⟩
theorem Rec.on.len (h : r.on w base) : r.cs.length = r.n * r.size := h.1
theorem Rec.on.cell {g cap : Nat} (h : r.on w base) (hv : r.v = .slice (some ⟨g, 0, none⟩) r.n cap) {j : Nat} {u : Value} (hu : r.cs[j]? = some u) : w.cell? ⟨g, j, none⟩ = some u := by
  have := World.ownsRow.cells h (g := g) (by rw [hv]; rfl) j u hu
  have e : (⟨g, 0, none⟩ : Addr).add j = ⟨g, j, none⟩ := by unfold Addr.add; split <;> simp_all
  rw [e] at this
  exact this
theorem Rec.on.thaw {g cap : Nat} (h : r.on w base) (hv : r.v = .slice (some ⟨g, 0, none⟩) r.n cap) (j : Nat) : w.frozen? ⟨g, j, none⟩ = false := by
  rcases h.2 with ⟨e, _⟩ | ⟨g', cap', cur, e, _, hg, _⟩
  · rw [hv] at e; cases e
  · rw [hv] at e
    cases e
    simp [World.frozen?, hg]
theorem set_take (l : List Value) (n q : Nat) (u : Value) : (l.set q u).take n = (l.take n).set q u := by
  rw [List.take_set]
/-- A store into the first row. -/
theorem Apart.store {g cap q : Nat} {u : Value} (h : Apart w base (r :: R)) (hv : r.v = .slice (some ⟨g, 0, none⟩) r.n cap) : Apart (w.setCell ⟨g, q, none⟩ u) base ({ r with cs := r.cs.set q u } :: R) := by
  have hk : r.v.ownBlock = some g := by rw [hv]; rfl
  refine ⟨fun x hx => ?_, h.2⟩
  rcases List.mem_cons.1 hx with rfl | hx
  · have hr := h.head
    rcases hr.2 with ⟨e, _⟩ | ⟨g', cap', cur, e, hb, hg, h1, h2, h3, h4⟩
    · rw [hv] at e; cases e
    · have e2 := e
      rw [hv] at e2
      cases e2
      refine ⟨?_, .inr ⟨g, cap, cur.setIfInBounds q u, e, hb, ?_, h1, h2, by simpa using h3, ?_⟩⟩
      · show (r.cs.set q u).length = _
        rw [List.length_set]; exact hr.1
      · simp [World.setCell, Array.getElem?_modify, hg]
      · show (cur.setIfInBounds q u).toList.take (r.n * r.size) = r.cs.set q u
        rw [Array.toList_setIfInBounds, set_take, h4]
  · have ho := h.other hx
    have hr := h.1 x (by simp [hx])
    rcases hr.2 with e | ⟨g', cap', cur, e, hb, hg, k⟩
    · exact ⟨hr.1, .inl e⟩
    · refine ⟨hr.1, .inr ⟨g', cap', cur, e, hb, ?_, k⟩⟩
      have hne : g' ≠ g := by
        intro e2; subst e2
        rw [e, hk] at ho
        simp [Value.ownBlock] at ho
      exact (Below.heap_setCell w ⟨g, q, none⟩ u g' hne).trans hg

/-! ### append -/
/-- 'append' to an own row leaves its block, or takes a new one. -/
theorem append_block {P : Program} (w : World) (base : Nat) (t ty e : TypeId) (i : TypeInfo) (z : Value) (ht : P.underlying t = some (.slice e)) (hi : P.info? e = some i) (hz : i.zero = some z)
    (v : Value) (n : Nat) (xs : List Value) (hown : w.ownsRow base e i.size v n xs) (a : Addr) (m c : Nat) (news : List Value) (hl : news.length = m * i.size) (hnews : ∀ j u, news[j]? = some u → w.cell? (a.add j) = some u) (h1 : ∀ u ∈ news, u.oneCell' = true)
    (hm : 0 < m) (h63 : n + m ≤ 9223372036854775807) (hbytes : (n + m) * i.bytes ≤ 140737488355328) :
    ∃ v' w', (Builtin.append_ #[t, t] ty #[v, .slice (some a) m c]).run P w = .ok v' w' ∧ (v'.ownBlock = v.ownBlock ∨ v'.ownBlock = some w.heap.size) := by
  rcases hown.2 with ⟨rfl, rfl⟩ | ⟨g, cap, cur, rfl, _, hg, hnc, _, hcs, _⟩
  · refine ⟨_, _, run_append_nil (P := P) w t ty e i z ht hi hz a m c news hl hnews hm (by omega) ?_, .inr rfl⟩
    rw [Nat.zero_add] at hbytes
    omega
  · by_cases hroom : n + m ≤ cap
    · have hfit : n * i.size + news.length ≤ cur.size := by
        rw [hl, hcs, ← Nat.add_mul]
        exact Nat.mul_le_mul_right _ hroom
      exact ⟨_, _, run_append_room (P := P) w t ty e i ht hi g n cap cur hg a m c news hl hnews h1 hroom hfit, .inl rfl⟩
    · exact ⟨_, _, run_append_grow (P := P) w t ty e i z ht hi hz ⟨g, 0, none⟩ n cap xs hown.1 (hown.cells (g := g) rfl) a m c news hl hnews (by omega) (by omega) (growslice_fits (by omega) hbytes), .inr rfl⟩

/-- 'append(s, x)' of one element laid in a new block: the first row grows, the others stand. -/
theorem wpList_grow {P : Program} {w : World} {ops : Array Oper} {rest : List Oper} {o : Oper} {a : Act} {Q : Exit → Act → World → Prop} {R : List Rec} (hgd : o.guard = none) (s x : Operand) (t : TypeId)
    (ho : o.op = .call { callee := .builtin .append, args := #[s, x], argTypes := #[t, t] })
    (base : Nat) (r : Rec) (i : TypeInfo) (z : Value) (bytes : Nat) (ht : P.underlying t = some (.slice r.t)) (hi : P.info? r.t = some i) (hz : i.zero = some z)
    (hsize : i.size = r.size) (hby : i.bytes = bytes) (hzs : z.cells.size = r.size) (hsz : 0 < r.size)
    (hs : a.eval s = r.v) (hown : Apart w base (r :: R))
    (news : List Value) (k : Nat) (hkw : k = w.heap.size) (hx : a.eval x = .slice (some ⟨k, 0, none⟩) 1 1) (hl : news.length = r.size) (h1 : ∀ u ∈ news, u.oneCell' = true)
    (h63 : r.n + 1 ≤ 9223372036854775807) (hbytes : (r.n + 1) * bytes ≤ 140737488355328) (hbase : base ≤ w.heap.size)
    (h : ∀ v' w', Apart w' base (⟨r.t, r.size, v', r.n + 1, r.cs ++ news⟩ :: R) → Below base w w' → wpList P ops Q rest (a.put o.dst v') w') :
    wpList P ops Q (o :: rest) a (w.alloc (.cells news.toArray r.t)) := by
  subst hkw
  have ho2 : (w.alloc (.cells news.toArray r.t)).ownsRow base r.t r.size r.v r.n r.cs := World.ownsRow.alloc hown.head _
  have hnews : ∀ j u, news[j]? = some u → (w.alloc (.cells news.toArray r.t)).cell? ((⟨w.heap.size, 0, none⟩ : Addr).add j) = some u := by
    intro j u hu
    have e1 : (⟨w.heap.size, 0, none⟩ : Addr).add j = ⟨w.heap.size, j, none⟩ := by unfold Addr.add; split <;> simp_all
    rw [e1, (Own.made w r.t news).cell]
    exact hu
  refine wpList_plain hgd fun K hK => ?_
  obtain ⟨v', w', hr, h2, h3, _⟩ := run_append_own (P := P) (w.alloc (.cells news.toArray r.t)) base t o.type r.t i z r.size bytes ht hi hz hsize hby hzs hsz r.v r.n r.cs ho2 ⟨w.heap.size, 0, none⟩ 1 1 news (by omega) hnews h1 (by unfold maxLen; omega) hbytes (by simp; omega)
  obtain ⟨v2, w2, hr2, h4⟩ := append_block (P := P) (w.alloc (.cells news.toArray r.t)) base t o.type r.t i z ht hi hz r.v r.n r.cs (by rw [hsize]; exact ho2) ⟨w.heap.size, 0, none⟩ 1 1 news (by omega) hnews h1 (by omega) h63 (by rw [hby]; exact hbytes)
  have hb : Below w.heap.size w (w.alloc (.cells news.toArray r.t)) := (Below.refl _ _).alloc (Nat.le_refl _) _
  have e : v2 = v' := by
    rw [hr] at hr2
    injection hr2 with e1 _
    exact e1.symm
  subst e
  have ha := (hown.below hb).grow h3 h2 (by
    rcases h4 with h4 | h4
    · exact .inl h4
    · right; intro k hk; rw [h4] at hk; injection hk with hk; subst hk; exact Nat.le_refl _)
  have hb2 : Below base w w' := (hb.mono hbase).grown h3 (by simp; omega) fun k hk => (World.ownsRow.lt ho2 k hk).1
  unfold Oper.wp execOp
  simp only [ho, resolve, invoke, builtin, Sem.run_bind, Sem.run_pure, Result.andThen_ok, List.map_toArray, List.map_cons, List.map_nil, hs, hx, hr]
  exact hK _ _ (h v2 w' ha hb2)

/-! ### read -/
/-- An own row, read as things. -/
theorem Rec.on.row {α : Type} {hi : Nat} {P : List Value → α → Prop} {xs : List α} {ys : List (List Value)} (h : r.on w base) (hh : w.heap.size ≤ hi) (hn : r.n ≤ 4611686018427387903) (hx : r.n = xs.length) (hy : ys.length = xs.length) (hc : r.cs = ys.flatten)
    (hp : ∀ (i : Nat) (c : List Value) (x : α), ys[i]? = some c → xs[i]? = some x → c.length = r.size ∧ P c x) : Api.Row base hi w r.size P r.v xs := by
  rcases h.2 with ⟨e, h0⟩ | ⟨g, cap, cur, e, hb, hg, h1, h2, h3, h4⟩
  · refine ⟨none, 0, 0, 0, 0, e, by omega, by omega, by omega, fun i x hx' => ?_⟩
    have := (List.getElem?_eq_some_iff.1 hx').1
    omega
  · refine ⟨_, r.n, cap, g, 0, e, hx, ⟨hn, h1⟩, fun _ => ⟨rfl, hb, Nat.lt_of_lt_of_le (Array.getElem?_eq_some_iff.1 hg).1 hh⟩, fun i x hx' => ?_⟩
    have hi' := (List.getElem?_eq_some_iff.1 hx').1
    have hyi : ys[i]? = some (ys[i]'(by omega)) := List.getElem?_eq_getElem (by omega)
    obtain ⟨p1, p2⟩ := hp i _ x hyi hx'
    refine ⟨_, p1, fun j u hj => ?_, p2⟩
    have hall : ∀ (zs : List (List Value)) (i : Nat) (c : List Value), (∀ (k : Nat) (c' : List Value), zs[k]? = some c' → c'.length = r.size) → zs[i]? = some c → ∀ (j : Nat) (u : Value), c[j]? = some u → zs.flatten[i * r.size + j]? = some u := by
      intro zs
      induction zs with
      | nil => intro i c _ hc; simp at hc
      | cons a zs ih =>
        intro i c hl hc j u hj
        have ha := hl 0 a rfl
        cases i with
        | zero =>
          simp at hc; subst hc
          rw [List.flatten_cons, Nat.zero_mul, Nat.zero_add, List.getElem?_append_left (List.getElem?_eq_some_iff.1 hj).1]
          exact hj
        | succ i =>
          rw [List.flatten_cons, List.getElem?_append_right (by rw [ha, Nat.succ_mul]; omega)]
          have e1 : (i + 1) * r.size + j - a.length = i * r.size + j := by rw [ha, Nat.succ_mul]; omega
          rw [e1]
          exact ih i c (fun k c' hk => hl (k + 1) c' (by simpa using hk)) (by simpa using hc) j u hj
    have hlen : ∀ (k : Nat) (c' : List Value), ys[k]? = some c' → c'.length = r.size := fun k c' hk => by
      have hk' := (List.getElem?_eq_some_iff.1 hk).1
      exact (hp k c' (xs[k]'(by omega)) hk (List.getElem?_eq_getElem (by omega))).1
    have hu := hall ys i _ hlen hyi j u hj
    rw [← hc] at hu
    have := World.ownsRow.cells h (g := g) (by rw [e]; rfl) _ _ hu
    have e1 : (⟨g, 0, none⟩ : Addr).add (i * r.size + j) = ⟨g, 0 + i * r.size + j, none⟩ := by unfold Addr.add; split <;> simp_all
    rw [e1] at this
    exact this
end Go.Proofs.YtikfncgdjnljiaaDoor.Hold
