/-
  Layer 11: a row that is read, appended to a row of the call's own, others standing beside it. No program is named here.
-/
import Derived.Deep.Upon
import Derived.Test.YtiohngbmddfgfaaHold
namespace Go.Proofs.Ytiohngbmddfgfaa.Lp11
open Go.RowKit Mem Hold

theorem run_none {P : Program} (w : World) (t ty e : TypeId) (i : TypeInfo) (ht : P.underlying t = some (.slice e)) (hi : P.info? e = some i) (B A : Option Addr) (n cap c : Nat) (hle : n ≤ cap) :
    (Builtin.append_ #[t, t] ty #[.slice B n cap, .slice A 0 c]).run P w = .ok (.slice B n cap) w := by
  cases B <;> cases A <;> simp [Builtin.append_, run_underlying ht, sizeOf, typeInfo, hi, Builtin.lenOf, Builtin.firstCells, loadCells, loadCellsFrom, storeCells, hle]
theorem wpList_readA {P : Program} {w : World} {ops : Array Oper} {rest : List Oper} {o : Oper} {a : Act} {Q : Exit → Act → World → Prop} {R : List Rec} (hgd : o.guard = none) (s x : Operand) (t : TypeId)
    (ho : o.op = .call { callee := .builtin .append, args := #[s, x], argTypes := #[t, t] })
    (base : Nat) (r : Rec) (i : TypeInfo) (z : Value) (bytes : Nat) (ht : P.underlying t = some (.slice r.t)) (hi : P.info? r.t = some i) (hz : i.zero = some z)
    (hsize : i.size = r.size) (hby : i.bytes = bytes) (hzs : z.cells.size = r.size) (hsz : 0 < r.size)
    (hs : a.eval s = r.v) (hown : Apart w base (r :: R))
    (A : Option Addr) (m c : Nat) (news : List Value) (hx : a.eval x = .slice A m c) (hl : news.length = m * r.size) (hA : 0 < m → ∃ b off, A = some ⟨b, off, none⟩ ∧ ∀ j u, news[j]? = some u → w.cell? ⟨b, off + j, none⟩ = some u) (h1 : ∀ u ∈ news, u.oneCell' = true)
    (h63 : r.n + m ≤ 9223372036854775807) (hbytes : (r.n + m) * bytes ≤ 140737488355328) (hbase : base ≤ w.heap.size)
    (h : ∀ v' w', Apart w' base (⟨r.t, r.size, v', r.n + m, r.cs ++ news⟩ :: R) → Below base w w' → wpList P ops Q rest (a.put o.dst v') w') :
    wpList P ops Q (o :: rest) a w := by
  refine wpList_plain hgd fun K hK => ?_
  by_cases hm : m = 0
  · subst hm
    obtain rfl : news = [] := List.eq_nil_of_length_eq_zero (by simpa using hl)
    obtain ⟨B, cap, e, hle⟩ : ∃ B cap, r.v = .slice B r.n cap ∧ r.n ≤ cap := by
      rcases hown.head.2 with ⟨e, h0⟩ | ⟨g, cap, cur, e, _, _, k, _⟩
      · exact ⟨none, 0, by rw [e, h0], by omega⟩
      · exact ⟨_, cap, e, k⟩
    have hr := run_none (P := P) w t o.type r.t i ht hi B A r.n cap c hle
    unfold Oper.wp execOp
    simp only [ho, resolve, invoke, builtin, Sem.run_bind, Sem.run_pure, Result.andThen_ok, List.map_toArray, List.map_cons, List.map_nil, hs, hx, e, hr]
    refine hK _ _ (h _ w ?_ (Below.refl _ _))
    rw [← e]
    have : (⟨r.t, r.size, r.v, r.n + 0, r.cs ++ []⟩ : Rec) = r := by simp
    rw [this]
    exact hown
  · obtain ⟨b, off, rfl, hc⟩ := hA (by omega)
    have hnews : ∀ j u, news[j]? = some u → w.cell? ((⟨b, off, none⟩ : Addr).add j) = some u := by
      intro j u hu
      have e1 : (⟨b, off, none⟩ : Addr).add j = ⟨b, off + j, none⟩ := by unfold Addr.add; split <;> simp_all
      rw [e1]
      exact hc j u hu
    obtain ⟨v', w', hr, h2, h3, _⟩ := run_append_own (P := P) w base t o.type r.t i z r.size bytes ht hi hz hsize hby hzs hsz r.v r.n r.cs hown.head ⟨b, off, none⟩ m c news hl hnews h1 (by unfold maxLen; omega) hbytes hbase
    obtain ⟨v2, w2, hr2, h4⟩ := append_block (P := P) w base t o.type r.t i z ht hi hz r.v r.n r.cs (by rw [hsize]; exact hown.head) ⟨b, off, none⟩ m c news (by rw [hsize]; exact hl) hnews h1 (by omega) h63 (by rw [hby]; exact hbytes)
    have e : v2 = v' := by
      rw [hr] at hr2
      injection hr2 with e1 _
      exact e1.symm
    subst e
    have ha := hown.grow h3 h2 (by
      rcases h4 with h4 | h4
      · exact .inl h4
      · right; intro k hk; rw [h4] at hk; injection hk with hk; omega)
    have hb2 : Below base w w' := (Below.refl base w).grown h3 hbase fun k hk => (World.ownsRow.lt hown.head k hk).1
    unfold Oper.wp execOp
    simp only [ho, resolve, invoke, builtin, Sem.run_bind, Sem.run_pure, Result.andThen_ok, List.map_toArray, List.map_cons, List.map_nil, hs, hx, hr]
    exact hK _ _ (h v2 w' ha hb2)
/-- a row of the call's own, cut by its last one. -/
theorem apart_cut {w : World} {base g n cap : Nat} {t : TypeId} {cs : List Value} {R : List Rec} (h : Apart w base (⟨t, 1, .slice (some ⟨g, 0, none⟩) (n + 1) cap, n + 1, cs⟩ :: R)) : Apart w base (⟨t, 1, .slice (some ⟨g, 0, none⟩) n cap, n, cs.take n⟩ :: R) := by
  refine ⟨fun r hr => ?_, ?_⟩
  · rcases List.mem_cons.1 hr with rfl | hr
    · have h1 := h.head
      rcases h1.2 with ⟨e, _⟩ | ⟨g', cap', cur, e, hb, hg, k1, k2, k3, k4⟩
      · cases e
      · have e2 : Value.slice (some ⟨g, 0, none⟩) (n + 1) cap = .slice (some ⟨g', 0, none⟩) (n + 1) cap' := e
        simp only [Value.slice.injEq, Option.some.injEq, Addr.mk.injEq, and_true, true_and] at e2
        obtain ⟨rfl, rfl⟩ := e2
        have hl : cs.length = (n + 1) * 1 := h1.1
        have k4' : cur.toList.take ((n + 1) * 1) = cs := k4
        have k1' : n + 1 ≤ cap := k1
        refine ⟨by show (cs.take n).length = n * 1; rw [List.length_take]; omega, .inr ⟨g, cap, cur, rfl, hb, hg, by show n ≤ cap; omega, k2, k3, ?_⟩⟩
        show cur.toList.take (n * 1) = cs.take n
        rw [← k4', List.take_take]
        congr 1
        omega
    · exact h.1 r (by simp [hr])
  · exact h.2
end Go.Proofs.Ytiohngbmddfgfaa.Lp11
