/-
  Package show: the words of instructions, walked.
-/
import Derived.Test.YtikfncgdjnljiaaDoorWords9
namespace Go.Proofs.YtikfncgdjnljiaaDoor.Sh6
open Go.RowKit Api Syn WordM Mem Rd5

/-- a row's first things, and those behind them. -/
theorem args_take {lo hi : Nat} {w : World} {A : Option Addr} {n cap k : Nat} {l : List Arg} (h : Args lo hi w (.slice A n cap) l) (hk : k ≤ n) (_ : n ≤ cap) : Args lo hi w (.slice A k cap) (l.take k) := by
  obtain ⟨A', n', cap', b, off, e, hn, hm, ha, hc⟩ := h
  cases e
  exact ⟨A, k, cap, b, off, rfl, by rw [List.length_take]; omega, by omega, fun h0 => ha (by omega), fun i x hx => hc i x (by
    rw [List.getElem?_take] at hx
    split at hx
    · exact hx
    · cases hx)⟩
theorem args_drop {lo hi : Nat} {w : World} {b off n cap k c : Nat} {l : List Arg} (h : Args lo hi w (.slice (some ⟨b, off, none⟩) n cap) l) (hk : k ≤ n) (h0 : 0 < n) (hc2 : n - k ≤ c) : Args lo hi w (.slice (some ⟨b, off + k * 3, none⟩) (n - k) c) (l.drop k) := by
  obtain ⟨A', n', cap', b', off', e, hn, hm, ha, hc⟩ := h
  cases e
  obtain ⟨e, h1, h2⟩ := ha (by omega)
  simp only [Option.some.injEq, Addr.mk.injEq, and_true] at e
  obtain ⟨rfl, rfl⟩ := e
  refine ⟨_, n - k, c, b, off + k * 3, rfl, by rw [List.length_drop]; omega, by omega, fun _ => ⟨rfl, by omega, by omega⟩, fun i x hx => ?_⟩
  rw [List.getElem?_drop] at hx
  obtain ⟨cs, c1, c2, c3⟩ := hc (k + i) x hx
  refine ⟨cs, c1, fun j u hj => ?_, c3⟩
  rw [← c2 j u hj]
  congr 2
  rw [Nat.add_mul]
  omega
theorem args_end {lo hi : Nat} {w : World} {A A2 : Option Addr} {n cap : Nat} {l : List Arg} (h : Args lo hi w (.slice A n cap) l) (hc : cap - 1 = 0) (hk : 1 ≤ n) (hn : n ≤ cap) : Args lo hi w (.slice A2 (n - 1) 0) (l.drop 1) := by
  obtain ⟨A', n', cap', b', off', e, hn', hm, ha, hc'⟩ := h
  cases e
  have e1 : l.drop 1 = [] := List.drop_eq_nil_of_le (by omega)
  rw [e1]
  exact ⟨A2, n - 1, 0, 0, 0, rfl, by simp; omega, by omega, fun h0 => absurd h0 (by omega), fun i x hx => by simp at hx⟩
theorem row_eq {w : World} {b n m : Nat} {v : Value} {xs ys : List Value} (h : w.ownsRow b 9 1 v n xs) (hn : n = m) (hx : xs = ys) : w.ownsRow b 9 1 v m ys := by
  subst hn hx
  exact h
theorem keep_f {w w' : World} {base b n : Nat} {t : TypeId} {cs : List Value} {v : Value} {xs : List Value} (hO : Own w b t cs) (ht : t ≠ 9) (own : w.ownsRow base 9 1 v n xs) (hg : w.grownBy w' v.ownBlock) : Own w' b t cs := by
  refine (hg.block b hO.lt ?_).trans hO
  intro he
  rcases own.2 with ⟨rfl, _⟩ | ⟨g, cap, cur, rfl, hb, h2, _⟩
  · simp [Value.ownBlock] at he
  · simp only [Value.ownBlock, Option.some.injEq] at he
    subst he
    have h3 : some (Obj.cells cs.toArray t (0, 0)) = some (Obj.cells cur 9 (0, 0)) := hO.symm.trans h2
    simp only [Option.some.injEq, Obj.cells.injEq] at h3
    exact ht h3.2.1
/-- 'append(nil, x, ..)': the row is new, and the call's own. -/
theorem fresh_row {w1 q W : World} {base g c : Nat} (cs : List Value) (ws : List Wd) (hW : (w1.alloc (.cells (cs.toArray ++ Builtin.zeroCells #[.string ⟨#[]⟩] (c - ws.length)) 9)).drew = W) (hcs : cs = LinesM.strs ws) (h0 : 0 < ws.length) (hl : ws.length ≤ 100) (hb : base ≤ w1.heap.size) (hg : g = w1.heap.size) (hc : c = grownCap q ws.length 0 9) : W.ownsRow base 9 1 (.slice (some ⟨g, 0, none⟩) ws.length c) ws.length (LinesM.strs ws) := by
  subst hW hg hcs
  have h1 : ws.length ≤ c := by rw [hc]; exact grownCap_ge q _ 0 _
  have h2 : c ≤ maxLen := by rw [hc]; exact grownCap_le_maxLen q _ 0 _ (by unfold maxLen; omega)
  have e : (LinesM.strs ws).length = ws.length := by simp [LinesM.strs]
  refine ⟨by simp [e], .inr ⟨w1.heap.size, c, _, rfl, hb, heap_alloc_new w1 _, h1, h2, ?_, ?_⟩⟩
  · simp [Builtin.zeroCells, e]
    omega
  · simp [e]
/-- 'append(a, b...)', both rows the call's own, or nil: what else lies is as it was. -/
theorem wpList_rows {P : Program} {w : World} {ops : Array Oper} {rest : List Oper} {o : Oper} {a : Act} {Q : Exit → Act → World → Prop} (hgd : o.guard = none) (s x : Operand) (t : TypeId)
    (ho : o.op = .call { callee := .builtin .append, args := #[s, x], argTypes := #[t, t] })
    (base : Nat) (e : TypeId) (i : TypeInfo) (z : Value) (size bytes : Nat) (ht : P.underlying t = some (.slice e)) (hi : P.info? e = some i) (hz : i.zero = some z)
    (hsize : i.size = size) (hby : i.bytes = bytes) (hzs : z.cells.size = size) (hsz : 0 < size)
    (v : Value) (n : Nat) (xs : List Value) (hs : a.eval s = v) (hown : w.ownsRow base e size v n xs)
    (xv : Value) (m : Nat) (news : List Value) (hx : a.eval x = xv) (hxo : w.ownsRow base e size xv m news) (h1 : ∀ u ∈ news, u.oneCell' = true)
    (h63 : n + m ≤ maxLen) (hbytes : (n + m) * bytes ≤ 140737488355328) (hbase : base ≤ w.heap.size)
    (h : ∀ v' w', w'.ownsRow base e size v' (n + m) (xs ++ news) → w.grownBy w' v.ownBlock → wpList P ops Q rest (a.put o.dst v') w') :
    wpList P ops Q (o :: rest) a w := by
  rcases hxo.2 with ⟨hxn, hm⟩ | ⟨g, cap, cur, hxs, hbg, hg, hnc, hcm, hcs, htake⟩
  · subst hm
    have hn : news = [] := List.eq_nil_of_length_eq_zero (by simpa using hxo.1)
    subst hn
    refine wpList_append_own_none hgd s x t ho base e i size ht hi v n xs hs hown (by rw [hx, hxn]) ?_
    exact h v w (by simpa using hown) ⟨rfl, rfl, rfl, Nat.le_refl _, fun _ _ _ => rfl⟩
  · refine wpList_append_own (w := w) hgd s x t ho base e i z size bytes ht hi hz hsize hby hzs hsz v n xs hs hown ⟨g, 0, none⟩ m cap news (by rw [hx, hxs]) hxo.1 (hxo.cells (g := g) (by rw [hxs]; rfl)) h1 h63 hbytes hbase ?_
    intro v' w' h2 h3 _
    exact h v' w' h2 h3
theorem byt_empty {x : Wd} {s : ByteArray} (hs : s.data.toList = x) : s.toList.isEmpty = (x == []) := by
  rw [ByteArray.toList_eq, hs]; cases x <;> rfl
theorem form_top (op : Int) : (formV op).1.most ≤ 8 := by
  unfold formV
  split
  · simp
  · simp only
    repeat' split
    all_goals simp
theorem form_word {op : Int} (h : (formV op).2 = true) : (formV op).1.word = opWords.getD op.toNat [] := by
  unfold formV at h ⊢
  split at h
  · simp at h
  · rename_i h1
    rw [if_neg h1]
theorem ahead_form {op : Int} (h : (formV op).2 = true) : aheadV op = 0 ∨ (aheadV op = 1 ∧ 1 ≤ (formV op).1.least) := by
  unfold aheadV
  split
  · rename_i h1
    refine .inr ⟨rfl, ?_⟩
    rcases h1 with rfl | rfl
    · decide
    · decide
  · exact .inl rfl
end Go.Proofs.YtikfncgdjnljiaaDoor.Sh6
