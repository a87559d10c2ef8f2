/-
  Layer 8: rows of blocks that a statement makes: appended, cut, changed.
-/
import Derived.Test.YtdmjghhgmpnacaaShCome
import Derived.Test.YtdmjghhgmpnacaaChunk
namespace Go.Proofs.Ytdmjghhgmpnacaa.Sh8
open Go.RowKit Api Mem Go.Maps

theorem info_block : (Try.prog.info? 40).map (fun i => (i.zero, i.size, i.bytes)) = some (some (.agg #[.string ⟨#[]⟩, .slice none 0 0, .slice none 0 0, .int .i64 0, .int .i64 0, .string ⟨#[]⟩, .int .i64 0, .slice none 0 0, .int .i64 0]), 9, 136) := by kernel_rfl
/-- 'append(s, x...)' of cells that are read. -/
theorem read_own {P : Program} {w : World} {ops : Array Oper} {rest : List Oper} {o : Oper} {a : Go.Act} {Q : Exit → Go.Act → World → Prop} (hgd : o.guard = none) (s x : Operand) (t : TypeId)
    (ho : o.op = .call { callee := .builtin .append, args := #[s, x], argTypes := #[t, t] })
    (base : Nat) (e : TypeId) (z : Value) (size bytes : Nat) (ht : P.underlying t = some (.slice e)) (hinf : (P.info? e).map (fun i => (i.zero, i.size, i.bytes)) = some (some z, size, bytes)) (hzs : z.cells.size = size) (hsz : 0 < size)
    (v : Value) (n : Nat) (xs : List Value) (hs : a.eval s = v) (hown : w.ownsRow base e size v n xs)
    (b off m cap : Nat) (news : List Value) (hx : a.eval x = .slice (some ⟨b, off, none⟩) m cap) (hl : news.length = m * size) (hc : ∀ j u, news[j]? = some u → w.cell? ⟨b, off + j, none⟩ = some u) (h1 : ∀ u ∈ news, u.oneCell' = true)
    (h63 : n + m ≤ maxLen) (hbytes : (n + m) * bytes ≤ 140737488355328) (hbase : base ≤ w.heap.size)
    (h : ∀ v' w', w'.ownsRow base e size v' (n + m) (xs ++ news) → Below base w w' → wpList P ops Q rest (a.put o.dst v') w') :
    wpList P ops Q (o :: rest) a w := by
  obtain ⟨i, hi, hz0, hz1, hz2⟩ := info_parts hinf
  refine wpList_append_own (w := w) hgd s x t ho base e i z size bytes ht hi hz0 hz1 hz2 hzs hsz v n xs hs hown ⟨b, off, none⟩ m cap news hx hl (fun j u hu => ?_) h1 h63 hbytes hbase ?_
  · have e1 : (⟨b, off, none⟩ : Addr).add j = ⟨b, off + j, none⟩ := by unfold Addr.add; split <;> simp_all
    rw [e1]; exact hc j u hu
  · intro v' w' h2 h3 _
    exact h v' w' h2 ((Below.refl base w).grown h3 hbase (fun k hk => (hown.lt k hk).1))
/-- .. as a step of a region that draws. -/
theorem step_own {P : Program} {ops : Array Oper} {o : Oper} {a : Go.Act} {w : World} {K : Go.Act → World → Prop} {Q : Exit → Go.Act → World → Prop} {E : Prop} (hg : o.guard = none) (s x : Operand) (t : TypeId)
    (hop : o.op = Op.call { callee := Callee.builtin Builtin.append, args := #[s, x], argTypes := #[t, t] })
    (base : Nat) (e : TypeId) (z : Value) (size bytes : Nat) (ht : P.underlying t = some (.slice e)) (hinf : (P.info? e).map (fun i => (i.zero, i.size, i.bytes)) = some (some z, size, bytes)) (hzs : z.cells.size = size) (hsz : 0 < size)
    (v : Value) (n : Nat) (xs : List Value) (hs : a.eval s = v) (hown : w.ownsRow base e size v n xs)
    (b off m cap : Nat) (news : List Value) (hx : a.eval x = .slice (some ⟨b, off, none⟩) m cap) (hl : news.length = m * size) (hc : ∀ j u, news[j]? = some u → w.cell? ⟨b, off + j, none⟩ = some u) (h1 : ∀ u ∈ news, u.oneCell' = true)
    (h63 : n + m ≤ maxLen) (hbytes : (n + m) * bytes ≤ 140737488355328) (hbase : base ≤ w.heap.size)
    (hK : ∀ v' w', w'.ownsRow base e size v' (n + m) (xs ++ news) → Below base w w' → K (a.put o.dst v') w') :
    if Region.wanted o (yielded ops a.tmps) = true then Oper.wp P o a w K Q else E := by
  have hwt : Region.wanted o (yielded ops a.tmps) = true := by simp [Region.wanted, hg]
  rw [if_pos hwt]
  obtain ⟨i, hi, hz0, hz1, hz2⟩ := info_parts hinf
  refine wp_append_own (w := w) s x t hop base e i z size bytes ht hi hz0 hz1 hz2 hzs hsz v n xs hs hown ⟨b, off, none⟩ m cap news hx hl (fun j u hu => ?_) h1 h63 hbytes hbase ?_
  · have e1 : (⟨b, off, none⟩ : Addr).add j = ⟨b, off + j, none⟩ := by unfold Addr.add; split <;> simp_all
    rw [e1]; exact hc j u hu
  · intro v' w' h2 h3 _
    exact hK v' w' h2 ((Below.refl base w).grown h3 hbase (fun k hk => (hown.lt k hk).1))
theorem row_below {w w' : World} {base : Nat} {e : TypeId} {size : Nat} {v : Value} {n : Nat} {xs : List Value} (h : w.ownsRow base e size v n xs) (hb : Below w.heap.size w w') : w'.ownsRow base e size v n xs := by
  refine ⟨h.1, ?_⟩
  rcases h.2 with hn | ⟨k, cap, cur, rfl, hbk, hk, r⟩
  · exact .inl hn
  · exact .inr ⟨k, cap, cur, rfl, hbk, (hb.block k (Array.getElem?_eq_some_iff.1 hk).1).trans hk, r⟩
/-- an empty row that was just laid. -/
theorem row_laid {w w' : World} {e : TypeId} (base : Nat) (size : Nat) (h : w.alloc (.cells #[] e) = w') (hb : base ≤ w.heap.size) (b : Nat) (hbb : b = w.heap.size) : w'.ownsRow base e size (.slice (some ⟨b, 0, none⟩) 0 0) 0 [] := by
  subst h
  subst hbb
  exact World.ownsRow_lit w #[] 0 hb (by unfold maxLen; omega) (by simp)
theorem chunks_take {α : Type} {size : Nat} {P : List Value → α → Prop} {cs : List Value} {xs : List α} (h : Chk.Chunks size P cs xs) {k : Nat} (hk : k ≤ xs.length) : Chk.Chunks size P (cs.take (k * size)) (xs.take k) := by
  refine ⟨by rw [List.length_take, List.length_take, h.1, Nat.min_eq_left hk, Nat.min_eq_left (Nat.mul_le_mul_right _ hk)], fun i x hx => ?_⟩
  have hik : i < k := by
    have := (List.getElem?_eq_some_iff.1 hx).1
    rw [List.length_take] at this
    omega
  rw [List.getElem?_take_of_lt hik] at hx
  obtain ⟨ds, d1, d2, d3⟩ := h.2 i x hx
  refine ⟨ds, d1, fun j u hj => ?_, d3⟩
  have hjl : j < size := by rw [← d1]; exact (List.getElem?_eq_some_iff.1 hj).1
  have : i * size + j < k * size := by
    have h1 : (i + 1) * size ≤ k * size := Nat.mul_le_mul_right _ hik
    rw [Nat.succ_mul] at h1
    omega
  rw [List.getElem?_take_of_lt this]
  exact d2 j u hj
theorem chunks_drop {α : Type} {size : Nat} {P : List Value → α → Prop} {cs : List Value} {xs : List α} (h : Chk.Chunks size P cs xs) (k : Nat) : Chk.Chunks size P (cs.drop (k * size)) (xs.drop k) := by
  refine ⟨by rw [List.length_drop, List.length_drop, h.1, Nat.sub_mul], fun i x hx => ?_⟩
  rw [List.getElem?_drop] at hx
  obtain ⟨ds, d1, d2, d3⟩ := h.2 _ x hx
  refine ⟨ds, d1, fun j u hj => ?_, d3⟩
  have := d2 j u hj
  rw [Nat.add_mul, Nat.add_assoc] at this
  rw [List.getElem?_drop]
  exact this
theorem chunks_move {w w' : World} {hi : Nat} {cs : List Value} {xs : List Bl} (h : Chk.Chunks 9 (BlockC 0 hi w) cs xs) (hb : Below hi w w') {hi' : Nat} (hh : hi ≤ hi') : Chk.Chunks 9 (BlockC 0 hi' w') cs xs :=
  h.mono fun _ _ hx => BlockC.move (Still.wide w' (Nat.le_refl _) hh) (BlockC.move (Still.of_below hb) hx)
end Go.Proofs.Ytdmjghhgmpnacaa.Sh8
