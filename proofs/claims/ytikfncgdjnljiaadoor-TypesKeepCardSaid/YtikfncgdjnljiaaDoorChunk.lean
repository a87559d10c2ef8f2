/-
  Rows of structs: their cells one behind the other; appended rows are read as the things of both.
-/
import Derived.Test.YtikfncgdjnljiaaDoorPlainS
import Derived.Test.YtikfncgdjnljiaaDoorMem
import Derived.Laws.OwnMore
namespace Go.Proofs.YtikfncgdjnljiaaDoor.Chk
open Go.RowKit Api Mem

/-- Cells of so many things, one behind the other. -/
def Chunks {α : Type} (size : Nat) (P : List Value → α → Prop) (cs : List Value) (xs : List α) : Prop :=
  cs.length = xs.length * size ∧ ∀ i x, xs[i]? = some x → ∃ ds, ds.length = size ∧ (∀ j u, ds[j]? = some u → cs[i * size + j]? = some u) ∧ P ds x
theorem Chunks.nil {α : Type} (size : Nat) (P : List Value → α → Prop) : Chunks size P [] ([] : List α) := ⟨by simp, fun i x h => by simp at h⟩
theorem Chunks.one {α : Type} {size : Nat} {P : List Value → α → Prop} {cs : List Value} {x : α} (h : cs.length = size) (hp : P cs x) : Chunks size P cs [x] := by
  refine ⟨by simp [h], fun i y hy => ?_⟩
  match i, hy with
  | 0, hy =>
    obtain rfl : x = y := by simpa using hy
    exact ⟨cs, h, fun j u hj => by simpa using hj, hp⟩
  | i + 1, hy => simp at hy
theorem Chunks.app {α : Type} {size : Nat} {P : List Value → α → Prop} {cs ds : List Value} {xs ys : List α} (h : Chunks size P cs xs) (g : Chunks size P ds ys) : Chunks size P (cs ++ ds) (xs ++ ys) := by
  refine ⟨by rw [List.length_append, List.length_append, h.1, g.1, Nat.add_mul], fun i x hx => ?_⟩
  rw [List.getElem?_append] at hx
  split at hx
  · rename_i hlt
    obtain ⟨es, h1, h2, h3⟩ := h.2 i x hx
    refine ⟨es, h1, fun j u hj => ?_, h3⟩
    have := h2 j u hj
    rw [List.getElem?_append_left (List.getElem?_eq_some_iff.1 this).1]
    exact this
  · rename_i hge
    obtain ⟨es, h1, h2, h3⟩ := g.2 _ x hx
    refine ⟨es, h1, fun j u hj => ?_, h3⟩
    have e : i * size = xs.length * size + (i - xs.length) * size := by rw [← Nat.add_mul]; congr 1; omega
    rw [List.getElem?_append_right (by rw [h.1, e]; omega), h.1, e, show xs.length * size + (i - xs.length) * size + j - xs.length * size = (i - xs.length) * size + j by omega]
    exact h2 j u hj
theorem Chunks.mono {α : Type} {size : Nat} {P Q : List Value → α → Prop} {cs : List Value} {xs : List α} (h : Chunks size P cs xs) (hp : ∀ ds x, P ds x → Q ds x) : Chunks size Q cs xs :=
  ⟨h.1, fun i x hx => by obtain ⟨ds, h1, h2, h3⟩ := h.2 i x hx; exact ⟨ds, h1, h2, hp ds x h3⟩⟩
theorem join_all {size : Nat} (Q : Nat → List Value → Prop) : ∀ n, (∀ i, i < n → ∃ ds, ds.length = size ∧ Q i ds) → ∃ cs : List Value, cs.length = n * size ∧ ∀ i, i < n → ∃ ds, ds.length = size ∧ (∀ j u, ds[j]? = some u → cs[i * size + j]? = some u) ∧ Q i ds
  | 0, _ => ⟨[], by simp, fun i hi => by omega⟩
  | n + 1, h => by
    obtain ⟨cs, h1, h2⟩ := join_all Q n fun i hi => h i (by omega)
    obtain ⟨ds, h3, h4⟩ := h n (by omega)
    refine ⟨cs ++ ds, by rw [List.length_append, h1, h3, Nat.succ_mul], fun i hi => ?_⟩
    by_cases hlt : i < n
    · obtain ⟨es, g1, g2, g3⟩ := h2 i hlt
      refine ⟨es, g1, fun j u hj => ?_, g3⟩
      have := g2 j u hj
      rw [List.getElem?_append_left (List.getElem?_eq_some_iff.1 this).1]
      exact this
    · obtain rfl : i = n := by omega
      refine ⟨ds, h3, fun j u hj => ?_, h4⟩
      rw [List.getElem?_append_right (by rw [h1]; omega), h1, show i * size + j - i * size = j by omega]
      exact hj
variable {α : Type} {w : World} {lo hi size : Nat} {P : List Value → α → Prop} {v : Value} {xs : List α}
/-- A row that is read, as cells. -/
theorem of_row {A : Option Addr} {n cap : Nat} (h : Row lo hi w size P (.slice A n cap) xs) (hs : 0 < size) : ∃ cs b off, Chunks size P cs xs ∧ n = xs.length ∧ (0 < n → A = some ⟨b, off, none⟩ ∧ lo ≤ b ∧ b < hi) ∧ ∀ j u, cs[j]? = some u → w.cell? ⟨b, off + j, none⟩ = some u := by
  obtain ⟨b, off, hn, hm, ha, hc⟩ := h.get
  obtain ⟨cs, h1, h2⟩ := join_all (size := size) (fun i ds => ∃ x, xs[i]? = some x ∧ (∀ j u, ds[j]? = some u → w.cell? ⟨b, off + i * size + j, none⟩ = some u) ∧ P ds x) n (fun i hi => by
    obtain ⟨x, hx⟩ : ∃ x, xs[i]? = some x := ⟨_, List.getElem?_eq_getElem (by omega)⟩
    obtain ⟨ds, d1, d2, d3⟩ := hc i x hx
    exact ⟨ds, d1, x, hx, d2, d3⟩)
  refine ⟨cs, b, off, ⟨by rw [h1, hn], fun i x hx => ?_⟩, hn, ha, fun m u hu => ?_⟩
  · obtain ⟨ds, d1, d2, y, hy, d3, d4⟩ := h2 i (by have := (List.getElem?_eq_some_iff.1 hx).1; omega)
    rw [hx] at hy
    obtain rfl := Option.some.inj hy
    exact ⟨ds, d1, d2, d4⟩
  · have hlt := (List.getElem?_eq_some_iff.1 hu).1
    rw [h1] at hlt
    have hi : m / size < n := Nat.div_lt_of_lt_mul (by rw [Nat.mul_comm]; exact hlt)
    obtain ⟨ds, d1, d2, y, hy, d3, d4⟩ := h2 (m / size) hi
    have hj : m % size < size := Nat.mod_lt _ hs
    obtain ⟨z, hz⟩ : ∃ z, ds[m % size]? = some z := ⟨_, List.getElem?_eq_getElem (by rw [d1]; exact hj)⟩
    have e : m / size * size + m % size = m := by rw [Nat.mul_comm]; exact Nat.div_add_mod m size
    have g1 := d2 _ z hz
    rw [e, hu] at g1
    obtain rfl := Option.some.inj g1
    have g2 := d3 _ u hz
    rwa [Nat.add_assoc, e] at g2
/-- A row of the call's own, as it is read. -/
theorem to_row {base : Nat} {e : TypeId} {cs : List Value} {n : Nat} (h : w.ownsRow base e size v n cs) (hc : Chunks size P cs xs) (hs : 0 < size) (hn : xs.length ≤ 4611686018427387903) (hh : w.heap.size ≤ hi) (hl : lo ≤ base) : Row lo hi w size P v xs := by
  have hlen : n = xs.length := by
    have h1 := h.1
    rw [hc.1] at h1
    exact (Nat.eq_of_mul_eq_mul_right hs h1).symm
  rcases h.2 with ⟨rfl, h0⟩ | ⟨g, cap, cur, rfl, hb, hg, hnc, hcm, hcs, ht⟩
  · refine ⟨none, 0, 0, 0, 0, rfl, by omega, by omega, by omega, fun i x hx => ?_⟩
    have := (List.getElem?_eq_some_iff.1 hx).1
    omega
  · refine ⟨_, n, cap, g, 0, rfl, hlen, ⟨by omega, hnc⟩, fun _ => ⟨rfl, by omega, Nat.lt_of_lt_of_le (Array.getElem?_eq_some_iff.1 hg).1 hh⟩, fun i x hx => ?_⟩
    obtain ⟨ds, d1, d2, d3⟩ := hc.2 i x hx
    refine ⟨ds, d1, fun j u hj => ?_, d3⟩
    have := h.cells (g := g) rfl (i * size + j) u (d2 j u hj)
    have e : (⟨g, 0, none⟩ : Addr).add (i * size + j) = ⟨g, 0 + i * size + j, none⟩ := by unfold Addr.add; split <;> simp_all
    rw [e] at this
    exact this
/-- Without its first thing, a row. -/
theorem row_tail {b off n cap c : Nat} {x : α} {ys : List α} (h : Row lo hi w size P (.slice (some ⟨b, off, none⟩) n cap) (x :: ys)) (hc2 : n - 1 ≤ c) : Row lo hi w size P (.slice (some ⟨b, off + size, none⟩) (n - 1) c) ys := by
  obtain ⟨A', n', cap', b', off', e, hn, hm, ha, hc⟩ := h
  simp only [Value.slice.injEq] at e
  obtain ⟨e1, rfl, rfl⟩ := e
  have hpos : 0 < n := by rw [hn]; simp
  obtain ⟨e2, h1, h2⟩ := ha hpos
  rw [e2] at e1
  simp only [Option.some.injEq, Addr.mk.injEq, and_true] at e1
  obtain ⟨rfl, rfl⟩ := e1
  refine ⟨_, n - 1, c, b, off + size, rfl, by rw [hn]; simp, ⟨by omega, hc2⟩, fun _ => ⟨rfl, h1, h2⟩, fun i y hy => ?_⟩
  obtain ⟨ds, d1, d2, d3⟩ := hc (i + 1) y (by simpa using hy)
  refine ⟨ds, d1, fun j u hj => ?_, d3⟩
  have := d2 j u hj
  rw [Nat.succ_mul] at this
  have e3 : off + size + i * size + j = off + (i * size + size) + j := by omega
  rw [e3]
  exact this
theorem ones_of {cs : List Value} (h : Chunks size P cs xs) (hs : 0 < size) (hp : ∀ ds x, P ds x → ∀ u ∈ ds, u.oneCell' = true) : ∀ u ∈ cs, u.oneCell' = true := by
  intro u hu
  obtain ⟨m, hm⟩ := List.getElem?_of_mem hu
  have hlt := (List.getElem?_eq_some_iff.1 hm).1
  rw [h.1] at hlt
  have hi : m / size < xs.length := Nat.div_lt_of_lt_mul (by rw [Nat.mul_comm]; exact hlt)
  obtain ⟨ds, d1, d2, d3⟩ := h.2 (m / size) _ (List.getElem?_eq_getElem hi)
  have hj : m % size < size := Nat.mod_lt _ hs
  obtain ⟨z, hz⟩ : ∃ z, ds[m % size]? = some z := ⟨_, List.getElem?_eq_getElem (by rw [d1]; exact hj)⟩
  have e : m / size * size + m % size = m := by rw [Nat.mul_comm]; exact Nat.div_add_mod m size
  have g1 := d2 _ z hz
  rw [e, hm] at g1
  obtain rfl := Option.some.inj g1
  exact hp ds _ d3 u (List.mem_of_getElem? hz)
theorem ones_slice {α : Type} {lo hi size : Nat} {w : World} {P : List Value → α → Prop} {v : Value} {xs : List α} (h : Row lo hi w size P v xs) : v.oneCell' = true := by
  obtain ⟨A, cap, rfl⟩ := h.form
  rfl
theorem ones_block {lo hi : Nat} {w : World} (ds : List Value) (x : Api.Block) (h : BlockC lo hi w ds x) : ∀ u ∈ ds, u.oneCell' = true := by
  obtain ⟨u1, u2, cs2, rfl, h1, h2, u3, rfl, h3⟩ := h
  intro u hu
  simp only [List.mem_cons, List.not_mem_nil, or_false] at hu
  rcases hu with rfl | rfl | rfl | rfl | rfl | rfl | rfl | rfl | rfl
  · rfl
  · exact ones_slice h1
  · exact ones_slice h2
  · rfl
  · rfl
  · rfl
  · rfl
  · exact ones_slice h3
  · rfl
theorem ones_func {lo hi : Nat} {w : World} (ds : List Value) (x : Api.Func) (h : FuncC lo hi w ds x) : ∀ u ∈ ds, u.oneCell' = true := by
  obtain ⟨u1, u2, u3, rfl, h1, h2, h3⟩ := h
  intro u hu
  simp only [List.mem_cons, List.not_mem_nil, or_false] at hu
  rcases hu with rfl | rfl | rfl | rfl | rfl
  · rfl
  · rfl
  · exact ones_slice h1
  · exact ones_slice h2
  · exact ones_slice h3
end Go.Proofs.YtikfncgdjnljiaaDoor.Chk
