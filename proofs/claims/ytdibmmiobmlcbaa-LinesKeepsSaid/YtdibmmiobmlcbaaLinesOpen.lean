/-
  An argument that is a row of lines, opened whole.
-/
import Derived.Test.YtdibmmiobmlcbaaProg
import Derived.Test.YtdibmmiobmlcbaaLinesMem
import Derived.Test.YtdibmmiobmlcbaaShell
import Derived.Deep.SlicePairs
import Derived.SliceStrings
import Derived.ProofKit
import Derived.OpenShut
import Derived.SizedLaws
namespace Go.Proofs.Ytdibmmiobmlcbaa
open Go.ChangeShapes Go.WideShapes Go.ChangeAt Go.RowKit Go.Deep LinesM Mem

theorem cells41 : Try.prog.cellsOf 41 = 2 := by kernel_rfl
theorem cells9 : Try.prog.cellsOf 9 = 1 := by kernel_rfl
theorem cells3 : Try.prog.cellsOf 3 = 1 := by kernel_rfl
theorem cells38 : Try.prog.cellsOf 38 = 1 := by kernel_rfl
theorem bytes41 : Try.prog.bytesOf 41 = 32 := by kernel_rfl

theorem list_of {α : Type} {p : Nat → α → Prop} (n : Nat) (h : ∀ i, i < n → ∃ x, p i x) : ∃ xs : List α, xs.length = n ∧ ∀ i x, xs[i]? = some x → p i x := by
  induction n with
  | zero => exact ⟨[], rfl, fun i x h => by simp at h⟩
  | succ n ih =>
    obtain ⟨xs, hl, hx⟩ := ih fun i hi => h i (by omega)
    obtain ⟨y, hy⟩ := h n (by omega)
    refine ⟨xs ++ [y], by simp [hl], fun i x hi => ?_⟩
    rw [List.getElem?_append] at hi
    split at hi
    · exact hx i x hi
    · rename_i h1
      have h2 := (List.getElem?_eq_some_iff.1 hi).1
      simp only [List.length_singleton] at h2
      have h3 : i = n := by omega
      subst h3
      rw [hl, Nat.sub_self] at hi
      simp at hi
      subst hi
      exact hy

theorem addr_of {w : World} {a : Addr} {v : Value} (h : w.cell? (a.add 0) = some v) : ∃ b off, a = ⟨b, off, none⟩ ∧ b < w.heap.size := by
  obtain ⟨b, off, spot⟩ := a
  have e : (⟨b, off, spot⟩ : Addr).add 0 = ⟨b, off, spot⟩ := rfl
  rw [e] at h
  have hb := World.block_lt_of_cell? w _ h
  cases spot with
  | none => exact ⟨b, off, rfl, hb⟩
  | some x =>
    unfold World.cell? at h
    split at h
    · simp at h
    · cases h

variable {H : Type} {enc : TypeId × Value → H} {w : World}

theorem open_words {fuel : Nat} {v : Value} {x : DataW H × List MemPlace} (h : DataW.trod enc Try.prog w 0 (fun _ => true) true fuel 38 [v] = some x) : ∃ ws, Strs 0 w.heap.size w v ws := by
  rcases open_strings Try.underlying38 Try.underlying9 cells9 h with ⟨hcs, _⟩ | ⟨a, len, cap, ss, hcs, _, hl, hm, hz, _, hcell, _⟩
  · simp only [List.cons.injEq, and_true] at hcs
    subst hcs
    exact ⟨[], none, 0, 0, 0, 0, rfl, rfl, by omega, by omega, fun i x h => by simp at h⟩
  · simp only [List.cons.injEq, and_true] at hcs
    subst hcs
    simp only [if_true] at hz
    unfold maxLen at hm
    have hlen : len = ((ss.take len).map fun s => s.data.toList).length := by rw [List.length_map, List.length_take]; omega
    by_cases h0 : len = 0
    · subst h0
      exact ⟨[], some a, 0, cap, 0, 0, rfl, rfl, by omega, by omega, fun i x h => by simp at h⟩
    · obtain ⟨b, off, rfl, hb⟩ := addr_of (hcell 0 (by omega))
      refine ⟨(ss.take len).map fun s => s.data.toList, _, len, cap, b, off, rfl, hlen, by omega, fun _ => ⟨rfl, Nat.zero_le _, hb⟩, fun i x hx => ?_⟩
      have hi := (List.getElem?_eq_some_iff.1 hx).1
      rw [← hlen] at hi
      have hc := hcell i (by omega)
      rw [add_plain] at hc
      rw [hc]
      rw [List.getElem?_map, List.getElem?_take] at hx
      rw [if_pos hi] at hx
      obtain ⟨s, hs, rfl⟩ := Option.map_eq_some_iff.1 hx
      rw [List.getD_eq_getElem?_getD, hs]
      rfl

theorem open_lins {ts : List TypeId} {ds : List (DataW H)} (hsz : (DataW.weightsEach Try.prog ts ds).all (· ≤ reachBytes) = true) {j : Nat} {v : Value} {d : DataW H} {p : List MemPlace} (ht : ts[j]? = some 26) (hd : ds[j]? = some d)
    {base : Nat} {r : Reach} (hval : Value.okWide Try.prog w r base 26 v) (h : DataW.Trod enc Try.prog w 0 (fun _ => true) true 26 v d p) : ∃ xs : List ML, Lins 0 w.heap.size w v xs := by
  obtain ⟨a0, len0, cap0, rfl⟩ := okWide_slice Try.underlying26 hval
  obtain ⟨fuel, h⟩ := h
  rcases open_slice_pairs Try.underlying26 Try.underlying41 cells41 rfl rfl cells3 cells38 h with ⟨hcs, _⟩ | ⟨a, len, cap, m, n, V0, V1, D0, D1, P0, P1, hcs, _, hl, hm, hmm, hx, hall⟩
  · simp [Value.cells] at hcs
    obtain ⟨rfl, rfl, rfl⟩ := hcs
    exact ⟨[], none, 0, 0, 0, 0, rfl, rfl, by omega, by omega, fun i x h => by simp at h⟩
  · simp [Value.cells] at hcs
    obtain ⟨rfl, rfl, rfl⟩ := hcs
    simp only [if_true] at hmm
    subst hmm
    simp only [Prod.mk.injEq] at hx
    obtain ⟨rfl, _⟩ := hx
    have hs := sized_slice hsz ht hd Try.underlying26
    rw [bytes41] at hs
    simp only [List.length_map, List.length_range, reachBytes] at hs
    have each : ∀ i, i < len0 → ∃ x : ML, w.cell? (a.add (i * 2)) = some (.int .i64 x.1) ∧ w.cell? (a.add (i * 2 + 1)) = some x.2.1 ∧ Strs 0 w.heap.size w x.2.1 x.2.2 := by
      intro i hi
      obtain ⟨c1, c2, t1, t2⟩ := hall i (by omega)
      obtain ⟨N, hN, _, _⟩ := DataW.trod_int Try.underlying3 t1
      simp only [List.cons.injEq, and_true] at hN
      obtain ⟨ws, hws⟩ := open_words t2
      exact ⟨(N, V1 i, ws), by rw [c1, hN], c2, hws⟩
    obtain ⟨xs, hxl, hxs⟩ := list_of len0 each
    by_cases h0 : len0 = 0
    · subst h0
      have : xs = [] := List.eq_nil_of_length_eq_zero hxl
      subst this
      exact ⟨[], some a, 0, _, 0, 0, rfl, rfl, by omega, by omega, fun i x h => by simp at h⟩
    · obtain ⟨b, off, rfl, hb⟩ := addr_of (by have := (hall 0 (by omega)).1; rwa [Nat.zero_mul] at this)
      refine ⟨xs, _, len0, _, b, off, rfl, hxl.symm, by omega, fun _ => ⟨rfl, Nat.zero_le _, hb⟩, fun i x hx => ?_⟩
      obtain ⟨c1, c2, c3⟩ := hxs i x hx
      rw [add_plain] at c1 c2
      exact ⟨c1, by rw [Nat.add_assoc]; exact c2, c3⟩
end Go.Proofs.Ytdibmmiobmlcbaa
