/-
  A graph as an argument: rows of rows of numbers.
-/
import Derived.Test.YtiohngbmddfgfaaOpenP
import Derived.Test.YtiohngbmddfgfaaFlRef
namespace Go.Proofs.Ytiohngbmddfgfaa.OpenG
open Go.ChangeShapes Go.WideShapes Go.ChangeAt Go.RowKit Go.Deep Api OpenP
variable {H : Type} {enc : TypeId × Value → H} {w : World}
theorem c_ints : Try.prog.cellsOf 31 = 1 := by kernel_rfl
set_option maxRecDepth 100000 in
theorem open_graph {ts : List TypeId} {ds : List (DataW H)} (hsz : (DataW.weightsEach Try.prog ts ds).all (· ≤ reachBytes) = true) {j : Nat} {v : Value} {d : DataW H} {p : List MemPlace} (ht : ts[j]? = some 22) (hd : ds[j]? = some d)
    {base : Nat} {r : Reach} (hval : Value.okWide Try.prog w r base 22 v) (h : DataW.Trod enc Try.prog w 0 (fun _ => true) true 22 v d p) : ∃ g : List (List Int), Fl9.Graph 0 w.heap.size w v g ∧ ∀ l ∈ g, ∀ x ∈ l, NumM.In x := by
  obtain ⟨a0, len0, cap0, rfl⟩ := okWide_slice Try.underlying22 hval
  obtain ⟨fuel, h⟩ := h
  have hw : Wt 22 d := fun m hm => by
    have := List.all_eq_true.1 hsz m (DataW.weights_mem_each ht hd m hm)
    simpa using this
  exact open_row (bts := 24) Try.underlying22 c_ints (by decide) (by kernel_rfl) (by decide) (show Tr enc w fuel 22 [.slice a0 len0 cap0] (d, p) from by simpa [Value.cells] using h) hw fun _ cs _ hl h hw2 => by
    match cs, hl with
    | [c], _ =>
      obtain ⟨xs, hx, hg⟩ := open_row (bts := 8) (G := NumM.In) (Q := fun (cs : List Value) (x : Int) => cs = [i64 x]) Try.underlying31 c_int (by decide) (by kernel_rfl) (by decide) h hw2 fun _ cs _ hl h _ => by
        match cs, hl with
        | [c], _ =>
          obtain ⟨k, rfl, hk⟩ := t_int h
          exact ⟨k, rfl, hk⟩
      exact ⟨xs, ⟨c, rfl, hx⟩, hg⟩
end Go.Proofs.Ytiohngbmddfgfaa.OpenG
