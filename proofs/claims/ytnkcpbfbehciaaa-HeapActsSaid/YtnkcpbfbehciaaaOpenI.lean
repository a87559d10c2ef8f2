/-
  A row of numbers as an argument.
-/
import Derived.Test.YtnkcpbfbehciaaaOpenP
namespace Go.Proofs.Ytnkcpbfbehciaaa.OpenI
open Go.ChangeShapes Go.WideShapes Go.ChangeAt Go.RowKit Go.Deep Api OpenP
variable {H : Type} {enc : TypeId × Value → H} {w : World}
set_option maxRecDepth 100000 in
theorem open_ints {ts : List TypeId} {ds : List (DataW H)} (hsz : (DataW.weightsEach Try.prog ts ds).all (· ≤ reachBytes) = true) {j : Nat} {v : Value} {d : DataW H} {p : List MemPlace} (ht : ts[j]? = some 44) (hd : ds[j]? = some d)
    {base : Nat} {r : Reach} (hval : Value.okWide Try.prog w r base 44 v) (h : DataW.Trod enc Try.prog w 0 (fun _ => true) true 44 v d p) : ∃ xs : List Int, Row 0 w.heap.size w 1 (fun cs x => cs = [i64 x]) v xs ∧ ∀ x ∈ xs, NumM.In x := by
  obtain ⟨a0, len0, cap0, rfl⟩ := okWide_slice Try.underlying44 hval
  obtain ⟨fuel, h⟩ := h
  have hw : Wt 44 d := fun m hm => by
    have := List.all_eq_true.1 hsz m (DataW.weights_mem_each ht hd m hm)
    simpa using this
  exact open_row (bts := 8) Try.underlying44 c_int (by decide) (by kernel_rfl) (by decide) (show Tr enc w fuel 44 [.slice a0 len0 cap0] (d, p) from by simpa [Value.cells] using h) hw fun _ cs _ hl h _ => by
    match cs, hl with
    | [c], _ =>
      obtain ⟨k, rfl, hk⟩ := t_int h
      exact ⟨k, rfl, hk⟩
end Go.Proofs.Ytnkcpbfbehciaaa.OpenI
