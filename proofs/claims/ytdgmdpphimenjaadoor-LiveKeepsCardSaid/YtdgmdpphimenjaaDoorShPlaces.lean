/-
  Layer 8: the program's map of places.
-/
import Derived.Test.YtdgmdpphimenjaaDoorShPlace
import Derived.Lib.Hide
import Derived.Lib.Walk
namespace Go.Proofs.YtdgmdpphimenjaaDoor.Sh8
open Go.RowKit Api Mem Go.Maps

theorem run_makeHint {P : Program} {t k e : TypeId} (ht : P.underlying t = some (.map k e)) (q : IntKind) (n : Int) (w : World) : (Instr.makeMap t (some (.int q n))).run P w = .ok (.map (some w.heap.size)) (w.alloc (.map #[] 0)) := by
  simp [Instr.makeMap, run_underlying ht, asInt, asIntOf, Result.andThen]
theorem drop_at {ns : List Wd} {k : Nat} {x : Wd} (h : ns[k]? = some x) : tab k (ns.drop k) = (tab (k + 1) (ns.drop (k + 1))).put (kS x) (dI k) := by
  obtain ⟨hk, e⟩ := List.getElem?_eq_some_iff.1 h
  rw [List.drop_eq_getElem_cons hk, e]
  rfl
abbrev nmG (bl : List Bl) : Prop := ∀ b ∈ bl, b.name.length ≤ 140737488351232
end Go.Proofs.YtdgmdpphimenjaaDoor.Sh8
