/-
  Package syntax: Of, whatever number.
-/
import Derived.Test.YtikfncgdjnljiaaDoorText
namespace Go.Proofs.YtikfncgdjnljiaaDoor.Rd5
open Go.RowKit Api Syn WordM

theorem of_int (op : Int) (w : World) (hL : LaidS w) : Calls Tryd.prog 56 #[i64 op] w (OfR w op) := by
  by_cases h : op < 1 ∨ 34 < op
  · exact of_no op w h
  · obtain ⟨k, rfl⟩ : ∃ k : Nat, op = (k : Int) := ⟨op.toNat, by omega⟩
    exact of_yes k w hL ⟨by omega, by omega⟩
theorem of_as (op : Int) (z : ByteArray) (d m : Bool) (l k : Int) (b : Bool) (h : formV op = (⟨z.data.toList, d, m, l, k⟩, b)) (w : World) (hL : LaidS w) :
    Calls Tryd.prog 56 #[.int .i64 op] w fun e w' => e = .returned (.tuple #[.agg #[.string z, .bool d, .bool m, .int .i64 l, .int .i64 k], .bool b]) ∧ Below w.heap.size w w' := by
  have hz : (str z.data.toList : Value) = .string z := by show Value.string _ = _; rw [WordM.bytes_of]
  have := of_int op w hL
  unfold OfR at this
  rw [h] at this
  simp only at this
  rw [hz] at this
  exact this
end Go.Proofs.YtikfncgdjnljiaaDoor.Rd5
