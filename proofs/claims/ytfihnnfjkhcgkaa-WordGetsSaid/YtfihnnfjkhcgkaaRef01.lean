/-
  What the document's own Do does, walked: half, size, truth, bits, and Do.
-/
import Derived.Test.YtfihnnfjkhcgkaaRows
import Derived.Test.YtfihnnfjkhcgkaaRef01Math
import Derived.Test.YtfihnnfjkhcgkaaMem
import Derived.WalkKit
import Derived.WalkSpells
import Derived.WalkLawsBesides
import Derived.Lib.Hide
namespace Go.Proofs.Ytfihnnfjkhcgkaa.R01
open Go.RowKit NumM Mem

set_option maxHeartbeats 400000 in
theorem half_any (x : Int) (w : World) : Calls Try.prog 35 #[.int .u64 x] w fun e w' => e = .returned (.int .i64 (wrap64 x)) ∧ w = w' := by
  go_enter Try.func35, Try.ntmps35
  go_wp2
  go_ret
  exact ⟨rfl, rfl⟩

set_option maxHeartbeats 400000 in
theorem size_any (n : Int) (w : World) (h : In n) : Calls Try.prog 32 #[.int .i64 n] w fun e w' => e = .returned (.int .u64 (n.natAbs : Int)) ∧ w = w' := by
  have h1 := h.1
  have h2 := h.2
  have hw : IntKind.u64.wrap (0 - IntKind.u64.wrap n) = -n ∨ 0 ≤ n := by rw [wu64, wu64]; omega
  have hw1 : IntKind.u64.wrap (-IntKind.u64.wrap n) = -n ∨ 0 ≤ n := by rw [wu64, wu64]; omega
  have hw2 : IntKind.u64.wrap n = n ∨ n < 0 := by rw [wu64]; omega
  clear h
  by_cases hn : n < 0
  all_goals
    go_enter Try.func32, Try.ntmps32
    go_wp2
    go_ret
    exact ⟨congrArg (fun x => Ending.returned (Value.int IntKind.u64 x)) (by omega), rfl⟩

/-- the four cells of a table. -/
def cells4 (t : Nat → Nat) : List Value := [.int .u64 (t 0 : Nat), .int .u64 (t 1 : Nat), .int .u64 (t 2 : Nat), .int .u64 (t 3 : Nat)]

theorem u64_eq {a b : Int} (h : a = b) : Value.int IntKind.u64 a = .int .u64 b := by rw [h]
theorem sum_eq {g p : Nat} {z : Int} {i : Nat} {t : Nat → Nat} (h : (t i = 0 ∧ z = g) ∨ (t i = 1 ∧ z = g + p)) : z = ((g + p * t i : Nat) : Int) := by
  rcases h with ⟨h1, h2⟩ | ⟨h1, h2⟩
  · rw [h1, h2]; simp
  · rw [h1, h2]; simp

theorem ret_pair {a b : Int} {x y : Bool} (h : a = b) (h' : x = y) : Ending.returned (.tuple #[.int .i64 a, .bool x]) = .returned (.tuple #[.int .i64 b, .bool y]) := by rw [h, h']

theorem quo_val (a b : Int) (hb : ¬ b = 0) : doV 4 a b = if decide (a < 0) = decide (b < 0) then wrap64 ((a.natAbs : Int) / (b.natAbs : Int)) else wrap64 (-((a.natAbs : Int) / (b.natAbs : Int))) := by
  rw [show doV 4 a b = if b = 0 then 0 else wrap64 (a.tdiv b) from rfl, if_neg hb, quo_sizes]
  split <;> simp
theorem rem_val (a b : Int) (hb : ¬ b = 0) (ha : In a) (hib : In b) : doV 5 a b = if a < 0 then wrap64 (-((a.natAbs : Int) % (b.natAbs : Int))) else wrap64 ((a.natAbs : Int) % (b.natAbs : Int)) := by
  have h1 : doV 5 a b = a.tmod b := by
    rw [show doV 5 a b = if b = 0 then 0 else a.tmod b from rfl, if_neg hb]
  have h2 : a.natAbs % b.natAbs < b.natAbs := Nat.mod_lt _ (by omega)
  obtain ⟨ha1, ha2⟩ := ha
  obtain ⟨hb1, hb2⟩ := hib
  have h3 : a.natAbs % b.natAbs ≤ a.natAbs := Nat.mod_le _ _
  rw [h1, rem_sizes]
  split
  · rw [← Int.natCast_emod, wrap_in]; unfold In; omega
  · rw [← Int.natCast_emod, wrap_in]; unfold In; omega

end Go.Proofs.Ytfihnnfjkhcgkaa.R01
