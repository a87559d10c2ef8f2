/-
  flo.OfInt and flo.ToInt, on whatever they are given.
-/
import Derived.Test.YtfihnnfjkhcgkaaFloWalks
import Derived.Test.YtfihnnfjkhcgkaaFloInt
namespace Go.Proofs.Ytfihnnfjkhcgkaa
open Go.RowKit NumM FloM

theorem ne_self {b : Nat} (h : nn b) : (FloatKind.f64.format.order b b != some .eq) = true := by
  show (Ieee.double.order b b != some .eq) = true
  rw [order_nanl h]; rfl
theorem eq_self {b : Nat} (h : ¬ nn b) : (FloatKind.f64.format.order b b != some .eq) = false := by
  show (Ieee.double.order b b != some .eq) = false
  rw [order_self h]; rfl
theorem fl_nan {n : Int} (h : nn (ub n)) : fl n = 9221120237041090560 := by unfold fl; rw [plain_nan h]; rfl
theorem fl_num {n : Int} (h : ¬ nn (ub n)) : fl n = ub n := by unfold fl; rw [plain_num h]
theorem nn_nan : nn 9221120237041090560 := by decide

end Go.Proofs.Ytfihnnfjkhcgkaa
