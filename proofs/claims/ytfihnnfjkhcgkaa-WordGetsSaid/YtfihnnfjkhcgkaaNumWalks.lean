/-
  What num.lowSix, num.truth, num.size and num.Do do, on whatever they are given: they only compute.
-/
import Derived.Test.YtfihnnfjkhcgkaaRows
import Derived.Test.YtfihnnfjkhcgkaaNumMath
import Derived.WalkKit
import Derived.WalkSpells
import Derived.WalkLawsBesides
namespace Go.Proofs.Ytfihnnfjkhcgkaa
open Go.RowKit NumM

theorem ret_pair {a b : Int} {x y : Bool} (h : a = b) (h' : x = y) : Ending.returned (.tuple #[.int .i64 a, .bool x]) = .returned (.tuple #[.int .i64 b, .bool y]) := by rw [h, h']

end Go.Proofs.Ytfihnnfjkhcgkaa
