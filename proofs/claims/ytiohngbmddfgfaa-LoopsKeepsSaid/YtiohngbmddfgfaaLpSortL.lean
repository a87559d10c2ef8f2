/-
  Layer 11: the library's sort and product laid at the program.
-/
import Derived.Shelf.Sort.Plain
import Derived.Shelf.Bits.Mul64
import Derived.Shelf.Slices.Clone
import Derived.Shelf.Lay
import Derived.Test.YtiohngbmddfgfaaProg
namespace Go.Proofs
open Go.Shelf
shelf_lay Lays.n189 Nm 189 at Try as Try.lays189
shelf_lay Lays2.n15 Nm2 15 at Try as Try.lays2_15
shelf_lay Lays.n212 Nm 212 at Try as Try.lays212
end Go.Proofs
