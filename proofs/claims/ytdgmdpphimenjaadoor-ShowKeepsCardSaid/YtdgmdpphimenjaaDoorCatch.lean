/-
  Package syntax: what read defers: it recovers.
-/
import Derived.Test.YtdgmdpphimenjaaDoorRdr
import Derived.Tactics2
import Derived.Defers
import Derived.Recover
import Derived.Laws.Pointers
namespace Go.Proofs.YtdgmdpphimenjaaDoor.Rd5
open Go.RowKit Mem

theorem as_errno (v : Value) (w : World) : (Instr.typeAssert (.iface 31 v) 20 31 false).run Tryd.prog w = .ok v w := by kernel_rfl
end Go.Proofs.YtdgmdpphimenjaaDoor.Rd5
