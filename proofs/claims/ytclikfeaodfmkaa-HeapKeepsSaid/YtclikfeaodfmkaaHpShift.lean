/-
  Layer 15: the statements' shifted and moved.
-/
import Derived.Test.YtclikfeaodfmkaaHpAlk
import Derived.Test.YtclikfeaodfmkaaHpStore
namespace Go.Proofs.Ytclikfeaodfmkaa.Hp15
open Go.RowKit Api Mem

def ShP (h : Hp) (n : Int) (x : Vl) (w : World) (e : Ending) (w' : World) : Prop := ∃ y, e = .returned (vlA y) ∧ MovedV h n x y ∧ Below w.heap.size w w'
end Go.Proofs.Ytclikfeaodfmkaa.Hp15
