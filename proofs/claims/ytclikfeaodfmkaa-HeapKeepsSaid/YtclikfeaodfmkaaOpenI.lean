/-
  A row of numbers as an argument.
-/
import Derived.Test.YtclikfeaodfmkaaOpenP
namespace Go.Proofs.Ytclikfeaodfmkaa.OpenI
open Go.ChangeShapes Go.WideShapes Go.ChangeAt Go.RowKit Go.Deep Api OpenP
variable {H : Type} {enc : TypeId × Value → H} {w : World}
end Go.Proofs.Ytclikfeaodfmkaa.OpenI
