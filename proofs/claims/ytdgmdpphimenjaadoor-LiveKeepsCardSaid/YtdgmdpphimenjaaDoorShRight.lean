/-
  Layer 8: the program's Right.
-/
import Derived.Test.YtdgmdpphimenjaaDoorShCome
import Derived.Test.YtdgmdpphimenjaaDoorShPlaces
namespace Go.Proofs.YtdgmdpphimenjaaDoor.Sh8
open Go.RowKit Api Mem Go.Maps

theorem len_at {P : Program} (w : World) {ops : Array Oper} {rest : List Oper} {o : Oper} {a : Go.Act} {Q : Exit → Go.Act → World → Prop} (hg : o.guard = none) (m : Operand) (t : TypeId) (hop : o.op = Op.call { callee := Callee.builtin Builtin.len, args := #[m], argTypes := #[t] })
    (k e : TypeId) (ht : P.underlying t = some (.map k e)) (R : Value → Option (DataW Unit × List MemPlace)) (b n : Nat) (D : DataW Unit) (hm : a.eval m = .map (some b)) (hown : w.ownsMap P k R b n D) (s : Nat) (hs : Go.Maps.size D = s)
    (hK : wpList P ops Q rest (a.put o.dst (.int .i64 (s : Int))) w) : wpList P ops Q (o :: rest) a w :=
  wpList_len_own w hg m t hop k e ht R b n D hm hown (by rw [hs]; exact hK)
theorem len_run {P : Program} {k e t : TypeId} (ht : P.underlying t = some (.map k e)) {R : Value → Option (DataW Unit × List MemPlace)} {w : World} {b n : Nat} {D : DataW Unit} (hown : w.ownsMap P k R b n D) (ty : TypeId) {s : Nat} (hs : Go.Maps.size D = s) : (Builtin.len_ #[t] ty #[.map (some b)]).run P w = .ok (.int .i64 (s : Int)) w := by
  rw [← hs]
  exact hown.len ht ty
end Go.Proofs.YtdgmdpphimenjaaDoor.Sh8
