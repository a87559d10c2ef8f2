/-
  No cell of these rows narrows 'for every input' (looked for: loops, veiled, ifaces, maps, wideKeys, modest, calm, conditions, laid).
  DERIVED. THE GIVEN ROWS OF THIS SEAT. 5 by the template 'for every input the law returns true; each argument reads behind the call as it read before'; 0 by the template 'total and deterministic' (their statements: YtdmjghhgmpnacaaTotals.lean).
  GIVEN WITH THE SEED: the statements are not yours to turn. If you find one false, say at which input.
  Laid BY PROGRAM, IN A SANDBOX (cutbox-rows.mjs): the forced cells as the released guide's own fill.sh prints them over the translation 873bcbb40944ce05… (all of the seat's roots in one cut). By AI agents, Wed Nov 11 2026. No macro, syntax, notation, axiom, sorry.
-/
import Derived.Test.YtdmjghhgmpnacaaChecked
import GoSem.Claim
import GoSem.ClaimJoined
import GoSem.ClaimMapViews
import Derived.JoinedTies
import Derived.KernelRfl
namespace Go.Proofs.Ytdmjghhgmpnacaa
/- THE CELL 'sum', in the pinned program and in every row, IS THE sha256 OF THE DUMP (.gsa) THAT YtdmjghhgmpnacaaProg.lean LOADS. Nothing in Lean hashes anything: it is a label: what it is worth is what the hold of that sum in a sandbox is worth. -/
noncomputable def Try.pinned : Pinned := { name := "ytdmjghhgmpnacaa", sum := "873bcbb40944ce05707857ba0f2e0b7b66ac3e40648156eb7a8284bdfbec4710", checked := Try.checked }
namespace Rows
def none {H : Type} : Left H := { results := [], args := [] }

/-- 'lateenlaw08.ShapeRights': WHATEVER THE INPUT: true; the input reads as it did. -/
def shapeRightsSpec : ChangeSpec := { name := "shapeRights", fn := fun _ => fun
  | [d1, d2] => { results := [.lit (.bool true)], args := [d1, d2] }
  | _ => none }
def shapeRightsRow : OpenClaim := { program := "ytdmjghhgmpnacaa", sum := "873bcbb40944ce05707857ba0f2e0b7b66ac3e40648156eb7a8284bdfbec4710", func := "lateen/lateenlaw08.ShapeRights", spec := "shapeRights", apart := false }
def ShapeRightsSaid : Prop := shapeRightsRow.holds Try.pinned (OpenSpec.ofChange shapeRightsSpec)

/-- ITS FALSE NEIGHBOUR: 'it returns false'. Refute it at one input. -/
def shapeRightsWrong : ChangeSpec := { name := "shapeRights", fn := fun _ => fun
  | [d1, d2] => { results := [.lit (.bool false)], args := [d1, d2] }
  | _ => none }
def ShapeRightsWrongFalsely : Prop := shapeRightsRow.holds Try.pinned (OpenSpec.ofChange shapeRightsWrong)

/-- 'lateenlaw08.ShapePhis': WHATEVER THE INPUT: true; the input reads as it did. -/
def shapePhisSpec : ChangeSpec := { name := "shapePhis", fn := fun _ => fun
  | [d] => { results := [.lit (.bool true)], args := [d] }
  | _ => none }
def shapePhisRow : OpenClaim := { program := "ytdmjghhgmpnacaa", sum := "873bcbb40944ce05707857ba0f2e0b7b66ac3e40648156eb7a8284bdfbec4710", func := "lateen/lateenlaw08.ShapePhis", spec := "shapePhis", apart := false }
def ShapePhisSaid : Prop := shapePhisRow.holds Try.pinned (OpenSpec.ofChange shapePhisSpec)

/-- ITS FALSE NEIGHBOUR: 'it returns false'. Refute it at one input. -/
def shapePhisWrong : ChangeSpec := { name := "shapePhis", fn := fun _ => fun
  | [d] => { results := [.lit (.bool false)], args := [d] }
  | _ => none }
def ShapePhisWrongFalsely : Prop := shapePhisRow.holds Try.pinned (OpenSpec.ofChange shapePhisWrong)

/-- 'lateenlaw08.ShapeCome': WHATEVER THE INPUT: true; the input reads as it did. -/
def shapeComeSpec : ChangeSpec := { name := "shapeCome", fn := fun _ => fun
  | [d] => { results := [.lit (.bool true)], args := [d] }
  | _ => none }
def shapeComeRow : OpenClaim := { program := "ytdmjghhgmpnacaa", sum := "873bcbb40944ce05707857ba0f2e0b7b66ac3e40648156eb7a8284bdfbec4710", func := "lateen/lateenlaw08.ShapeCome", spec := "shapeCome", apart := false }
def ShapeComeSaid : Prop := shapeComeRow.holds Try.pinned (OpenSpec.ofChange shapeComeSpec)

/-- ITS FALSE NEIGHBOUR: 'it returns false'. Refute it at one input. -/
def shapeComeWrong : ChangeSpec := { name := "shapeCome", fn := fun _ => fun
  | [d] => { results := [.lit (.bool false)], args := [d] }
  | _ => none }
def ShapeComeWrongFalsely : Prop := shapeComeRow.holds Try.pinned (OpenSpec.ofChange shapeComeWrong)

/-- 'lateenlaw08.ShapeTurned': WHATEVER THE INPUT: true; the input reads as it did. -/
def shapeTurnedSpec : ChangeSpec := { name := "shapeTurned", fn := fun _ => fun
  | [d1, d2] => { results := [.lit (.bool true)], args := [d1, d2] }
  | _ => none }
def shapeTurnedRow : OpenClaim := { program := "ytdmjghhgmpnacaa", sum := "873bcbb40944ce05707857ba0f2e0b7b66ac3e40648156eb7a8284bdfbec4710", func := "lateen/lateenlaw08.ShapeTurned", spec := "shapeTurned", apart := false }
def ShapeTurnedSaid : Prop := shapeTurnedRow.holds Try.pinned (OpenSpec.ofChange shapeTurnedSpec)

/-- ITS FALSE NEIGHBOUR: 'it returns false'. Refute it at one input. -/
def shapeTurnedWrong : ChangeSpec := { name := "shapeTurned", fn := fun _ => fun
  | [d1, d2] => { results := [.lit (.bool false)], args := [d1, d2] }
  | _ => none }
def ShapeTurnedWrongFalsely : Prop := shapeTurnedRow.holds Try.pinned (OpenSpec.ofChange shapeTurnedWrong)

/-- 'lateenlaw08.ShapeLess': WHATEVER THE INPUT: true; the input reads as it did. -/
def shapeLessSpec : ChangeSpec := { name := "shapeLess", fn := fun _ => fun
  | [d1, d2] => { results := [.lit (.bool true)], args := [d1, d2] }
  | _ => none }
def shapeLessRow : OpenClaim := { program := "ytdmjghhgmpnacaa", sum := "873bcbb40944ce05707857ba0f2e0b7b66ac3e40648156eb7a8284bdfbec4710", func := "lateen/lateenlaw08.ShapeLess", spec := "shapeLess", apart := false }
def ShapeLessSaid : Prop := shapeLessRow.holds Try.pinned (OpenSpec.ofChange shapeLessSpec)

/-- ITS FALSE NEIGHBOUR: 'it returns false'. Refute it at one input. -/
def shapeLessWrong : ChangeSpec := { name := "shapeLess", fn := fun _ => fun
  | [d1, d2] => { results := [.lit (.bool false)], args := [d1, d2] }
  | _ => none }
def ShapeLessWrongFalsely : Prop := shapeLessRow.holds Try.pinned (OpenSpec.ofChange shapeLessWrong)

/- THE SECOND FORM. 'bulk': how many values and letters a reading holds, each counted each time it is reached (what is shared counts as often as it is met; a slice's spare places count too). A statement '..UptoSaid' is the law's where the arguments, and the package variables that the reading takes, are together of bulk at most 1048576: NARROWER than '..Said'. Prove '..Said' where nothing that the law and all that it calls make is longer than what came in: it says more and counts as full. Else prove '..UptoSaid'. A law counts once. -/
mutual
def uptoBulk {H : Type} : DataW H → Nat
  | .lit (.string bytes) => bytes.length + 1
  | .lit _ => 1
  | .nil => 1
  | .ptr d => uptoBulk d + 1
  | .slice elems spare => uptoBulkAll elems + uptoBulkAll spare + 1
  | .agg parts => uptoBulkAll parts + 1
  | .iface _ d => uptoBulk d + 1
  | .map entries => uptoBulkEntries entries + 1
  | .held _ => 1
def uptoBulkAll {H : Type} : List (DataW H) → Nat
  | [] => 0
  | d :: r => uptoBulk d + uptoBulkAll r
def uptoBulkEntries {H : Type} : List (Lit × DataW H) → Nat
  | [] => 0
  | x :: r => uptoBulkEntry x + uptoBulkEntries r
def uptoBulkEntry {H : Type} : Lit × DataW H → Nat
  | (.string bytes, d) => bytes.length + uptoBulk d + 1
  | (_, d) => uptoBulk d + 1
 end
def uptoSmall : (H : Type) → List (DataW H) → Bool := fun _ ds => decide (uptoBulkAll ds ≤ 1048576)
def OpenSpec.upto (s : _root_.Go.ChangeSpec) : _root_.Go.OpenSpec := { _root_.Go.OpenSpec.ofChange s with cond := some uptoSmall }

/-- 'lateenlaw08.ShapeRights', WHERE WHAT IT READS IS OF BULK AT MOST 1048576: true; the input reads as it did. -/
def shapeRightsUptoRow : OpenClaim := { program := "ytdmjghhgmpnacaa", sum := "873bcbb40944ce05707857ba0f2e0b7b66ac3e40648156eb7a8284bdfbec4710", func := "lateen/lateenlaw08.ShapeRights", spec := "shapeRights", apart := false, narrowed := true }
def ShapeRightsUptoSaid : Prop := shapeRightsUptoRow.holds Try.pinned (OpenSpec.upto shapeRightsSpec)

/-- 'lateenlaw08.ShapePhis', WHERE WHAT IT READS IS OF BULK AT MOST 1048576: true; the input reads as it did. -/
def shapePhisUptoRow : OpenClaim := { program := "ytdmjghhgmpnacaa", sum := "873bcbb40944ce05707857ba0f2e0b7b66ac3e40648156eb7a8284bdfbec4710", func := "lateen/lateenlaw08.ShapePhis", spec := "shapePhis", apart := false, narrowed := true }
def ShapePhisUptoSaid : Prop := shapePhisUptoRow.holds Try.pinned (OpenSpec.upto shapePhisSpec)

/-- 'lateenlaw08.ShapeCome', WHERE WHAT IT READS IS OF BULK AT MOST 1048576: true; the input reads as it did. -/
def shapeComeUptoRow : OpenClaim := { program := "ytdmjghhgmpnacaa", sum := "873bcbb40944ce05707857ba0f2e0b7b66ac3e40648156eb7a8284bdfbec4710", func := "lateen/lateenlaw08.ShapeCome", spec := "shapeCome", apart := false, narrowed := true }
def ShapeComeUptoSaid : Prop := shapeComeUptoRow.holds Try.pinned (OpenSpec.upto shapeComeSpec)

/-- 'lateenlaw08.ShapeTurned', WHERE WHAT IT READS IS OF BULK AT MOST 1048576: true; the input reads as it did. -/
def shapeTurnedUptoRow : OpenClaim := { program := "ytdmjghhgmpnacaa", sum := "873bcbb40944ce05707857ba0f2e0b7b66ac3e40648156eb7a8284bdfbec4710", func := "lateen/lateenlaw08.ShapeTurned", spec := "shapeTurned", apart := false, narrowed := true }
def ShapeTurnedUptoSaid : Prop := shapeTurnedUptoRow.holds Try.pinned (OpenSpec.upto shapeTurnedSpec)

/-- 'lateenlaw08.ShapeLess', WHERE WHAT IT READS IS OF BULK AT MOST 1048576: true; the input reads as it did. -/
def shapeLessUptoRow : OpenClaim := { program := "ytdmjghhgmpnacaa", sum := "873bcbb40944ce05707857ba0f2e0b7b66ac3e40648156eb7a8284bdfbec4710", func := "lateen/lateenlaw08.ShapeLess", spec := "shapeLess", apart := false, narrowed := true }
def ShapeLessUptoSaid : Prop := shapeLessUptoRow.holds Try.pinned (OpenSpec.upto shapeLessSpec)

end Rows
end Go.Proofs.Ytdmjghhgmpnacaa
