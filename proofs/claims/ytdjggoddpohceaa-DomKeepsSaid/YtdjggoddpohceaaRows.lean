/-
  No cell of these rows narrows 'for every input' (looked for: loops, veiled, ifaces, maps, wideKeys, modest, calm, conditions, laid).
  DERIVED. THE GIVEN ROWS OF THIS SEAT. 6 by the template 'for every input the law returns true; each argument reads behind the call as it read before'; 0 by the template 'total and deterministic' (their statements: YtdjggoddpohceaaTotals.lean).
  GIVEN WITH THE SEED: the statements are not yours to turn. If you find one false, say at which input.
  Laid BY PROGRAM, IN A SANDBOX (cutbox-rows.mjs): the forced cells as the released guide's own fill.sh prints them over the translation 61c0f3b9d1be5144… (all of the seat's roots in one cut). By AI agents, Wed Nov 11 2026. No macro, syntax, notation, axiom, sorry.
-/
import Derived.Test.YtdjggoddpohceaaChecked
import GoSem.Claim
import GoSem.ClaimJoined
import GoSem.ClaimMapViews
import Derived.JoinedTies
import Derived.KernelRfl
namespace Go.Proofs.Ytdjggoddpohceaa
/- THE CELL 'sum', in the pinned program and in every row, IS THE sha256 OF THE DUMP (.gsa) THAT YtdjggoddpohceaaProg.lean LOADS. Nothing in Lean hashes anything: it is a label: what it is worth is what the hold of that sum in a sandbox is worth. -/
noncomputable def Try.pinned : Pinned := { name := "ytdjggoddpohceaa", sum := "61c0f3b9d1be5144ec0c7022f8286901950d7aa2f2c0dd2e57a4460f076fafcc", checked := Try.checked }
namespace Rows
def none {H : Type} : Left H := { results := [], args := [] }

/-- 'lateenlaw10.DomNears': WHATEVER THE INPUT: true; the input reads as it did. -/
def domNearsSpec : ChangeSpec := { name := "domNears", fn := fun _ => fun
  | [d] => { results := [.lit (.bool true)], args := [d] }
  | _ => none }
def domNearsRow : OpenClaim := { program := "ytdjggoddpohceaa", sum := "61c0f3b9d1be5144ec0c7022f8286901950d7aa2f2c0dd2e57a4460f076fafcc", func := "lateen/lateenlaw10.DomNears", spec := "domNears", recurses := true, apart := false }
def DomNearsSaid : Prop := domNearsRow.holds Try.pinned (OpenSpec.ofChange domNearsSpec)

/-- ITS FALSE NEIGHBOUR: 'it returns false'. Refute it at one input. -/
def domNearsWrong : ChangeSpec := { name := "domNears", fn := fun _ => fun
  | [d] => { results := [.lit (.bool false)], args := [d] }
  | _ => none }
def DomNearsWrongFalsely : Prop := domNearsRow.holds Try.pinned (OpenSpec.ofChange domNearsWrong)

/-- 'lateenlaw10.DomFrontiers': WHATEVER THE INPUT: true; the input reads as it did. -/
def domFrontiersSpec : ChangeSpec := { name := "domFrontiers", fn := fun _ => fun
  | [d] => { results := [.lit (.bool true)], args := [d] }
  | _ => none }
def domFrontiersRow : OpenClaim := { program := "ytdjggoddpohceaa", sum := "61c0f3b9d1be5144ec0c7022f8286901950d7aa2f2c0dd2e57a4460f076fafcc", func := "lateen/lateenlaw10.DomFrontiers", spec := "domFrontiers", recurses := true, apart := false }
def DomFrontiersSaid : Prop := domFrontiersRow.holds Try.pinned (OpenSpec.ofChange domFrontiersSpec)

/-- ITS FALSE NEIGHBOUR: 'it returns false'. Refute it at one input. -/
def domFrontiersWrong : ChangeSpec := { name := "domFrontiers", fn := fun _ => fun
  | [d] => { results := [.lit (.bool false)], args := [d] }
  | _ => none }
def DomFrontiersWrongFalsely : Prop := domFrontiersRow.holds Try.pinned (OpenSpec.ofChange domFrontiersWrong)

/-- 'lateenlaw10.DomMeans': WHATEVER THE INPUT: true; the input reads as it did. -/
def domMeansSpec : ChangeSpec := { name := "domMeans", fn := fun _ => fun
  | [d1, d2, d3] => { results := [.lit (.bool true)], args := [d1, d2, d3] }
  | _ => none }
def domMeansRow : OpenClaim := { program := "ytdjggoddpohceaa", sum := "61c0f3b9d1be5144ec0c7022f8286901950d7aa2f2c0dd2e57a4460f076fafcc", func := "lateen/lateenlaw10.DomMeans", spec := "domMeans", apart := false }
def DomMeansSaid : Prop := domMeansRow.holds Try.pinned (OpenSpec.ofChange domMeansSpec)

/-- ITS FALSE NEIGHBOUR: 'it returns false'. Refute it at one input. -/
def domMeansWrong : ChangeSpec := { name := "domMeans", fn := fun _ => fun
  | [d1, d2, d3] => { results := [.lit (.bool false)], args := [d1, d2, d3] }
  | _ => none }
def DomMeansWrongFalsely : Prop := domMeansRow.holds Try.pinned (OpenSpec.ofChange domMeansWrong)

/-- 'lateenlaw10.DomTree': WHATEVER THE INPUT: true; the input reads as it did. -/
def domTreeSpec : ChangeSpec := { name := "domTree", fn := fun _ => fun
  | [d] => { results := [.lit (.bool true)], args := [d] }
  | _ => none }
def domTreeRow : OpenClaim := { program := "ytdjggoddpohceaa", sum := "61c0f3b9d1be5144ec0c7022f8286901950d7aa2f2c0dd2e57a4460f076fafcc", func := "lateen/lateenlaw10.DomTree", spec := "domTree", apart := false }
def DomTreeSaid : Prop := domTreeRow.holds Try.pinned (OpenSpec.ofChange domTreeSpec)

/-- ITS FALSE NEIGHBOUR: 'it returns false'. Refute it at one input. -/
def domTreeWrong : ChangeSpec := { name := "domTree", fn := fun _ => fun
  | [d] => { results := [.lit (.bool false)], args := [d] }
  | _ => none }
def DomTreeWrongFalsely : Prop := domTreeRow.holds Try.pinned (OpenSpec.ofChange domTreeWrong)

/-- 'lateenlaw10.DomEdges': WHATEVER THE INPUT: true; the input reads as it did. -/
def domEdgesSpec : ChangeSpec := { name := "domEdges", fn := fun _ => fun
  | [d] => { results := [.lit (.bool true)], args := [d] }
  | _ => none }
def domEdgesRow : OpenClaim := { program := "ytdjggoddpohceaa", sum := "61c0f3b9d1be5144ec0c7022f8286901950d7aa2f2c0dd2e57a4460f076fafcc", func := "lateen/lateenlaw10.DomEdges", spec := "domEdges", apart := false }
def DomEdgesSaid : Prop := domEdgesRow.holds Try.pinned (OpenSpec.ofChange domEdgesSpec)

/-- ITS FALSE NEIGHBOUR: 'it returns false'. Refute it at one input. -/
def domEdgesWrong : ChangeSpec := { name := "domEdges", fn := fun _ => fun
  | [d] => { results := [.lit (.bool false)], args := [d] }
  | _ => none }
def DomEdgesWrongFalsely : Prop := domEdgesRow.holds Try.pinned (OpenSpec.ofChange domEdgesWrong)

/-- 'lateenlaw10.DomKeeps': WHATEVER THE INPUT: true; the input reads as it did. -/
def domKeepsSpec : ChangeSpec := { name := "domKeeps", fn := fun _ => fun
  | [d] => { results := [.lit (.bool true)], args := [d] }
  | _ => none }
def domKeepsRow : OpenClaim := { program := "ytdjggoddpohceaa", sum := "61c0f3b9d1be5144ec0c7022f8286901950d7aa2f2c0dd2e57a4460f076fafcc", func := "lateen/lateenlaw10.DomKeeps", spec := "domKeeps", recurses := true, apart := false }
def DomKeepsSaid : Prop := domKeepsRow.holds Try.pinned (OpenSpec.ofChange domKeepsSpec)

/-- ITS FALSE NEIGHBOUR: 'it returns false'. Refute it at one input. -/
def domKeepsWrong : ChangeSpec := { name := "domKeeps", fn := fun _ => fun
  | [d] => { results := [.lit (.bool false)], args := [d] }
  | _ => none }
def DomKeepsWrongFalsely : Prop := domKeepsRow.holds Try.pinned (OpenSpec.ofChange domKeepsWrong)

/- THE SECOND FORM. 'bulk': how many values and letters a reading holds, each counted each time it is reached (what is shared counts as often as it is met; a slice's spare places count too). A statement '..UptoSaid' is the law's where the arguments, and the package variables that the reading takes, are together of bulk at most 1048576: NARROWER than '..Said'. Prove '..Said' where nothing that the law and all that it calls make is longer than what came in: it says more and counts as full. Else prove '..UptoSaid'. A law counts once. -/
mutual
def uptoBulk {H : Type} : DataW H → Nat
  | .lit (.string bytes) => bytes.length + 1
  | .lit _ => 1
  | .nil => 1
  | .ptr d => uptoBulk d + 1
  | .slice elems spare => uptoBulkAll elems + uptoBulkAll spare + 1
  | .agg parts => uptoBulkAll parts + 1
  | .iface _ d => uptoBulk d + 1
  | .map entries => uptoBulkEntries entries + 1
  | .held _ => 1
def uptoBulkAll {H : Type} : List (DataW H) → Nat
  | [] => 0
  | d :: r => uptoBulk d + uptoBulkAll r
def uptoBulkEntries {H : Type} : List (Lit × DataW H) → Nat
  | [] => 0
  | x :: r => uptoBulkEntry x + uptoBulkEntries r
def uptoBulkEntry {H : Type} : Lit × DataW H → Nat
  | (.string bytes, d) => bytes.length + uptoBulk d + 1
  | (_, d) => uptoBulk d + 1
 end
def uptoSmall : (H : Type) → List (DataW H) → Bool := fun _ ds => decide (uptoBulkAll ds ≤ 1048576)
def OpenSpec.upto (s : _root_.Go.ChangeSpec) : _root_.Go.OpenSpec := { _root_.Go.OpenSpec.ofChange s with cond := some uptoSmall }

/-- 'lateenlaw10.DomNears', WHERE WHAT IT READS IS OF BULK AT MOST 1048576: true; the input reads as it did. -/
def domNearsUptoRow : OpenClaim := { program := "ytdjggoddpohceaa", sum := "61c0f3b9d1be5144ec0c7022f8286901950d7aa2f2c0dd2e57a4460f076fafcc", func := "lateen/lateenlaw10.DomNears", spec := "domNears", recurses := true, apart := false, narrowed := true }
def DomNearsUptoSaid : Prop := domNearsUptoRow.holds Try.pinned (OpenSpec.upto domNearsSpec)

/-- 'lateenlaw10.DomFrontiers', WHERE WHAT IT READS IS OF BULK AT MOST 1048576: true; the input reads as it did. -/
def domFrontiersUptoRow : OpenClaim := { program := "ytdjggoddpohceaa", sum := "61c0f3b9d1be5144ec0c7022f8286901950d7aa2f2c0dd2e57a4460f076fafcc", func := "lateen/lateenlaw10.DomFrontiers", spec := "domFrontiers", recurses := true, apart := false, narrowed := true }
def DomFrontiersUptoSaid : Prop := domFrontiersUptoRow.holds Try.pinned (OpenSpec.upto domFrontiersSpec)

/-- 'lateenlaw10.DomMeans', WHERE WHAT IT READS IS OF BULK AT MOST 1048576: true; the input reads as it did. -/
def domMeansUptoRow : OpenClaim := { program := "ytdjggoddpohceaa", sum := "61c0f3b9d1be5144ec0c7022f8286901950d7aa2f2c0dd2e57a4460f076fafcc", func := "lateen/lateenlaw10.DomMeans", spec := "domMeans", apart := false, narrowed := true }
def DomMeansUptoSaid : Prop := domMeansUptoRow.holds Try.pinned (OpenSpec.upto domMeansSpec)

/-- 'lateenlaw10.DomTree', WHERE WHAT IT READS IS OF BULK AT MOST 1048576: true; the input reads as it did. -/
def domTreeUptoRow : OpenClaim := { program := "ytdjggoddpohceaa", sum := "61c0f3b9d1be5144ec0c7022f8286901950d7aa2f2c0dd2e57a4460f076fafcc", func := "lateen/lateenlaw10.DomTree", spec := "domTree", apart := false, narrowed := true }
def DomTreeUptoSaid : Prop := domTreeUptoRow.holds Try.pinned (OpenSpec.upto domTreeSpec)

/-- 'lateenlaw10.DomEdges', WHERE WHAT IT READS IS OF BULK AT MOST 1048576: true; the input reads as it did. -/
def domEdgesUptoRow : OpenClaim := { program := "ytdjggoddpohceaa", sum := "61c0f3b9d1be5144ec0c7022f8286901950d7aa2f2c0dd2e57a4460f076fafcc", func := "lateen/lateenlaw10.DomEdges", spec := "domEdges", apart := false, narrowed := true }
def DomEdgesUptoSaid : Prop := domEdgesUptoRow.holds Try.pinned (OpenSpec.upto domEdgesSpec)

/-- 'lateenlaw10.DomKeeps', WHERE WHAT IT READS IS OF BULK AT MOST 1048576: true; the input reads as it did. -/
def domKeepsUptoRow : OpenClaim := { program := "ytdjggoddpohceaa", sum := "61c0f3b9d1be5144ec0c7022f8286901950d7aa2f2c0dd2e57a4460f076fafcc", func := "lateen/lateenlaw10.DomKeeps", spec := "domKeeps", recurses := true, apart := false, narrowed := true }
def DomKeepsUptoSaid : Prop := domKeepsUptoRow.holds Try.pinned (OpenSpec.upto domKeepsSpec)

end Rows
end Go.Proofs.Ytdjggoddpohceaa
