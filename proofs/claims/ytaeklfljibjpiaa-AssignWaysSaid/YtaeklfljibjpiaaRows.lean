/-
  No cell of these rows narrows 'for every input' (looked for: loops, veiled, ifaces, maps, wideKeys, modest, calm, conditions, laid).
  DERIVED. THE GIVEN ROWS OF THIS SEAT. 3 by the template 'for every input the law returns true; each argument reads behind the call as it read before'; 0 by the template 'total and deterministic' (their statements: YtaeklfljibjpiaaTotals.lean).
  GIVEN WITH THE SEED: the statements are not yours to turn. If you find one false, say at which input.
  Laid BY PROGRAM, IN A SANDBOX (cutbox-rows.mjs): the forced cells as the released guide's own fill.sh prints them over the translation 5873ad0ea6254760… (all of the seat's roots in one cut). By AI agents, Wed Nov 11 2026. No macro, syntax, notation, axiom, sorry.
-/
import Derived.Test.YtaeklfljibjpiaaChecked
import GoSem.Claim
import GoSem.ClaimJoined
import GoSem.ClaimMapViews
import Derived.JoinedTies
import Derived.KernelRfl
namespace Go.Proofs.Ytaeklfljibjpiaa
/- THE CELL 'sum', in the pinned program and in every row, IS THE sha256 OF THE DUMP (.gsa) THAT YtaeklfljibjpiaaProg.lean LOADS. Nothing in Lean hashes anything: it is a label: what it is worth is what the hold of that sum in a sandbox is worth. -/
noncomputable def Try.pinned : Pinned := { name := "ytaeklfljibjpiaa", sum := "5873ad0ea62547603c41aec4ea6bdd0aafc129697cfae49077b60abc0438dcde", checked := Try.checked }
namespace Rows
def none {H : Type} : Left H := { results := [], args := [] }

/-- 'lateenlaw13.AssignWays': WHATEVER THE INPUT: true; the input reads as it did. -/
def assignWaysSpec : ChangeSpec := { name := "assignWays", fn := fun _ => fun
  | [d1, d2] => { results := [.lit (.bool true)], args := [d1, d2] }
  | _ => none }
def assignWaysRow : OpenClaim := { program := "ytaeklfljibjpiaa", sum := "5873ad0ea62547603c41aec4ea6bdd0aafc129697cfae49077b60abc0438dcde", func := "lateen/lateenlaw13.AssignWays", spec := "assignWays", inPlace := ["maps.clone"], unfollowed := true, recurses := true, apart := false }
def AssignWaysSaid : Prop := assignWaysRow.holds Try.pinned (OpenSpec.ofChange assignWaysSpec)

/-- ITS FALSE NEIGHBOUR: 'it returns false'. Refute it at one input. -/
def assignWaysWrong : ChangeSpec := { name := "assignWays", fn := fun _ => fun
  | [d1, d2] => { results := [.lit (.bool false)], args := [d1, d2] }
  | _ => none }
def AssignWaysWrongFalsely : Prop := assignWaysRow.holds Try.pinned (OpenSpec.ofChange assignWaysWrong)

/-- 'lateenlaw13.AssignLive': WHATEVER THE INPUT: true; the input reads as it did. -/
def assignLiveSpec : ChangeSpec := { name := "assignLive", fn := fun _ => fun
  | [d] => { results := [.lit (.bool true)], args := [d] }
  | _ => none }
def assignLiveRow : OpenClaim := { program := "ytaeklfljibjpiaa", sum := "5873ad0ea62547603c41aec4ea6bdd0aafc129697cfae49077b60abc0438dcde", func := "lateen/lateenlaw13.AssignLive", spec := "assignLive", inPlace := ["maps.clone"], unfollowed := true, recurses := true, apart := false }
def AssignLiveSaid : Prop := assignLiveRow.holds Try.pinned (OpenSpec.ofChange assignLiveSpec)

/-- ITS FALSE NEIGHBOUR: 'it returns false'. Refute it at one input. -/
def assignLiveWrong : ChangeSpec := { name := "assignLive", fn := fun _ => fun
  | [d] => { results := [.lit (.bool false)], args := [d] }
  | _ => none }
def AssignLiveWrongFalsely : Prop := assignLiveRow.holds Try.pinned (OpenSpec.ofChange assignLiveWrong)

/-- 'lateenlaw13.AssignMore': WHATEVER THE INPUT: true; the input reads as it did. -/
def assignMoreSpec : ChangeSpec := { name := "assignMore", fn := fun _ => fun
  | [d1, d2] => { results := [.lit (.bool true)], args := [d1, d2] }
  | _ => none }
def assignMoreRow : OpenClaim := { program := "ytaeklfljibjpiaa", sum := "5873ad0ea62547603c41aec4ea6bdd0aafc129697cfae49077b60abc0438dcde", func := "lateen/lateenlaw13.AssignMore", spec := "assignMore", inPlace := ["maps.clone"], unfollowed := true, recurses := true, apart := false }
def AssignMoreSaid : Prop := assignMoreRow.holds Try.pinned (OpenSpec.ofChange assignMoreSpec)

/-- ITS FALSE NEIGHBOUR: 'it returns false'. Refute it at one input. -/
def assignMoreWrong : ChangeSpec := { name := "assignMore", fn := fun _ => fun
  | [d1, d2] => { results := [.lit (.bool false)], args := [d1, d2] }
  | _ => none }
def AssignMoreWrongFalsely : Prop := assignMoreRow.holds Try.pinned (OpenSpec.ofChange assignMoreWrong)

/- THE SECOND FORM. 'bulk': how many values and letters a reading holds, each counted each time it is reached (what is shared counts as often as it is met; a slice's spare places count too). A statement '..UptoSaid' is the law's where the arguments, and the package variables that the reading takes, are together of bulk at most 1048576: NARROWER than '..Said'. Prove '..Said' where nothing that the law and all that it calls make is longer than what came in: it says more and counts as full. Else prove '..UptoSaid'. A law counts once. -/
mutual
def uptoBulk {H : Type} : DataW H → Nat
  | .lit (.string bytes) => bytes.length + 1
  | .lit _ => 1
  | .nil => 1
  | .ptr d => uptoBulk d + 1
  | .slice elems spare => uptoBulkAll elems + uptoBulkAll spare + 1
  | .agg parts => uptoBulkAll parts + 1
  | .iface _ d => uptoBulk d + 1
  | .map entries => uptoBulkEntries entries + 1
  | .held _ => 1
def uptoBulkAll {H : Type} : List (DataW H) → Nat
  | [] => 0
  | d :: r => uptoBulk d + uptoBulkAll r
def uptoBulkEntries {H : Type} : List (Lit × DataW H) → Nat
  | [] => 0
  | x :: r => uptoBulkEntry x + uptoBulkEntries r
def uptoBulkEntry {H : Type} : Lit × DataW H → Nat
  | (.string bytes, d) => bytes.length + uptoBulk d + 1
  | (_, d) => uptoBulk d + 1
 end
def uptoSmall : (H : Type) → List (DataW H) → Bool := fun _ ds => decide (uptoBulkAll ds ≤ 1048576)
def OpenSpec.upto (s : _root_.Go.ChangeSpec) : _root_.Go.OpenSpec := { _root_.Go.OpenSpec.ofChange s with cond := some uptoSmall }

/-- 'lateenlaw13.AssignWays', WHERE WHAT IT READS IS OF BULK AT MOST 1048576: true; the input reads as it did. -/
def assignWaysUptoRow : OpenClaim := { program := "ytaeklfljibjpiaa", sum := "5873ad0ea62547603c41aec4ea6bdd0aafc129697cfae49077b60abc0438dcde", func := "lateen/lateenlaw13.AssignWays", spec := "assignWays", inPlace := ["maps.clone"], unfollowed := true, recurses := true, apart := false, narrowed := true }
def AssignWaysUptoSaid : Prop := assignWaysUptoRow.holds Try.pinned (OpenSpec.upto assignWaysSpec)

/-- 'lateenlaw13.AssignLive', WHERE WHAT IT READS IS OF BULK AT MOST 1048576: true; the input reads as it did. -/
def assignLiveUptoRow : OpenClaim := { program := "ytaeklfljibjpiaa", sum := "5873ad0ea62547603c41aec4ea6bdd0aafc129697cfae49077b60abc0438dcde", func := "lateen/lateenlaw13.AssignLive", spec := "assignLive", inPlace := ["maps.clone"], unfollowed := true, recurses := true, apart := false, narrowed := true }
def AssignLiveUptoSaid : Prop := assignLiveUptoRow.holds Try.pinned (OpenSpec.upto assignLiveSpec)

/-- 'lateenlaw13.AssignMore', WHERE WHAT IT READS IS OF BULK AT MOST 1048576: true; the input reads as it did. -/
def assignMoreUptoRow : OpenClaim := { program := "ytaeklfljibjpiaa", sum := "5873ad0ea62547603c41aec4ea6bdd0aafc129697cfae49077b60abc0438dcde", func := "lateen/lateenlaw13.AssignMore", spec := "assignMore", inPlace := ["maps.clone"], unfollowed := true, recurses := true, apart := false, narrowed := true }
def AssignMoreUptoSaid : Prop := assignMoreUptoRow.holds Try.pinned (OpenSpec.upto assignMoreSpec)

end Rows
end Go.Proofs.Ytaeklfljibjpiaa
