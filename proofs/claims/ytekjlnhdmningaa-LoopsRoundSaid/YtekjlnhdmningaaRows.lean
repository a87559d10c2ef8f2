/-
  No cell of these rows narrows 'for every input' (looked for: loops, veiled, ifaces, maps, wideKeys, modest, calm, conditions, laid).
  DERIVED. THE GIVEN ROWS OF THIS SEAT. 5 by the template 'for every input the law returns true; each argument reads behind the call as it read before'; 0 by the template 'total and deterministic' (their statements: YtekjlnhdmningaaTotals.lean).
  GIVEN WITH THE SEED: the statements are not yours to turn. If you find one false, say at which input.
  Laid BY PROGRAM, IN A SANDBOX (cutbox-rows.mjs): the forced cells as the released guide's own fill.sh prints them over the translation e90ff0e9e417d995… (all of the seat's roots in one cut). By AI agents, Wed Nov 11 2026. No macro, syntax, notation, axiom, sorry.
-/
import Derived.Test.YtekjlnhdmningaaChecked
import GoSem.Claim
import GoSem.ClaimJoined
import GoSem.ClaimMapViews
import Derived.JoinedTies
import Derived.KernelRfl
namespace Go.Proofs.Ytekjlnhdmningaa
/- THE CELL 'sum', in the pinned program and in every row, IS THE sha256 OF THE DUMP (.gsa) THAT YtekjlnhdmningaaProg.lean LOADS. Nothing in Lean hashes anything: it is a label: what it is worth is what the hold of that sum in a sandbox is worth. -/
noncomputable def Try.pinned : Pinned := { name := "ytekjlnhdmningaa", sum := "e90ff0e9e417d9952b0c22922349c9efecc24f69f167e5824c7110f0fa5fd0c9", checked := Try.checked }
namespace Rows
def none {H : Type} : Left H := { results := [], args := [] }

/-- 'lateenlaw11.LoopsAlls': WHATEVER THE INPUT: true; the input reads as it did. -/
def loopsAllsSpec : ChangeSpec := { name := "loopsAlls", fn := fun _ => fun
  | [d] => { results := [.lit (.bool true)], args := [d] }
  | _ => none }
def loopsAllsRow : OpenClaim := { program := "ytekjlnhdmningaa", sum := "e90ff0e9e417d9952b0c22922349c9efecc24f69f167e5824c7110f0fa5fd0c9", func := "lateen/lateenlaw11.LoopsAlls", spec := "loopsAlls", unfollowed := true, recurses := true, apart := false }
def LoopsAllsSaid : Prop := loopsAllsRow.holds Try.pinned (OpenSpec.ofChange loopsAllsSpec)

/-- ITS FALSE NEIGHBOUR: 'it returns false'. Refute it at one input. -/
def loopsAllsWrong : ChangeSpec := { name := "loopsAlls", fn := fun _ => fun
  | [d] => { results := [.lit (.bool false)], args := [d] }
  | _ => none }
def LoopsAllsWrongFalsely : Prop := loopsAllsRow.holds Try.pinned (OpenSpec.ofChange loopsAllsWrong)

/-- 'lateenlaw11.LoopsRound': WHATEVER THE INPUT: true; the input reads as it did. -/
def loopsRoundSpec : ChangeSpec := { name := "loopsRound", fn := fun _ => fun
  | [d] => { results := [.lit (.bool true)], args := [d] }
  | _ => none }
def loopsRoundRow : OpenClaim := { program := "ytekjlnhdmningaa", sum := "e90ff0e9e417d9952b0c22922349c9efecc24f69f167e5824c7110f0fa5fd0c9", func := "lateen/lateenlaw11.LoopsRound", spec := "loopsRound", unfollowed := true, recurses := true, apart := false }
def LoopsRoundSaid : Prop := loopsRoundRow.holds Try.pinned (OpenSpec.ofChange loopsRoundSpec)

/-- ITS FALSE NEIGHBOUR: 'it returns false'. Refute it at one input. -/
def loopsRoundWrong : ChangeSpec := { name := "loopsRound", fn := fun _ => fun
  | [d] => { results := [.lit (.bool false)], args := [d] }
  | _ => none }
def LoopsRoundWrongFalsely : Prop := loopsRoundRow.holds Try.pinned (OpenSpec.ofChange loopsRoundWrong)

/-- 'lateenlaw11.LoopsNest': WHATEVER THE INPUT: true; the input reads as it did. -/
def loopsNestSpec : ChangeSpec := { name := "loopsNest", fn := fun _ => fun
  | [d] => { results := [.lit (.bool true)], args := [d] }
  | _ => none }
def loopsNestRow : OpenClaim := { program := "ytekjlnhdmningaa", sum := "e90ff0e9e417d9952b0c22922349c9efecc24f69f167e5824c7110f0fa5fd0c9", func := "lateen/lateenlaw11.LoopsNest", spec := "loopsNest", unfollowed := true, recurses := true, apart := false }
def LoopsNestSaid : Prop := loopsNestRow.holds Try.pinned (OpenSpec.ofChange loopsNestSpec)

/-- ITS FALSE NEIGHBOUR: 'it returns false'. Refute it at one input. -/
def loopsNestWrong : ChangeSpec := { name := "loopsNest", fn := fun _ => fun
  | [d] => { results := [.lit (.bool false)], args := [d] }
  | _ => none }
def LoopsNestWrongFalsely : Prop := loopsNestRow.holds Try.pinned (OpenSpec.ofChange loopsNestWrong)

/-- 'lateenlaw11.LoopsNone': WHATEVER THE INPUT: true; the input reads as it did. -/
def loopsNoneSpec : ChangeSpec := { name := "loopsNone", fn := fun _ => fun
  | [d] => { results := [.lit (.bool true)], args := [d] }
  | _ => none }
def loopsNoneRow : OpenClaim := { program := "ytekjlnhdmningaa", sum := "e90ff0e9e417d9952b0c22922349c9efecc24f69f167e5824c7110f0fa5fd0c9", func := "lateen/lateenlaw11.LoopsNone", spec := "loopsNone", unfollowed := true, recurses := true, apart := false }
def LoopsNoneSaid : Prop := loopsNoneRow.holds Try.pinned (OpenSpec.ofChange loopsNoneSpec)

/-- ITS FALSE NEIGHBOUR: 'it returns false'. Refute it at one input. -/
def loopsNoneWrong : ChangeSpec := { name := "loopsNone", fn := fun _ => fun
  | [d] => { results := [.lit (.bool false)], args := [d] }
  | _ => none }
def LoopsNoneWrongFalsely : Prop := loopsNoneRow.holds Try.pinned (OpenSpec.ofChange loopsNoneWrong)

/-- 'lateenlaw11.LoopsKeeps': WHATEVER THE INPUT: true; the input reads as it did. -/
def loopsKeepsSpec : ChangeSpec := { name := "loopsKeeps", fn := fun _ => fun
  | [d] => { results := [.lit (.bool true)], args := [d] }
  | _ => none }
def loopsKeepsRow : OpenClaim := { program := "ytekjlnhdmningaa", sum := "e90ff0e9e417d9952b0c22922349c9efecc24f69f167e5824c7110f0fa5fd0c9", func := "lateen/lateenlaw11.LoopsKeeps", spec := "loopsKeeps", unfollowed := true, recurses := true, apart := false }
def LoopsKeepsSaid : Prop := loopsKeepsRow.holds Try.pinned (OpenSpec.ofChange loopsKeepsSpec)

/-- ITS FALSE NEIGHBOUR: 'it returns false'. Refute it at one input. -/
def loopsKeepsWrong : ChangeSpec := { name := "loopsKeeps", fn := fun _ => fun
  | [d] => { results := [.lit (.bool false)], args := [d] }
  | _ => none }
def LoopsKeepsWrongFalsely : Prop := loopsKeepsRow.holds Try.pinned (OpenSpec.ofChange loopsKeepsWrong)

/- THE SECOND FORM. 'bulk': how many values and letters a reading holds, each counted each time it is reached (what is shared counts as often as it is met; a slice's spare places count too). A statement '..UptoSaid' is the law's where the arguments, and the package variables that the reading takes, are together of bulk at most 1048576: NARROWER than '..Said'. Prove '..Said' where nothing that the law and all that it calls make is longer than what came in: it says more and counts as full. Else prove '..UptoSaid'. A law counts once. -/
mutual
def uptoBulk {H : Type} : DataW H → Nat
  | .lit (.string bytes) => bytes.length + 1
  | .lit _ => 1
  | .nil => 1
  | .ptr d => uptoBulk d + 1
  | .slice elems spare => uptoBulkAll elems + uptoBulkAll spare + 1
  | .agg parts => uptoBulkAll parts + 1
  | .iface _ d => uptoBulk d + 1
  | .map entries => uptoBulkEntries entries + 1
  | .held _ => 1
def uptoBulkAll {H : Type} : List (DataW H) → Nat
  | [] => 0
  | d :: r => uptoBulk d + uptoBulkAll r
def uptoBulkEntries {H : Type} : List (Lit × DataW H) → Nat
  | [] => 0
  | x :: r => uptoBulkEntry x + uptoBulkEntries r
def uptoBulkEntry {H : Type} : Lit × DataW H → Nat
  | (.string bytes, d) => bytes.length + uptoBulk d + 1
  | (_, d) => uptoBulk d + 1
 end
def uptoSmall : (H : Type) → List (DataW H) → Bool := fun _ ds => decide (uptoBulkAll ds ≤ 1048576)
def OpenSpec.upto (s : _root_.Go.ChangeSpec) : _root_.Go.OpenSpec := { _root_.Go.OpenSpec.ofChange s with cond := some uptoSmall }

/-- 'lateenlaw11.LoopsAlls', WHERE WHAT IT READS IS OF BULK AT MOST 1048576: true; the input reads as it did. -/
def loopsAllsUptoRow : OpenClaim := { program := "ytekjlnhdmningaa", sum := "e90ff0e9e417d9952b0c22922349c9efecc24f69f167e5824c7110f0fa5fd0c9", func := "lateen/lateenlaw11.LoopsAlls", spec := "loopsAlls", unfollowed := true, recurses := true, apart := false, narrowed := true }
def LoopsAllsUptoSaid : Prop := loopsAllsUptoRow.holds Try.pinned (OpenSpec.upto loopsAllsSpec)

/-- 'lateenlaw11.LoopsRound', WHERE WHAT IT READS IS OF BULK AT MOST 1048576: true; the input reads as it did. -/
def loopsRoundUptoRow : OpenClaim := { program := "ytekjlnhdmningaa", sum := "e90ff0e9e417d9952b0c22922349c9efecc24f69f167e5824c7110f0fa5fd0c9", func := "lateen/lateenlaw11.LoopsRound", spec := "loopsRound", unfollowed := true, recurses := true, apart := false, narrowed := true }
def LoopsRoundUptoSaid : Prop := loopsRoundUptoRow.holds Try.pinned (OpenSpec.upto loopsRoundSpec)

/-- 'lateenlaw11.LoopsNest', WHERE WHAT IT READS IS OF BULK AT MOST 1048576: true; the input reads as it did. -/
def loopsNestUptoRow : OpenClaim := { program := "ytekjlnhdmningaa", sum := "e90ff0e9e417d9952b0c22922349c9efecc24f69f167e5824c7110f0fa5fd0c9", func := "lateen/lateenlaw11.LoopsNest", spec := "loopsNest", unfollowed := true, recurses := true, apart := false, narrowed := true }
def LoopsNestUptoSaid : Prop := loopsNestUptoRow.holds Try.pinned (OpenSpec.upto loopsNestSpec)

/-- 'lateenlaw11.LoopsNone', WHERE WHAT IT READS IS OF BULK AT MOST 1048576: true; the input reads as it did. -/
def loopsNoneUptoRow : OpenClaim := { program := "ytekjlnhdmningaa", sum := "e90ff0e9e417d9952b0c22922349c9efecc24f69f167e5824c7110f0fa5fd0c9", func := "lateen/lateenlaw11.LoopsNone", spec := "loopsNone", unfollowed := true, recurses := true, apart := false, narrowed := true }
def LoopsNoneUptoSaid : Prop := loopsNoneUptoRow.holds Try.pinned (OpenSpec.upto loopsNoneSpec)

/-- 'lateenlaw11.LoopsKeeps', WHERE WHAT IT READS IS OF BULK AT MOST 1048576: true; the input reads as it did. -/
def loopsKeepsUptoRow : OpenClaim := { program := "ytekjlnhdmningaa", sum := "e90ff0e9e417d9952b0c22922349c9efecc24f69f167e5824c7110f0fa5fd0c9", func := "lateen/lateenlaw11.LoopsKeeps", spec := "loopsKeeps", unfollowed := true, recurses := true, apart := false, narrowed := true }
def LoopsKeepsUptoSaid : Prop := loopsKeepsUptoRow.holds Try.pinned (OpenSpec.upto loopsKeepsSpec)

end Rows
end Go.Proofs.Ytekjlnhdmningaa
