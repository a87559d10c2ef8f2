/-
  No cell of these rows narrows 'for every input' (looked for: loops, veiled, ifaces, maps, wideKeys, modest, calm, conditions, laid).
  DERIVED. THE GIVEN ROWS OF THIS SEAT. 7 by the template 'for every input the law returns true; each argument reads behind the call as it read before'; 0 by the template 'total and deterministic' (their statements: YtdgdkfkdhbnliaaTotals.lean).
  GIVEN WITH THE SEED: the statements are not yours to turn. If you find one false, say at which input.
  Laid BY PROGRAM, IN A SANDBOX (cutbox-rows.mjs): the forced cells as the released guide's own fill.sh prints them over the translation d6c6998cf39236d9… (all of the seat's roots in one cut). By AI agents, Wed Nov 11 2026. No macro, syntax, notation, axiom, sorry.
-/
import Derived.Test.YtdgdkfkdhbnliaaChecked
import GoSem.Claim
import GoSem.ClaimJoined
import GoSem.ClaimMapViews
import Derived.JoinedTies
import Derived.KernelRfl
namespace Go.Proofs.Ytdgdkfkdhbnliaa
/- THE CELL 'sum', in the pinned program and in every row, IS THE sha256 OF THE DUMP (.gsa) THAT YtdgdkfkdhbnliaaProg.lean LOADS. Nothing in Lean hashes anything: it is a label: what it is worth is what the hold of that sum in a sandbox is worth. -/
noncomputable def Try.pinned : Pinned := { name := "ytdgdkfkdhbnliaa", sum := "d6c6998cf39236d9841c3613688a8e02130f628df35b402a9d2327b81bcf2e14", checked := Try.checked }
namespace Rows
def none {H : Type} : Left H := { results := [], args := [] }

/-- 'lateenlaw02.FloDoes': WHATEVER THE INPUT: true; the input reads as it did. -/
def floDoesSpec : ChangeSpec := { name := "floDoes", fn := fun _ => fun
  | [d1, d2, d3] => { results := [.lit (.bool true)], args := [d1, d2, d3] }
  | _ => none }
def floDoesRow : OpenClaim := { program := "ytdgdkfkdhbnliaa", sum := "d6c6998cf39236d9841c3613688a8e02130f628df35b402a9d2327b81bcf2e14", func := "lateen/lateenlaw02.FloDoes", spec := "floDoes", inPlace := ["math.Float64frombits", "math.Float64bits"], apart := false }
def FloDoesSaid : Prop := floDoesRow.holds Try.pinned (OpenSpec.ofChange floDoesSpec)

/-- ITS FALSE NEIGHBOUR: 'it returns false'. Refute it at one input. -/
def floDoesWrong : ChangeSpec := { name := "floDoes", fn := fun _ => fun
  | [d1, d2, d3] => { results := [.lit (.bool false)], args := [d1, d2, d3] }
  | _ => none }
def FloDoesWrongFalsely : Prop := floDoesRow.holds Try.pinned (OpenSpec.ofChange floDoesWrong)

/-- 'lateenlaw02.FloTurns': WHATEVER THE INPUT: true; the input reads as it did. -/
def floTurnsSpec : ChangeSpec := { name := "floTurns", fn := fun _ => fun
  | [d] => { results := [.lit (.bool true)], args := [d] }
  | _ => none }
def floTurnsRow : OpenClaim := { program := "ytdgdkfkdhbnliaa", sum := "d6c6998cf39236d9841c3613688a8e02130f628df35b402a9d2327b81bcf2e14", func := "lateen/lateenlaw02.FloTurns", spec := "floTurns", inPlace := ["math.Float64frombits", "math.Float64bits"], apart := false }
def FloTurnsSaid : Prop := floTurnsRow.holds Try.pinned (OpenSpec.ofChange floTurnsSpec)

/-- ITS FALSE NEIGHBOUR: 'it returns false'. Refute it at one input. -/
def floTurnsWrong : ChangeSpec := { name := "floTurns", fn := fun _ => fun
  | [d] => { results := [.lit (.bool false)], args := [d] }
  | _ => none }
def FloTurnsWrongFalsely : Prop := floTurnsRow.holds Try.pinned (OpenSpec.ofChange floTurnsWrong)

/-- 'lateenlaw02.FloTexts': WHATEVER THE INPUT: true; the input reads as it did. -/
def floTextsSpec : ChangeSpec := { name := "floTexts", fn := fun _ => fun
  | [d1, d2] => { results := [.lit (.bool true)], args := [d1, d2] }
  | _ => none }
def floTextsRow : OpenClaim := { program := "ytdgdkfkdhbnliaa", sum := "d6c6998cf39236d9841c3613688a8e02130f628df35b402a9d2327b81bcf2e14", func := "lateen/lateenlaw02.FloTexts", spec := "floTexts", inPlace := ["math.Float64frombits", "math.Float64bits"], apart := false }
def FloTextsSaid : Prop := floTextsRow.holds Try.pinned (OpenSpec.ofChange floTextsSpec)

/-- ITS FALSE NEIGHBOUR: 'it returns false'. Refute it at one input. -/
def floTextsWrong : ChangeSpec := { name := "floTexts", fn := fun _ => fun
  | [d1, d2] => { results := [.lit (.bool false)], args := [d1, d2] }
  | _ => none }
def FloTextsWrongFalsely : Prop := floTextsRow.holds Try.pinned (OpenSpec.ofChange floTextsWrong)

/-- 'lateenlaw02.FloEdges': WHATEVER THE INPUT: true; the input reads as it did. -/
def floEdgesSpec : ChangeSpec := { name := "floEdges", fn := fun _ => fun
  | [d1, d2, d3] => { results := [.lit (.bool true)], args := [d1, d2, d3] }
  | _ => none }
def floEdgesRow : OpenClaim := { program := "ytdgdkfkdhbnliaa", sum := "d6c6998cf39236d9841c3613688a8e02130f628df35b402a9d2327b81bcf2e14", func := "lateen/lateenlaw02.FloEdges", spec := "floEdges", inPlace := ["math.Float64frombits", "math.Float64bits"], apart := false }
def FloEdgesSaid : Prop := floEdgesRow.holds Try.pinned (OpenSpec.ofChange floEdgesSpec)

/-- ITS FALSE NEIGHBOUR: 'it returns false'. Refute it at one input. -/
def floEdgesWrong : ChangeSpec := { name := "floEdges", fn := fun _ => fun
  | [d1, d2, d3] => { results := [.lit (.bool false)], args := [d1, d2, d3] }
  | _ => none }
def FloEdgesWrongFalsely : Prop := floEdgesRow.holds Try.pinned (OpenSpec.ofChange floEdgesWrong)

/-- 'lateenlaw02.FloSame': WHATEVER THE INPUT: true; the input reads as it did. -/
def floSameSpec : ChangeSpec := { name := "floSame", fn := fun _ => fun
  | [d1, d2] => { results := [.lit (.bool true)], args := [d1, d2] }
  | _ => none }
def floSameRow : OpenClaim := { program := "ytdgdkfkdhbnliaa", sum := "d6c6998cf39236d9841c3613688a8e02130f628df35b402a9d2327b81bcf2e14", func := "lateen/lateenlaw02.FloSame", spec := "floSame", inPlace := ["math.Float64frombits", "math.Float64bits"], apart := false }
def FloSameSaid : Prop := floSameRow.holds Try.pinned (OpenSpec.ofChange floSameSpec)

/-- ITS FALSE NEIGHBOUR: 'it returns false'. Refute it at one input. -/
def floSameWrong : ChangeSpec := { name := "floSame", fn := fun _ => fun
  | [d1, d2] => { results := [.lit (.bool false)], args := [d1, d2] }
  | _ => none }
def FloSameWrongFalsely : Prop := floSameRow.holds Try.pinned (OpenSpec.ofChange floSameWrong)

/-- 'lateenlaw02.FloOrder': WHATEVER THE INPUT: true; the input reads as it did. -/
def floOrderSpec : ChangeSpec := { name := "floOrder", fn := fun _ => fun
  | [d1, d2] => { results := [.lit (.bool true)], args := [d1, d2] }
  | _ => none }
def floOrderRow : OpenClaim := { program := "ytdgdkfkdhbnliaa", sum := "d6c6998cf39236d9841c3613688a8e02130f628df35b402a9d2327b81bcf2e14", func := "lateen/lateenlaw02.FloOrder", spec := "floOrder", inPlace := ["math.Float64frombits", "math.Float64bits"], apart := false }
def FloOrderSaid : Prop := floOrderRow.holds Try.pinned (OpenSpec.ofChange floOrderSpec)

/-- ITS FALSE NEIGHBOUR: 'it returns false'. Refute it at one input. -/
def floOrderWrong : ChangeSpec := { name := "floOrder", fn := fun _ => fun
  | [d1, d2] => { results := [.lit (.bool false)], args := [d1, d2] }
  | _ => none }
def FloOrderWrongFalsely : Prop := floOrderRow.holds Try.pinned (OpenSpec.ofChange floOrderWrong)

/-- 'lateenlaw02.FloWhole': WHATEVER THE INPUT: true; the input reads as it did. -/
def floWholeSpec : ChangeSpec := { name := "floWhole", fn := fun _ => fun
  | [d1, d2] => { results := [.lit (.bool true)], args := [d1, d2] }
  | _ => none }
def floWholeRow : OpenClaim := { program := "ytdgdkfkdhbnliaa", sum := "d6c6998cf39236d9841c3613688a8e02130f628df35b402a9d2327b81bcf2e14", func := "lateen/lateenlaw02.FloWhole", spec := "floWhole", inPlace := ["math.Float64frombits", "math.Float64bits"], apart := false }
def FloWholeSaid : Prop := floWholeRow.holds Try.pinned (OpenSpec.ofChange floWholeSpec)

/-- ITS FALSE NEIGHBOUR: 'it returns false'. Refute it at one input. -/
def floWholeWrong : ChangeSpec := { name := "floWhole", fn := fun _ => fun
  | [d1, d2] => { results := [.lit (.bool false)], args := [d1, d2] }
  | _ => none }
def FloWholeWrongFalsely : Prop := floWholeRow.holds Try.pinned (OpenSpec.ofChange floWholeWrong)

/- THE SECOND FORM. 'bulk': how many values and letters a reading holds, each counted each time it is reached (what is shared counts as often as it is met; a slice's spare places count too). A statement '..UptoSaid' is the law's where the arguments, and the package variables that the reading takes, are together of bulk at most 1048576: NARROWER than '..Said'. Prove '..Said' where nothing that the law and all that it calls make is longer than what came in: it says more and counts as full. Else prove '..UptoSaid'. A law counts once. -/
mutual
def uptoBulk {H : Type} : DataW H → Nat
  | .lit (.string bytes) => bytes.length + 1
  | .lit _ => 1
  | .nil => 1
  | .ptr d => uptoBulk d + 1
  | .slice elems spare => uptoBulkAll elems + uptoBulkAll spare + 1
  | .agg parts => uptoBulkAll parts + 1
  | .iface _ d => uptoBulk d + 1
  | .map entries => uptoBulkEntries entries + 1
  | .held _ => 1
def uptoBulkAll {H : Type} : List (DataW H) → Nat
  | [] => 0
  | d :: r => uptoBulk d + uptoBulkAll r
def uptoBulkEntries {H : Type} : List (Lit × DataW H) → Nat
  | [] => 0
  | x :: r => uptoBulkEntry x + uptoBulkEntries r
def uptoBulkEntry {H : Type} : Lit × DataW H → Nat
  | (.string bytes, d) => bytes.length + uptoBulk d + 1
  | (_, d) => uptoBulk d + 1
 end
def uptoSmall : (H : Type) → List (DataW H) → Bool := fun _ ds => decide (uptoBulkAll ds ≤ 1048576)
def OpenSpec.upto (s : _root_.Go.ChangeSpec) : _root_.Go.OpenSpec := { _root_.Go.OpenSpec.ofChange s with cond := some uptoSmall }

/-- 'lateenlaw02.FloDoes', WHERE WHAT IT READS IS OF BULK AT MOST 1048576: true; the input reads as it did. -/
def floDoesUptoRow : OpenClaim := { program := "ytdgdkfkdhbnliaa", sum := "d6c6998cf39236d9841c3613688a8e02130f628df35b402a9d2327b81bcf2e14", func := "lateen/lateenlaw02.FloDoes", spec := "floDoes", inPlace := ["math.Float64frombits", "math.Float64bits"], apart := false, narrowed := true }
def FloDoesUptoSaid : Prop := floDoesUptoRow.holds Try.pinned (OpenSpec.upto floDoesSpec)

/-- 'lateenlaw02.FloTurns', WHERE WHAT IT READS IS OF BULK AT MOST 1048576: true; the input reads as it did. -/
def floTurnsUptoRow : OpenClaim := { program := "ytdgdkfkdhbnliaa", sum := "d6c6998cf39236d9841c3613688a8e02130f628df35b402a9d2327b81bcf2e14", func := "lateen/lateenlaw02.FloTurns", spec := "floTurns", inPlace := ["math.Float64frombits", "math.Float64bits"], apart := false, narrowed := true }
def FloTurnsUptoSaid : Prop := floTurnsUptoRow.holds Try.pinned (OpenSpec.upto floTurnsSpec)

/-- 'lateenlaw02.FloTexts', WHERE WHAT IT READS IS OF BULK AT MOST 1048576: true; the input reads as it did. -/
def floTextsUptoRow : OpenClaim := { program := "ytdgdkfkdhbnliaa", sum := "d6c6998cf39236d9841c3613688a8e02130f628df35b402a9d2327b81bcf2e14", func := "lateen/lateenlaw02.FloTexts", spec := "floTexts", inPlace := ["math.Float64frombits", "math.Float64bits"], apart := false, narrowed := true }
def FloTextsUptoSaid : Prop := floTextsUptoRow.holds Try.pinned (OpenSpec.upto floTextsSpec)

/-- 'lateenlaw02.FloEdges', WHERE WHAT IT READS IS OF BULK AT MOST 1048576: true; the input reads as it did. -/
def floEdgesUptoRow : OpenClaim := { program := "ytdgdkfkdhbnliaa", sum := "d6c6998cf39236d9841c3613688a8e02130f628df35b402a9d2327b81bcf2e14", func := "lateen/lateenlaw02.FloEdges", spec := "floEdges", inPlace := ["math.Float64frombits", "math.Float64bits"], apart := false, narrowed := true }
def FloEdgesUptoSaid : Prop := floEdgesUptoRow.holds Try.pinned (OpenSpec.upto floEdgesSpec)

/-- 'lateenlaw02.FloSame', WHERE WHAT IT READS IS OF BULK AT MOST 1048576: true; the input reads as it did. -/
def floSameUptoRow : OpenClaim := { program := "ytdgdkfkdhbnliaa", sum := "d6c6998cf39236d9841c3613688a8e02130f628df35b402a9d2327b81bcf2e14", func := "lateen/lateenlaw02.FloSame", spec := "floSame", inPlace := ["math.Float64frombits", "math.Float64bits"], apart := false, narrowed := true }
def FloSameUptoSaid : Prop := floSameUptoRow.holds Try.pinned (OpenSpec.upto floSameSpec)

/-- 'lateenlaw02.FloOrder', WHERE WHAT IT READS IS OF BULK AT MOST 1048576: true; the input reads as it did. -/
def floOrderUptoRow : OpenClaim := { program := "ytdgdkfkdhbnliaa", sum := "d6c6998cf39236d9841c3613688a8e02130f628df35b402a9d2327b81bcf2e14", func := "lateen/lateenlaw02.FloOrder", spec := "floOrder", inPlace := ["math.Float64frombits", "math.Float64bits"], apart := false, narrowed := true }
def FloOrderUptoSaid : Prop := floOrderUptoRow.holds Try.pinned (OpenSpec.upto floOrderSpec)

/-- 'lateenlaw02.FloWhole', WHERE WHAT IT READS IS OF BULK AT MOST 1048576: true; the input reads as it did. -/
def floWholeUptoRow : OpenClaim := { program := "ytdgdkfkdhbnliaa", sum := "d6c6998cf39236d9841c3613688a8e02130f628df35b402a9d2327b81bcf2e14", func := "lateen/lateenlaw02.FloWhole", spec := "floWhole", inPlace := ["math.Float64frombits", "math.Float64bits"], apart := false, narrowed := true }
def FloWholeUptoSaid : Prop := floWholeUptoRow.holds Try.pinned (OpenSpec.upto floWholeSpec)

end Rows
end Go.Proofs.Ytdgdkfkdhbnliaa
