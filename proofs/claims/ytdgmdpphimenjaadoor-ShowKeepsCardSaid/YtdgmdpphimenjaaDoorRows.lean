/-
  NARROWER THAN 'FOR EVERY INPUT', by the rows' own cells (each row's printed sentence says how): ShowKeeps: laid · LiveKeeps: laid.
  DERIVED. THE GIVEN ROWS OF THIS SEAT. 2 by the template 'for every input the law returns true; each argument reads behind the call as it read before'; 0 by the template 'total and deterministic' (their statements: YtdgmdpphimenjaaDoorTotals.lean).
  GIVEN WITH THE SEED: the statements are not yours to turn. If you find one false, say at which input.
  Laid BY PROGRAM, IN A SANDBOX (cutbox-rows.mjs): the forced cells as the released guide's own fill.sh prints them over the translation 4c2ae5c396ff0565… (all of the seat's roots in one cut). By AI agents, Wed Nov 11 2026. No macro, syntax, notation, axiom, sorry.
-/
import Derived.Test.YtdgmdpphimenjaaDoorChecked
import GoSem.Claim
import GoSem.ClaimJoined
import GoSem.ClaimMapViews
import Derived.JoinedTies
import Derived.KernelRfl
namespace Go.Proofs.YtdgmdpphimenjaaDoor
/- THE CELL 'sum', in the pinned program and in every row, IS THE sha256 OF THE DUMP (.gsa) THAT YtdgmdpphimenjaaDoorProg.lean LOADS. Nothing in Lean hashes anything: it is a label: what it is worth is what the hold of that sum in a sandbox is worth. -/
noncomputable def Tryd.pinned : Pinned := { name := "ytdgmdpphimenjaadoor", sum := "4c2ae5c396ff05657fcefb41a3e9b9301ae8ed9812716281acff654d6b059b8c", checked := Tryd.checked }
namespace Rows
def none {H : Type} : Left H := { results := [], args := [] }

/- WHAT THE LISTED PACKAGE-LEVEL VARIABLES READ AS WHEN THE CALL BEGINS. Each datum BY PROGRAM (the guide's laid-datum.mjs) off the statement by which the dump's own 'gosem.cut.vars' lays the variable. In a bare row this is a premise. The card (YtdgmdpphimenjaaDoorCards.lean) ties it to the program's text. -/
def laid_lateen_lateenref05_words {H : Type} : DataW H := .agg [.lit (.string []), .lit (.string [97, 100, 100]), .lit (.string [115, 117, 98]), .lit (.string [109, 117, 108]), .lit (.string [100, 105, 118]), .lit (.string [114, 101, 109]), .lit (.string [97, 110, 100]), .lit (.string [111, 114]), .lit (.string [120, 111, 114]), .lit (.string [115, 104, 108]), .lit (.string [115, 104, 114]), .lit (.string [101, 113]), .lit (.string [110, 101]), .lit (.string [108, 116]), .lit (.string [108, 101]), .lit (.string [102, 97, 100, 100]), .lit (.string [102, 115, 117, 98]), .lit (.string [102, 109, 117, 108]), .lit (.string [102, 100, 105, 118]), .lit (.string [102, 101, 113]), .lit (.string [102, 108, 116]), .lit (.string [102, 108, 101]), .lit (.string [105, 116, 111, 102]), .lit (.string [102, 116, 111, 105]), .lit (.string [109, 111, 118]), .lit (.string [110, 101, 119]), .lit (.string [108, 111, 97, 100]), .lit (.string [115, 116, 111, 114, 101]), .lit (.string [115, 97, 109, 101]), .lit (.string [103, 108, 111, 97, 100]), .lit (.string [103, 115, 116, 111, 114, 101]), .lit (.string [99, 97, 108, 108]), .lit (.string [101, 120, 116]), .lit (.string [111, 117, 116]), .lit (.string [103, 117, 97, 114, 100])]
def laid_lateen_syntax_words {H : Type} : DataW H := .agg [.lit (.string []), .lit (.string [97, 100, 100]), .lit (.string [115, 117, 98]), .lit (.string [109, 117, 108]), .lit (.string [100, 105, 118]), .lit (.string [114, 101, 109]), .lit (.string [97, 110, 100]), .lit (.string [111, 114]), .lit (.string [120, 111, 114]), .lit (.string [115, 104, 108]), .lit (.string [115, 104, 114]), .lit (.string [101, 113]), .lit (.string [110, 101]), .lit (.string [108, 116]), .lit (.string [108, 101]), .lit (.string [102, 97, 100, 100]), .lit (.string [102, 115, 117, 98]), .lit (.string [102, 109, 117, 108]), .lit (.string [102, 100, 105, 118]), .lit (.string [102, 101, 113]), .lit (.string [102, 108, 116]), .lit (.string [102, 108, 101]), .lit (.string [105, 116, 111, 102]), .lit (.string [102, 116, 111, 105]), .lit (.string [109, 111, 118]), .lit (.string [110, 101, 119]), .lit (.string [108, 111, 97, 100]), .lit (.string [115, 116, 111, 114, 101]), .lit (.string [115, 97, 109, 101]), .lit (.string [103, 108, 111, 97, 100]), .lit (.string [103, 115, 116, 111, 114, 101]), .lit (.string [99, 97, 108, 108]), .lit (.string [101, 120, 116]), .lit (.string [111, 117, 116]), .lit (.string [103, 117, 97, 114, 100])]

/-- 'lateenlaw06.ShowKeeps': WHATEVER THE INPUT: true; the input reads as it did. -/
def showKeepsSpec : ChangeSpec := { name := "showKeeps", fn := fun _ => fun
  | [d] => { results := [.lit (.bool true)], args := [d] }
  | _ => none }
def showKeepsRow : OpenClaim := { program := "ytdgmdpphimenjaadoor", sum := "4c2ae5c396ff05657fcefb41a3e9b9301ae8ed9812716281acff654d6b059b8c", func := "lateen/lateenlaw06.ShowKeeps", spec := "showKeeps", inPlace := ["internal/abi.NoEscape"], unfollowed := true, recurses := true, named := ["lateen/syntax.words", "lateen/lateenref05.words"], apart := false, laid := [("lateen/lateenref05.words", laid_lateen_lateenref05_words), ("lateen/syntax.words", laid_lateen_syntax_words)] }
def ShowKeepsSaid : Prop := showKeepsRow.holds Tryd.pinned (OpenSpec.ofChange showKeepsSpec)

/-- ITS FALSE NEIGHBOUR: 'it returns false'. Refute it at one input. -/
def showKeepsWrong : ChangeSpec := { name := "showKeeps", fn := fun _ => fun
  | [d] => { results := [.lit (.bool false)], args := [d] }
  | _ => none }
def ShowKeepsWrongFalsely : Prop := showKeepsRow.holds Tryd.pinned (OpenSpec.ofChange showKeepsWrong)

/-- 'lateenlaw12.LiveKeeps': WHATEVER THE INPUT: true; the input reads as it did. -/
def liveKeepsSpec : ChangeSpec := { name := "liveKeeps", fn := fun _ => fun
  | [d] => { results := [.lit (.bool true)], args := [d] }
  | _ => none }
def liveKeepsRow : OpenClaim := { program := "ytdgmdpphimenjaadoor", sum := "4c2ae5c396ff05657fcefb41a3e9b9301ae8ed9812716281acff654d6b059b8c", func := "lateen/lateenlaw12.LiveKeeps", spec := "liveKeeps", inPlace := ["maps.clone"], unfollowed := true, recurses := true, named := ["lateen/lateenref05.words"], apart := false, laid := [("lateen/lateenref05.words", laid_lateen_lateenref05_words)] }
def LiveKeepsSaid : Prop := liveKeepsRow.holds Tryd.pinned (OpenSpec.ofChange liveKeepsSpec)

/-- ITS FALSE NEIGHBOUR: 'it returns false'. Refute it at one input. -/
def liveKeepsWrong : ChangeSpec := { name := "liveKeeps", fn := fun _ => fun
  | [d] => { results := [.lit (.bool false)], args := [d] }
  | _ => none }
def LiveKeepsWrongFalsely : Prop := liveKeepsRow.holds Tryd.pinned (OpenSpec.ofChange liveKeepsWrong)

/- THE SECOND FORM. 'bulk': how many values and letters a reading holds, each counted each time it is reached (what is shared counts as often as it is met; a slice's spare places count too). A statement '..UptoSaid' is the law's where the arguments, and the package variables that the reading takes, are together of bulk at most 1048576: NARROWER than '..Said'. Prove '..Said' where nothing that the law and all that it calls make is longer than what came in: it says more and counts as full. Else prove '..UptoSaid'. A law counts once. -/
mutual
def uptoBulk {H : Type} : DataW H → Nat
  | .lit (.string bytes) => bytes.length + 1
  | .lit _ => 1
  | .nil => 1
  | .ptr d => uptoBulk d + 1
  | .slice elems spare => uptoBulkAll elems + uptoBulkAll spare + 1
  | .agg parts => uptoBulkAll parts + 1
  | .iface _ d => uptoBulk d + 1
  | .map entries => uptoBulkEntries entries + 1
  | .held _ => 1
def uptoBulkAll {H : Type} : List (DataW H) → Nat
  | [] => 0
  | d :: r => uptoBulk d + uptoBulkAll r
def uptoBulkEntries {H : Type} : List (Lit × DataW H) → Nat
  | [] => 0
  | x :: r => uptoBulkEntry x + uptoBulkEntries r
def uptoBulkEntry {H : Type} : Lit × DataW H → Nat
  | (.string bytes, d) => bytes.length + uptoBulk d + 1
  | (_, d) => uptoBulk d + 1
 end
def uptoSmall : (H : Type) → List (DataW H) → Bool := fun _ ds => decide (uptoBulkAll ds ≤ 1048576)
def OpenSpec.upto (s : _root_.Go.ChangeSpec) : _root_.Go.OpenSpec := { _root_.Go.OpenSpec.ofChange s with cond := some uptoSmall }

/-- 'lateenlaw06.ShowKeeps', WHERE WHAT IT READS IS OF BULK AT MOST 1048576: true; the input reads as it did. -/
def showKeepsUptoRow : OpenClaim := { program := "ytdgmdpphimenjaadoor", sum := "4c2ae5c396ff05657fcefb41a3e9b9301ae8ed9812716281acff654d6b059b8c", func := "lateen/lateenlaw06.ShowKeeps", spec := "showKeeps", inPlace := ["internal/abi.NoEscape"], unfollowed := true, recurses := true, named := ["lateen/syntax.words", "lateen/lateenref05.words"], apart := false, laid := [("lateen/lateenref05.words", laid_lateen_lateenref05_words), ("lateen/syntax.words", laid_lateen_syntax_words)], narrowed := true }
def ShowKeepsUptoSaid : Prop := showKeepsUptoRow.holds Tryd.pinned (OpenSpec.upto showKeepsSpec)

/-- 'lateenlaw12.LiveKeeps', WHERE WHAT IT READS IS OF BULK AT MOST 1048576: true; the input reads as it did. -/
def liveKeepsUptoRow : OpenClaim := { program := "ytdgmdpphimenjaadoor", sum := "4c2ae5c396ff05657fcefb41a3e9b9301ae8ed9812716281acff654d6b059b8c", func := "lateen/lateenlaw12.LiveKeeps", spec := "liveKeeps", inPlace := ["maps.clone"], unfollowed := true, recurses := true, named := ["lateen/lateenref05.words"], apart := false, laid := [("lateen/lateenref05.words", laid_lateen_lateenref05_words)], narrowed := true }
def LiveKeepsUptoSaid : Prop := liveKeepsUptoRow.holds Tryd.pinned (OpenSpec.upto liveKeepsSpec)

end Rows
end Go.Proofs.YtdgmdpphimenjaaDoor
