/-
  NARROWER THAN 'FOR EVERY INPUT', by the rows' own cells (each row's printed sentence says how): TypesFinds: laid · TypesInstrs: laid · TypesEnds: laid · TypesKeep: laid · TypesFits: laid · TypesNames: laid.
  DERIVED. THE GIVEN ROWS OF THIS SEAT. 6 by the template 'for every input the law returns true; each argument reads behind the call as it read before'; 0 by the template 'total and deterministic' (their statements: YtikfncgdjnljiaaDoorTotals.lean).
  GIVEN WITH THE SEED: the statements are not yours to turn. If you find one false, say at which input.
  Laid BY PROGRAM, IN A SANDBOX (cutbox-rows.mjs): the forced cells as the released guide's own fill.sh prints them over the translation bf52dbfebbfadefb… (all of the seat's roots in one cut). By AI agents, Wed Nov 11 2026. No macro, syntax, notation, axiom, sorry.
-/
import Derived.Test.YtikfncgdjnljiaaDoorChecked
import GoSem.Claim
import GoSem.ClaimJoined
import GoSem.ClaimMapViews
import Derived.JoinedTies
import Derived.KernelRfl
namespace Go.Proofs.YtikfncgdjnljiaaDoor
/- THE CELL 'sum', in the pinned program and in every row, IS THE sha256 OF THE DUMP (.gsa) THAT YtikfncgdjnljiaaDoorProg.lean LOADS. Nothing in Lean hashes anything: it is a label: what it is worth is what the hold of that sum in a sandbox is worth. -/
noncomputable def Tryd.pinned : Pinned := { name := "ytikfncgdjnljiaadoor", sum := "bf52dbfebbfadefb9fd43f69d4d01b266daa90a87f4ef0d659980a4de3b2c0c5", checked := Tryd.checked }
namespace Rows
def none {H : Type} : Left H := { results := [], args := [] }

/- WHAT THE LISTED PACKAGE-LEVEL VARIABLES READ AS WHEN THE CALL BEGINS. Each datum BY PROGRAM (the guide's laid-datum.mjs) off the statement by which the dump's own 'gosem.cut.vars' lays the variable. In a bare row this is a premise. The card (YtikfncgdjnljiaaDoorCards.lean) ties it to the program's text. -/
def laid_lateen_syntax_words {H : Type} : DataW H := .agg [.lit (.string []), .lit (.string [97, 100, 100]), .lit (.string [115, 117, 98]), .lit (.string [109, 117, 108]), .lit (.string [100, 105, 118]), .lit (.string [114, 101, 109]), .lit (.string [97, 110, 100]), .lit (.string [111, 114]), .lit (.string [120, 111, 114]), .lit (.string [115, 104, 108]), .lit (.string [115, 104, 114]), .lit (.string [101, 113]), .lit (.string [110, 101]), .lit (.string [108, 116]), .lit (.string [108, 101]), .lit (.string [102, 97, 100, 100]), .lit (.string [102, 115, 117, 98]), .lit (.string [102, 109, 117, 108]), .lit (.string [102, 100, 105, 118]), .lit (.string [102, 101, 113]), .lit (.string [102, 108, 116]), .lit (.string [102, 108, 101]), .lit (.string [105, 116, 111, 102]), .lit (.string [102, 116, 111, 105]), .lit (.string [109, 111, 118]), .lit (.string [110, 101, 119]), .lit (.string [108, 111, 97, 100]), .lit (.string [115, 116, 111, 114, 101]), .lit (.string [115, 97, 109, 101]), .lit (.string [103, 108, 111, 97, 100]), .lit (.string [103, 115, 116, 111, 114, 101]), .lit (.string [99, 97, 108, 108]), .lit (.string [101, 120, 116]), .lit (.string [111, 117, 116]), .lit (.string [103, 117, 97, 114, 100])]
def laid_lateen_lateenref05_words {H : Type} : DataW H := .agg [.lit (.string []), .lit (.string [97, 100, 100]), .lit (.string [115, 117, 98]), .lit (.string [109, 117, 108]), .lit (.string [100, 105, 118]), .lit (.string [114, 101, 109]), .lit (.string [97, 110, 100]), .lit (.string [111, 114]), .lit (.string [120, 111, 114]), .lit (.string [115, 104, 108]), .lit (.string [115, 104, 114]), .lit (.string [101, 113]), .lit (.string [110, 101]), .lit (.string [108, 116]), .lit (.string [108, 101]), .lit (.string [102, 97, 100, 100]), .lit (.string [102, 115, 117, 98]), .lit (.string [102, 109, 117, 108]), .lit (.string [102, 100, 105, 118]), .lit (.string [102, 101, 113]), .lit (.string [102, 108, 116]), .lit (.string [102, 108, 101]), .lit (.string [105, 116, 111, 102]), .lit (.string [102, 116, 111, 105]), .lit (.string [109, 111, 118]), .lit (.string [110, 101, 119]), .lit (.string [108, 111, 97, 100]), .lit (.string [115, 116, 111, 114, 101]), .lit (.string [115, 97, 109, 101]), .lit (.string [103, 108, 111, 97, 100]), .lit (.string [103, 115, 116, 111, 114, 101]), .lit (.string [99, 97, 108, 108]), .lit (.string [101, 120, 116]), .lit (.string [111, 117, 116]), .lit (.string [103, 117, 97, 114, 100])]

/-- 'lateenlaw07.TypesFinds': WHATEVER THE INPUT: true; the input reads as it did. -/
def typesFindsSpec : ChangeSpec := { name := "typesFinds", fn := fun _ => fun
  | [d1, d2, d3, d4, d5] => { results := [.lit (.bool true)], args := [d1, d2, d3, d4, d5] }
  | _ => none }
def typesFindsRow : OpenClaim := { program := "ytikfncgdjnljiaadoor", sum := "bf52dbfebbfadefb9fd43f69d4d01b266daa90a87f4ef0d659980a4de3b2c0c5", func := "lateen/lateenlaw07.TypesFinds", spec := "typesFinds", unfollowed := true, recurses := true, named := ["lateen/syntax.words"], apart := false, laid := [("lateen/syntax.words", laid_lateen_syntax_words)] }
def TypesFindsSaid : Prop := typesFindsRow.holds Tryd.pinned (OpenSpec.ofChange typesFindsSpec)

/-- ITS FALSE NEIGHBOUR: 'it returns false'. Refute it at one input. -/
def typesFindsWrong : ChangeSpec := { name := "typesFinds", fn := fun _ => fun
  | [d1, d2, d3, d4, d5] => { results := [.lit (.bool false)], args := [d1, d2, d3, d4, d5] }
  | _ => none }
def TypesFindsWrongFalsely : Prop := typesFindsRow.holds Tryd.pinned (OpenSpec.ofChange typesFindsWrong)

/-- 'lateenlaw07.TypesInstrs': WHATEVER THE INPUT: true; the input reads as it did. -/
def typesInstrsSpec : ChangeSpec := { name := "typesInstrs", fn := fun _ => fun
  | [d1, d2, d3] => { results := [.lit (.bool true)], args := [d1, d2, d3] }
  | _ => none }
def typesInstrsRow : OpenClaim := { program := "ytikfncgdjnljiaadoor", sum := "bf52dbfebbfadefb9fd43f69d4d01b266daa90a87f4ef0d659980a4de3b2c0c5", func := "lateen/lateenlaw07.TypesInstrs", spec := "typesInstrs", unfollowed := true, recurses := true, named := ["lateen/syntax.words", "lateen/lateenref05.words"], apart := false, laid := [("lateen/lateenref05.words", laid_lateen_lateenref05_words), ("lateen/syntax.words", laid_lateen_syntax_words)] }
def TypesInstrsSaid : Prop := typesInstrsRow.holds Tryd.pinned (OpenSpec.ofChange typesInstrsSpec)

/-- ITS FALSE NEIGHBOUR: 'it returns false'. Refute it at one input. -/
def typesInstrsWrong : ChangeSpec := { name := "typesInstrs", fn := fun _ => fun
  | [d1, d2, d3] => { results := [.lit (.bool false)], args := [d1, d2, d3] }
  | _ => none }
def TypesInstrsWrongFalsely : Prop := typesInstrsRow.holds Tryd.pinned (OpenSpec.ofChange typesInstrsWrong)

/-- 'lateenlaw07.TypesEnds': WHATEVER THE INPUT: true; the input reads as it did. -/
def typesEndsSpec : ChangeSpec := { name := "typesEnds", fn := fun _ => fun
  | [d1, d2, d3] => { results := [.lit (.bool true)], args := [d1, d2, d3] }
  | _ => none }
def typesEndsRow : OpenClaim := { program := "ytikfncgdjnljiaadoor", sum := "bf52dbfebbfadefb9fd43f69d4d01b266daa90a87f4ef0d659980a4de3b2c0c5", func := "lateen/lateenlaw07.TypesEnds", spec := "typesEnds", unfollowed := true, recurses := true, named := ["lateen/syntax.words"], apart := false, laid := [("lateen/syntax.words", laid_lateen_syntax_words)] }
def TypesEndsSaid : Prop := typesEndsRow.holds Tryd.pinned (OpenSpec.ofChange typesEndsSpec)

/-- ITS FALSE NEIGHBOUR: 'it returns false'. Refute it at one input. -/
def typesEndsWrong : ChangeSpec := { name := "typesEnds", fn := fun _ => fun
  | [d1, d2, d3] => { results := [.lit (.bool false)], args := [d1, d2, d3] }
  | _ => none }
def TypesEndsWrongFalsely : Prop := typesEndsRow.holds Tryd.pinned (OpenSpec.ofChange typesEndsWrong)

/-- 'lateenlaw07.TypesKeep': WHATEVER THE INPUT: true; the input reads as it did. -/
def typesKeepSpec : ChangeSpec := { name := "typesKeep", fn := fun _ => fun
  | [d1, d2, d3, d4, d5] => { results := [.lit (.bool true)], args := [d1, d2, d3, d4, d5] }
  | _ => none }
def typesKeepRow : OpenClaim := { program := "ytikfncgdjnljiaadoor", sum := "bf52dbfebbfadefb9fd43f69d4d01b266daa90a87f4ef0d659980a4de3b2c0c5", func := "lateen/lateenlaw07.TypesKeep", spec := "typesKeep", unfollowed := true, recurses := true, named := ["lateen/syntax.words"], apart := false, laid := [("lateen/syntax.words", laid_lateen_syntax_words)] }
def TypesKeepSaid : Prop := typesKeepRow.holds Tryd.pinned (OpenSpec.ofChange typesKeepSpec)

/-- ITS FALSE NEIGHBOUR: 'it returns false'. Refute it at one input. -/
def typesKeepWrong : ChangeSpec := { name := "typesKeep", fn := fun _ => fun
  | [d1, d2, d3, d4, d5] => { results := [.lit (.bool false)], args := [d1, d2, d3, d4, d5] }
  | _ => none }
def TypesKeepWrongFalsely : Prop := typesKeepRow.holds Tryd.pinned (OpenSpec.ofChange typesKeepWrong)

/-- 'lateenlaw07.TypesFits': WHATEVER THE INPUT: true; the input reads as it did. -/
def typesFitsSpec : ChangeSpec := { name := "typesFits", fn := fun _ => fun
  | [d1, d2] => { results := [.lit (.bool true)], args := [d1, d2] }
  | _ => none }
def typesFitsRow : OpenClaim := { program := "ytikfncgdjnljiaadoor", sum := "bf52dbfebbfadefb9fd43f69d4d01b266daa90a87f4ef0d659980a4de3b2c0c5", func := "lateen/lateenlaw07.TypesFits", spec := "typesFits", unfollowed := true, recurses := true, named := ["lateen/syntax.words"], apart := false, laid := [("lateen/syntax.words", laid_lateen_syntax_words)] }
def TypesFitsSaid : Prop := typesFitsRow.holds Tryd.pinned (OpenSpec.ofChange typesFitsSpec)

/-- ITS FALSE NEIGHBOUR: 'it returns false'. Refute it at one input. -/
def typesFitsWrong : ChangeSpec := { name := "typesFits", fn := fun _ => fun
  | [d1, d2] => { results := [.lit (.bool false)], args := [d1, d2] }
  | _ => none }
def TypesFitsWrongFalsely : Prop := typesFitsRow.holds Tryd.pinned (OpenSpec.ofChange typesFitsWrong)

/-- 'lateenlaw07.TypesNames': WHATEVER THE INPUT: true; the input reads as it did. -/
def typesNamesSpec : ChangeSpec := { name := "typesNames", fn := fun _ => fun
  | [d1, d2] => { results := [.lit (.bool true)], args := [d1, d2] }
  | _ => none }
def typesNamesRow : OpenClaim := { program := "ytikfncgdjnljiaadoor", sum := "bf52dbfebbfadefb9fd43f69d4d01b266daa90a87f4ef0d659980a4de3b2c0c5", func := "lateen/lateenlaw07.TypesNames", spec := "typesNames", unfollowed := true, recurses := true, named := ["lateen/syntax.words"], apart := false, laid := [("lateen/syntax.words", laid_lateen_syntax_words)] }
def TypesNamesSaid : Prop := typesNamesRow.holds Tryd.pinned (OpenSpec.ofChange typesNamesSpec)

/-- ITS FALSE NEIGHBOUR: 'it returns false'. Refute it at one input. -/
def typesNamesWrong : ChangeSpec := { name := "typesNames", fn := fun _ => fun
  | [d1, d2] => { results := [.lit (.bool false)], args := [d1, d2] }
  | _ => none }
def TypesNamesWrongFalsely : Prop := typesNamesRow.holds Tryd.pinned (OpenSpec.ofChange typesNamesWrong)

/- THE SECOND FORM. 'bulk': how many values and letters a reading holds, each counted each time it is reached (what is shared counts as often as it is met; a slice's spare places count too). A statement '..UptoSaid' is the law's where the arguments, and the package variables that the reading takes, are together of bulk at most 1048576: NARROWER than '..Said'. Prove '..Said' where nothing that the law and all that it calls make is longer than what came in: it says more and counts as full. Else prove '..UptoSaid'. A law counts once. -/
mutual
def uptoBulk {H : Type} : DataW H → Nat
  | .lit (.string bytes) => bytes.length + 1
  | .lit _ => 1
  | .nil => 1
  | .ptr d => uptoBulk d + 1
  | .slice elems spare => uptoBulkAll elems + uptoBulkAll spare + 1
  | .agg parts => uptoBulkAll parts + 1
  | .iface _ d => uptoBulk d + 1
  | .map entries => uptoBulkEntries entries + 1
  | .held _ => 1
def uptoBulkAll {H : Type} : List (DataW H) → Nat
  | [] => 0
  | d :: r => uptoBulk d + uptoBulkAll r
def uptoBulkEntries {H : Type} : List (Lit × DataW H) → Nat
  | [] => 0
  | x :: r => uptoBulkEntry x + uptoBulkEntries r
def uptoBulkEntry {H : Type} : Lit × DataW H → Nat
  | (.string bytes, d) => bytes.length + uptoBulk d + 1
  | (_, d) => uptoBulk d + 1
 end
def uptoSmall : (H : Type) → List (DataW H) → Bool := fun _ ds => decide (uptoBulkAll ds ≤ 1048576)
def OpenSpec.upto (s : _root_.Go.ChangeSpec) : _root_.Go.OpenSpec := { _root_.Go.OpenSpec.ofChange s with cond := some uptoSmall }

/-- 'lateenlaw07.TypesFinds', WHERE WHAT IT READS IS OF BULK AT MOST 1048576: true; the input reads as it did. -/
def typesFindsUptoRow : OpenClaim := { program := "ytikfncgdjnljiaadoor", sum := "bf52dbfebbfadefb9fd43f69d4d01b266daa90a87f4ef0d659980a4de3b2c0c5", func := "lateen/lateenlaw07.TypesFinds", spec := "typesFinds", unfollowed := true, recurses := true, named := ["lateen/syntax.words"], apart := false, laid := [("lateen/syntax.words", laid_lateen_syntax_words)], narrowed := true }
def TypesFindsUptoSaid : Prop := typesFindsUptoRow.holds Tryd.pinned (OpenSpec.upto typesFindsSpec)

/-- 'lateenlaw07.TypesInstrs', WHERE WHAT IT READS IS OF BULK AT MOST 1048576: true; the input reads as it did. -/
def typesInstrsUptoRow : OpenClaim := { program := "ytikfncgdjnljiaadoor", sum := "bf52dbfebbfadefb9fd43f69d4d01b266daa90a87f4ef0d659980a4de3b2c0c5", func := "lateen/lateenlaw07.TypesInstrs", spec := "typesInstrs", unfollowed := true, recurses := true, named := ["lateen/syntax.words", "lateen/lateenref05.words"], apart := false, laid := [("lateen/lateenref05.words", laid_lateen_lateenref05_words), ("lateen/syntax.words", laid_lateen_syntax_words)], narrowed := true }
def TypesInstrsUptoSaid : Prop := typesInstrsUptoRow.holds Tryd.pinned (OpenSpec.upto typesInstrsSpec)

/-- 'lateenlaw07.TypesEnds', WHERE WHAT IT READS IS OF BULK AT MOST 1048576: true; the input reads as it did. -/
def typesEndsUptoRow : OpenClaim := { program := "ytikfncgdjnljiaadoor", sum := "bf52dbfebbfadefb9fd43f69d4d01b266daa90a87f4ef0d659980a4de3b2c0c5", func := "lateen/lateenlaw07.TypesEnds", spec := "typesEnds", unfollowed := true, recurses := true, named := ["lateen/syntax.words"], apart := false, laid := [("lateen/syntax.words", laid_lateen_syntax_words)], narrowed := true }
def TypesEndsUptoSaid : Prop := typesEndsUptoRow.holds Tryd.pinned (OpenSpec.upto typesEndsSpec)

/-- 'lateenlaw07.TypesKeep', WHERE WHAT IT READS IS OF BULK AT MOST 1048576: true; the input reads as it did. -/
def typesKeepUptoRow : OpenClaim := { program := "ytikfncgdjnljiaadoor", sum := "bf52dbfebbfadefb9fd43f69d4d01b266daa90a87f4ef0d659980a4de3b2c0c5", func := "lateen/lateenlaw07.TypesKeep", spec := "typesKeep", unfollowed := true, recurses := true, named := ["lateen/syntax.words"], apart := false, laid := [("lateen/syntax.words", laid_lateen_syntax_words)], narrowed := true }
def TypesKeepUptoSaid : Prop := typesKeepUptoRow.holds Tryd.pinned (OpenSpec.upto typesKeepSpec)

/-- 'lateenlaw07.TypesFits', WHERE WHAT IT READS IS OF BULK AT MOST 1048576: true; the input reads as it did. -/
def typesFitsUptoRow : OpenClaim := { program := "ytikfncgdjnljiaadoor", sum := "bf52dbfebbfadefb9fd43f69d4d01b266daa90a87f4ef0d659980a4de3b2c0c5", func := "lateen/lateenlaw07.TypesFits", spec := "typesFits", unfollowed := true, recurses := true, named := ["lateen/syntax.words"], apart := false, laid := [("lateen/syntax.words", laid_lateen_syntax_words)], narrowed := true }
def TypesFitsUptoSaid : Prop := typesFitsUptoRow.holds Tryd.pinned (OpenSpec.upto typesFitsSpec)

/-- 'lateenlaw07.TypesNames', WHERE WHAT IT READS IS OF BULK AT MOST 1048576: true; the input reads as it did. -/
def typesNamesUptoRow : OpenClaim := { program := "ytikfncgdjnljiaadoor", sum := "bf52dbfebbfadefb9fd43f69d4d01b266daa90a87f4ef0d659980a4de3b2c0c5", func := "lateen/lateenlaw07.TypesNames", spec := "typesNames", unfollowed := true, recurses := true, named := ["lateen/syntax.words"], apart := false, laid := [("lateen/syntax.words", laid_lateen_syntax_words)], narrowed := true }
def TypesNamesUptoSaid : Prop := typesNamesUptoRow.holds Tryd.pinned (OpenSpec.upto typesNamesSpec)

end Rows
end Go.Proofs.YtikfncgdjnljiaaDoor
