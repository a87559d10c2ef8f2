/-
  DERIVED. GIVEN WITH THE SEED: THE CARDS: each row of YtkfpcaganhmkcaaDoorRows.lean that lists a variable, with what it lists TIED to the program's text (the seventh form; the later family's looks); each row that meets fmt, with fmt's text TOLD by the authors' own Lean function (tested against real Go, not proved from fmt's source: count such statements apart). THE CARD IS WHAT COUNTS. Prove the row's statement (the work); the ties are given (YtkfpcaganhmkcaaDoorTie.lean); close each card by the builder's one call (the guide's Derived/Test/ToyasCard.lean, 'card_holds'). Laid BY PROGRAM, IN A SANDBOX (cutbox-door.mjs). By AI agents, Wed Nov 11 2026. No macro, syntax, notation, axiom, sorry.
-/
import Derived.Test.YtkfpcaganhmkcaaDoorRows
import GoSem.ClaimSeven
namespace Go.Proofs.YtkfpcaganhmkcaaDoor
namespace Rows

/-- THE TIED CARD OF 'lateenlaw05.SyntaxOps'. -/
def syntaxOpsCard : Claim7 := { stood := { row := syntaxOpsRow, standIns := [], harness := (true, "168553dacc54885a2745ae3d45d3b6b00b983aefccf27018c5b9867f67e75233"), looks := true }, kinds := [], alts := [], laidByText := true, laidKinds := [.data, .data], laidTests := true, laidLooks := .later }
def SyntaxOpsCardSaid : Prop := Claim7.holds Tryd.pinned (.plain (OpenSpec.ofChange syntaxOpsSpec)) syntaxOpsCard

/-- THE TIED CARD OF 'lateenlaw05.SyntaxForms'. -/
def syntaxFormsCard : Claim7 := { stood := { row := syntaxFormsRow, standIns := [], harness := (true, "168553dacc54885a2745ae3d45d3b6b00b983aefccf27018c5b9867f67e75233"), looks := true }, kinds := [], alts := [], laidByText := true, laidKinds := [.data], laidTests := true, laidLooks := .later }
def SyntaxFormsCardSaid : Prop := Claim7.holds Tryd.pinned (.plain (OpenSpec.ofChange syntaxFormsSpec)) syntaxFormsCard

/-- THE TIED CARD OF 'lateenlaw05.SyntaxBlank'. -/
def syntaxBlankCard : Claim7 := { stood := { row := syntaxBlankRow, standIns := [], harness := (true, "168553dacc54885a2745ae3d45d3b6b00b983aefccf27018c5b9867f67e75233"), looks := true }, kinds := [], alts := [], laidByText := true, laidKinds := [.data], laidTests := true, laidLooks := .later }
def SyntaxBlankCardSaid : Prop := Claim7.holds Tryd.pinned (.plain (OpenSpec.ofChange syntaxBlankSpec)) syntaxBlankCard

/-- THE TIED CARD OF 'lateenlaw05.SyntaxFront'. -/
def syntaxFrontCard : Claim7 := { stood := { row := syntaxFrontRow, standIns := [], harness := (true, "168553dacc54885a2745ae3d45d3b6b00b983aefccf27018c5b9867f67e75233"), looks := true }, kinds := [], alts := [], laidByText := true, laidKinds := [.data], laidTests := true, laidLooks := .later }
def SyntaxFrontCardSaid : Prop := Claim7.holds Tryd.pinned (.plain (OpenSpec.ofChange syntaxFrontSpec)) syntaxFrontCard

/-- THE TIED CARD OF 'lateenlaw06.ShowSpoilt'. -/
def showSpoiltCard : Claim7 := { stood := { row := showSpoiltRow, standIns := [], harness := (true, "168553dacc54885a2745ae3d45d3b6b00b983aefccf27018c5b9867f67e75233"), looks := true }, kinds := [], alts := [], laidByText := true, laidKinds := [.data], laidTests := true, laidLooks := .later }
def ShowSpoiltCardSaid : Prop := Claim7.holds Tryd.pinned (.plain (OpenSpec.ofChange showSpoiltSpec)) showSpoiltCard

/-- THE TIED CARD OF 'lateenlaw06.ShowUnlike'. -/
def showUnlikeCard : Claim7 := { stood := { row := showUnlikeRow, standIns := [], harness := (true, "168553dacc54885a2745ae3d45d3b6b00b983aefccf27018c5b9867f67e75233"), looks := true }, kinds := [], alts := [], laidByText := true, laidKinds := [.data], laidTests := true, laidLooks := .later }
def ShowUnlikeCardSaid : Prop := Claim7.holds Tryd.pinned (.plain (OpenSpec.ofChange showUnlikeSpec)) showUnlikeCard

/-- THE TIED CARD OF 'lateenlaw06.ShowKeeps'. -/
def showKeepsCard : Claim7 := { stood := { row := showKeepsRow, standIns := [], harness := (true, "168553dacc54885a2745ae3d45d3b6b00b983aefccf27018c5b9867f67e75233"), looks := true }, kinds := [], alts := [], laidByText := true, laidKinds := [.data, .data], laidTests := true, laidLooks := .later }
def ShowKeepsCardSaid : Prop := Claim7.holds Tryd.pinned (.plain (OpenSpec.ofChange showKeepsSpec)) showKeepsCard

/-- THE SECOND FORM's CARD OF 'lateenlaw05.SyntaxOps'. -/
def syntaxOpsUptoCard : Claim7 := { stood := { row := syntaxOpsUptoRow, standIns := [], harness := (true, "168553dacc54885a2745ae3d45d3b6b00b983aefccf27018c5b9867f67e75233"), looks := true }, kinds := [], alts := [], laidByText := true, laidKinds := [.data, .data], laidTests := true, laidLooks := .later }
def SyntaxOpsUptoCardSaid : Prop := Claim7.holds Tryd.pinned (.plain (OpenSpec.upto syntaxOpsSpec)) syntaxOpsUptoCard

/-- THE SECOND FORM's CARD OF 'lateenlaw05.SyntaxForms'. -/
def syntaxFormsUptoCard : Claim7 := { stood := { row := syntaxFormsUptoRow, standIns := [], harness := (true, "168553dacc54885a2745ae3d45d3b6b00b983aefccf27018c5b9867f67e75233"), looks := true }, kinds := [], alts := [], laidByText := true, laidKinds := [.data], laidTests := true, laidLooks := .later }
def SyntaxFormsUptoCardSaid : Prop := Claim7.holds Tryd.pinned (.plain (OpenSpec.upto syntaxFormsSpec)) syntaxFormsUptoCard

/-- THE SECOND FORM's CARD OF 'lateenlaw05.SyntaxBlank'. -/
def syntaxBlankUptoCard : Claim7 := { stood := { row := syntaxBlankUptoRow, standIns := [], harness := (true, "168553dacc54885a2745ae3d45d3b6b00b983aefccf27018c5b9867f67e75233"), looks := true }, kinds := [], alts := [], laidByText := true, laidKinds := [.data], laidTests := true, laidLooks := .later }
def SyntaxBlankUptoCardSaid : Prop := Claim7.holds Tryd.pinned (.plain (OpenSpec.upto syntaxBlankSpec)) syntaxBlankUptoCard

/-- THE SECOND FORM's CARD OF 'lateenlaw05.SyntaxFront'. -/
def syntaxFrontUptoCard : Claim7 := { stood := { row := syntaxFrontUptoRow, standIns := [], harness := (true, "168553dacc54885a2745ae3d45d3b6b00b983aefccf27018c5b9867f67e75233"), looks := true }, kinds := [], alts := [], laidByText := true, laidKinds := [.data], laidTests := true, laidLooks := .later }
def SyntaxFrontUptoCardSaid : Prop := Claim7.holds Tryd.pinned (.plain (OpenSpec.upto syntaxFrontSpec)) syntaxFrontUptoCard

/-- THE SECOND FORM's CARD OF 'lateenlaw06.ShowSpoilt'. -/
def showSpoiltUptoCard : Claim7 := { stood := { row := showSpoiltUptoRow, standIns := [], harness := (true, "168553dacc54885a2745ae3d45d3b6b00b983aefccf27018c5b9867f67e75233"), looks := true }, kinds := [], alts := [], laidByText := true, laidKinds := [.data], laidTests := true, laidLooks := .later }
def ShowSpoiltUptoCardSaid : Prop := Claim7.holds Tryd.pinned (.plain (OpenSpec.upto showSpoiltSpec)) showSpoiltUptoCard

/-- THE SECOND FORM's CARD OF 'lateenlaw06.ShowUnlike'. -/
def showUnlikeUptoCard : Claim7 := { stood := { row := showUnlikeUptoRow, standIns := [], harness := (true, "168553dacc54885a2745ae3d45d3b6b00b983aefccf27018c5b9867f67e75233"), looks := true }, kinds := [], alts := [], laidByText := true, laidKinds := [.data], laidTests := true, laidLooks := .later }
def ShowUnlikeUptoCardSaid : Prop := Claim7.holds Tryd.pinned (.plain (OpenSpec.upto showUnlikeSpec)) showUnlikeUptoCard

/-- THE SECOND FORM's CARD OF 'lateenlaw06.ShowKeeps'. -/
def showKeepsUptoCard : Claim7 := { stood := { row := showKeepsUptoRow, standIns := [], harness := (true, "168553dacc54885a2745ae3d45d3b6b00b983aefccf27018c5b9867f67e75233"), looks := true }, kinds := [], alts := [], laidByText := true, laidKinds := [.data, .data], laidTests := true, laidLooks := .later }
def ShowKeepsUptoCardSaid : Prop := Claim7.holds Tryd.pinned (.plain (OpenSpec.upto showKeepsSpec)) showKeepsUptoCard
end Rows
end Go.Proofs.YtkfpcaganhmkcaaDoor
