/-
  DERIVED. GIVEN WITH THE SEED: THE CARDS: each row of YtdgmdpphimenjaaDoorRows.lean that lists a variable, with what it lists TIED to the program's text (the seventh form; the later family's looks); each row that meets fmt, with fmt's text TOLD by the authors' own Lean function (tested against real Go, not proved from fmt's source: count such statements apart). THE CARD IS WHAT COUNTS. Prove the row's statement (the work); the ties are given (YtdgmdpphimenjaaDoorTie.lean); close each card by the builder's one call (the guide's Derived/Test/ToyasCard.lean, 'card_holds'). Laid BY PROGRAM, IN A SANDBOX (cutbox-door.mjs). By AI agents, Wed Nov 11 2026. No macro, syntax, notation, axiom, sorry.
-/
import Derived.Test.YtdgmdpphimenjaaDoorRows
import GoSem.ClaimSeven
namespace Go.Proofs.YtdgmdpphimenjaaDoor
namespace Rows

/-- THE TIED CARD OF 'lateenlaw06.ShowKeeps'. -/
def showKeepsCard : Claim7 := { stood := { row := showKeepsRow, standIns := [], harness := (true, "189e3eb54eb493b60e022e3857efd88ed9ef57ab8bd21045c2228c8f2bc522ad"), looks := true }, kinds := [], alts := [], laidByText := true, laidKinds := [.data, .data], laidTests := true, laidLooks := .later }
def ShowKeepsCardSaid : Prop := Claim7.holds Tryd.pinned (.plain (OpenSpec.ofChange showKeepsSpec)) showKeepsCard

/-- THE TIED CARD OF 'lateenlaw12.LiveKeeps'. -/
def liveKeepsCard : Claim7 := { stood := { row := liveKeepsRow, standIns := [], harness := (true, "189e3eb54eb493b60e022e3857efd88ed9ef57ab8bd21045c2228c8f2bc522ad"), looks := true }, kinds := [], alts := [], laidByText := true, laidKinds := [.data], laidTests := true, laidLooks := .later }
def LiveKeepsCardSaid : Prop := Claim7.holds Tryd.pinned (.plain (OpenSpec.ofChange liveKeepsSpec)) liveKeepsCard

/-- THE SECOND FORM's CARD OF 'lateenlaw06.ShowKeeps'. -/
def showKeepsUptoCard : Claim7 := { stood := { row := showKeepsUptoRow, standIns := [], harness := (true, "189e3eb54eb493b60e022e3857efd88ed9ef57ab8bd21045c2228c8f2bc522ad"), looks := true }, kinds := [], alts := [], laidByText := true, laidKinds := [.data, .data], laidTests := true, laidLooks := .later }
def ShowKeepsUptoCardSaid : Prop := Claim7.holds Tryd.pinned (.plain (OpenSpec.upto showKeepsSpec)) showKeepsUptoCard

/-- THE SECOND FORM's CARD OF 'lateenlaw12.LiveKeeps'. -/
def liveKeepsUptoCard : Claim7 := { stood := { row := liveKeepsUptoRow, standIns := [], harness := (true, "189e3eb54eb493b60e022e3857efd88ed9ef57ab8bd21045c2228c8f2bc522ad"), looks := true }, kinds := [], alts := [], laidByText := true, laidKinds := [.data], laidTests := true, laidLooks := .later }
def LiveKeepsUptoCardSaid : Prop := Claim7.holds Tryd.pinned (.plain (OpenSpec.upto liveKeepsSpec)) liveKeepsUptoCard
end Rows
end Go.Proofs.YtdgmdpphimenjaaDoor
