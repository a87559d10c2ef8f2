/-
  DERIVED. GIVEN WITH THE SEED: THE CARDS: each row of YtdgmdpphimenjaaGreatDoorRows.lean that lists a variable, with what it lists TIED to the program's text (the seventh form; the later family's looks); each row that meets fmt, with fmt's text TOLD by the authors' own Lean function (tested against real Go, not proved from fmt's source: count such statements apart). THE CARD IS WHAT COUNTS. Prove the row's statement (the work); the ties are given (YtdgmdpphimenjaaGreatDoorTie.lean); close each card by the builder's one call (the guide's Derived/Test/ToyasCard.lean, 'card_holds'). Laid BY PROGRAM, IN A SANDBOX (cutbox-door.mjs). By AI agents, Wed Nov 11 2026. No macro, syntax, notation, axiom, sorry.
-/
import Derived.Test.YtdgmdpphimenjaaGreatDoorRows
import GoSem.ClaimSeven
namespace Go.Proofs.YtdgmdpphimenjaaGreatDoor
namespace Rows

/-- THE TIED CARD OF 'lateenlaw13.AssignKeeps'. -/
def assignKeepsCard : Claim7 := { stood := { row := assignKeepsRow, standIns := [], harness := (true, "114be17d189ad809e7f7d98d5fe07854f8da7eaefcb61b1ae94572b569a007fa"), looks := true }, kinds := [], alts := [], laidByText := true, laidKinds := [.data], laidTests := true, laidLooks := .later }
def AssignKeepsCardSaid : Prop := Claim7.holds Tryz.pinned (.plain (OpenSpec.ofChange assignKeepsSpec)) assignKeepsCard

/-- THE SECOND FORM's CARD OF 'lateenlaw13.AssignKeeps'. -/
def assignKeepsUptoCard : Claim7 := { stood := { row := assignKeepsUptoRow, standIns := [], harness := (true, "114be17d189ad809e7f7d98d5fe07854f8da7eaefcb61b1ae94572b569a007fa"), looks := true }, kinds := [], alts := [], laidByText := true, laidKinds := [.data], laidTests := true, laidLooks := .later }
def AssignKeepsUptoCardSaid : Prop := Claim7.holds Tryz.pinned (.plain (OpenSpec.upto assignKeepsSpec)) assignKeepsUptoCard
end Rows
end Go.Proofs.YtdgmdpphimenjaaGreatDoor
