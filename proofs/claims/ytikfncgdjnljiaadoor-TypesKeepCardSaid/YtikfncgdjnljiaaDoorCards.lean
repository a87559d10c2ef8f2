/-
  DERIVED. GIVEN WITH THE SEED: THE CARDS: each row of YtikfncgdjnljiaaDoorRows.lean that lists a variable, with what it lists TIED to the program's text (the seventh form; the later family's looks); each row that meets fmt, with fmt's text TOLD by the authors' own Lean function (tested against real Go, not proved from fmt's source: count such statements apart). THE CARD IS WHAT COUNTS. Prove the row's statement (the work); the ties are given (YtikfncgdjnljiaaDoorTie.lean); close each card by the builder's one call (the guide's Derived/Test/ToyasCard.lean, 'card_holds'). Laid BY PROGRAM, IN A SANDBOX (cutbox-door.mjs). By AI agents, Wed Nov 11 2026. No macro, syntax, notation, axiom, sorry.
-/
import Derived.Test.YtikfncgdjnljiaaDoorRows
import GoSem.ClaimSeven
namespace Go.Proofs.YtikfncgdjnljiaaDoor
namespace Rows

/-- THE TIED CARD OF 'lateenlaw07.TypesFinds'. -/
def typesFindsCard : Claim7 := { stood := { row := typesFindsRow, standIns := [], harness := (true, "c16c9ae9a7dc8466d6896c75048e721f0e0ad6673ce221495cf2ca61a0a4a24b"), looks := false }, kinds := [], alts := [], laidByText := true, laidKinds := [.data], laidTests := true, laidLooks := .later }
def TypesFindsCardSaid : Prop := Claim7.holds Tryd.pinned (.plain (OpenSpec.ofChange typesFindsSpec)) typesFindsCard

/-- THE TIED CARD OF 'lateenlaw07.TypesInstrs'. -/
def typesInstrsCard : Claim7 := { stood := { row := typesInstrsRow, standIns := [], harness := (true, "c16c9ae9a7dc8466d6896c75048e721f0e0ad6673ce221495cf2ca61a0a4a24b"), looks := false }, kinds := [], alts := [], laidByText := true, laidKinds := [.data, .data], laidTests := true, laidLooks := .later }
def TypesInstrsCardSaid : Prop := Claim7.holds Tryd.pinned (.plain (OpenSpec.ofChange typesInstrsSpec)) typesInstrsCard

/-- THE TIED CARD OF 'lateenlaw07.TypesEnds'. -/
def typesEndsCard : Claim7 := { stood := { row := typesEndsRow, standIns := [], harness := (true, "c16c9ae9a7dc8466d6896c75048e721f0e0ad6673ce221495cf2ca61a0a4a24b"), looks := false }, kinds := [], alts := [], laidByText := true, laidKinds := [.data], laidTests := true, laidLooks := .later }
def TypesEndsCardSaid : Prop := Claim7.holds Tryd.pinned (.plain (OpenSpec.ofChange typesEndsSpec)) typesEndsCard

/-- THE TIED CARD OF 'lateenlaw07.TypesKeep'. -/
def typesKeepCard : Claim7 := { stood := { row := typesKeepRow, standIns := [], harness := (true, "c16c9ae9a7dc8466d6896c75048e721f0e0ad6673ce221495cf2ca61a0a4a24b"), looks := false }, kinds := [], alts := [], laidByText := true, laidKinds := [.data], laidTests := true, laidLooks := .later }
def TypesKeepCardSaid : Prop := Claim7.holds Tryd.pinned (.plain (OpenSpec.ofChange typesKeepSpec)) typesKeepCard

/-- THE TIED CARD OF 'lateenlaw07.TypesFits'. -/
def typesFitsCard : Claim7 := { stood := { row := typesFitsRow, standIns := [], harness := (true, "c16c9ae9a7dc8466d6896c75048e721f0e0ad6673ce221495cf2ca61a0a4a24b"), looks := false }, kinds := [], alts := [], laidByText := true, laidKinds := [.data], laidTests := true, laidLooks := .later }
def TypesFitsCardSaid : Prop := Claim7.holds Tryd.pinned (.plain (OpenSpec.ofChange typesFitsSpec)) typesFitsCard

/-- THE TIED CARD OF 'lateenlaw07.TypesNames'. -/
def typesNamesCard : Claim7 := { stood := { row := typesNamesRow, standIns := [], harness := (true, "c16c9ae9a7dc8466d6896c75048e721f0e0ad6673ce221495cf2ca61a0a4a24b"), looks := false }, kinds := [], alts := [], laidByText := true, laidKinds := [.data], laidTests := true, laidLooks := .later }
def TypesNamesCardSaid : Prop := Claim7.holds Tryd.pinned (.plain (OpenSpec.ofChange typesNamesSpec)) typesNamesCard

/-- THE SECOND FORM's CARD OF 'lateenlaw07.TypesFinds'. -/
def typesFindsUptoCard : Claim7 := { stood := { row := typesFindsUptoRow, standIns := [], harness := (true, "c16c9ae9a7dc8466d6896c75048e721f0e0ad6673ce221495cf2ca61a0a4a24b"), looks := false }, kinds := [], alts := [], laidByText := true, laidKinds := [.data], laidTests := true, laidLooks := .later }
def TypesFindsUptoCardSaid : Prop := Claim7.holds Tryd.pinned (.plain (OpenSpec.upto typesFindsSpec)) typesFindsUptoCard

/-- THE SECOND FORM's CARD OF 'lateenlaw07.TypesInstrs'. -/
def typesInstrsUptoCard : Claim7 := { stood := { row := typesInstrsUptoRow, standIns := [], harness := (true, "c16c9ae9a7dc8466d6896c75048e721f0e0ad6673ce221495cf2ca61a0a4a24b"), looks := false }, kinds := [], alts := [], laidByText := true, laidKinds := [.data, .data], laidTests := true, laidLooks := .later }
def TypesInstrsUptoCardSaid : Prop := Claim7.holds Tryd.pinned (.plain (OpenSpec.upto typesInstrsSpec)) typesInstrsUptoCard

/-- THE SECOND FORM's CARD OF 'lateenlaw07.TypesEnds'. -/
def typesEndsUptoCard : Claim7 := { stood := { row := typesEndsUptoRow, standIns := [], harness := (true, "c16c9ae9a7dc8466d6896c75048e721f0e0ad6673ce221495cf2ca61a0a4a24b"), looks := false }, kinds := [], alts := [], laidByText := true, laidKinds := [.data], laidTests := true, laidLooks := .later }
def TypesEndsUptoCardSaid : Prop := Claim7.holds Tryd.pinned (.plain (OpenSpec.upto typesEndsSpec)) typesEndsUptoCard

/-- THE SECOND FORM's CARD OF 'lateenlaw07.TypesKeep'. -/
def typesKeepUptoCard : Claim7 := { stood := { row := typesKeepUptoRow, standIns := [], harness := (true, "c16c9ae9a7dc8466d6896c75048e721f0e0ad6673ce221495cf2ca61a0a4a24b"), looks := false }, kinds := [], alts := [], laidByText := true, laidKinds := [.data], laidTests := true, laidLooks := .later }
def TypesKeepUptoCardSaid : Prop := Claim7.holds Tryd.pinned (.plain (OpenSpec.upto typesKeepSpec)) typesKeepUptoCard

/-- THE SECOND FORM's CARD OF 'lateenlaw07.TypesFits'. -/
def typesFitsUptoCard : Claim7 := { stood := { row := typesFitsUptoRow, standIns := [], harness := (true, "c16c9ae9a7dc8466d6896c75048e721f0e0ad6673ce221495cf2ca61a0a4a24b"), looks := false }, kinds := [], alts := [], laidByText := true, laidKinds := [.data], laidTests := true, laidLooks := .later }
def TypesFitsUptoCardSaid : Prop := Claim7.holds Tryd.pinned (.plain (OpenSpec.upto typesFitsSpec)) typesFitsUptoCard

/-- THE SECOND FORM's CARD OF 'lateenlaw07.TypesNames'. -/
def typesNamesUptoCard : Claim7 := { stood := { row := typesNamesUptoRow, standIns := [], harness := (true, "c16c9ae9a7dc8466d6896c75048e721f0e0ad6673ce221495cf2ca61a0a4a24b"), looks := false }, kinds := [], alts := [], laidByText := true, laidKinds := [.data], laidTests := true, laidLooks := .later }
def TypesNamesUptoCardSaid : Prop := Claim7.holds Tryd.pinned (.plain (OpenSpec.upto typesNamesSpec)) typesNamesUptoCard
end Rows
end Go.Proofs.YtikfncgdjnljiaaDoor
