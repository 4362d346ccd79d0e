/-
  DERIVED. GIVEN WITH THE SEED: THE CARDS: each row of YtncoffjaggnigaaGreatDoorRows.lean that lists a variable, with what it lists TIED to the program's text (the seventh form; the later family's looks); each row that meets fmt, with fmt's text TOLD by the authors' own Lean function (tested against real Go, not proved from fmt's source: count such statements apart). THE CARD IS WHAT COUNTS. Prove the row's statement (the work); the ties are given (YtncoffjaggnigaaGreatDoorTie.lean); close each card by the builder's one call (the guide's Derived/Test/ToyasCard.lean, 'card_holds'). Laid BY PROGRAM, IN A SANDBOX (cutbox-door.mjs). By AI agents, Wed Nov 11 2026. No macro, syntax, notation, axiom, sorry.
-/
import Derived.Test.YtncoffjaggnigaaGreatDoorRows
import GoSem.ClaimSeven
namespace Go.Proofs.YtncoffjaggnigaaGreatDoor
namespace Rows

/-- THE TIED CARD OF 'apiarylaw09.OvenBuilds'. -/
def ovenBuildsCard : Claim7 := { stood := { row := ovenBuildsRow, standIns := [], harness := (true, "6e231febb4bbf3b63a4889b555a07efc197d07086c79ce47d3147012e864ae72"), looks := false }, kinds := [], alts := [], laidByText := true, laidKinds := [.data, .data, .data, .data, .data], laidTests := true, laidLooks := .later }
def OvenBuildsCardSaid : Prop := Claim7.holds Tryz.pinned (.plain (OpenSpec.ofChange ovenBuildsSpec)) ovenBuildsCard

/-- THE TIED CARD OF 'apiarylaw09.OvenClean'. -/
def ovenCleanCard : Claim7 := { stood := { row := ovenCleanRow, standIns := [], harness := (true, "6e231febb4bbf3b63a4889b555a07efc197d07086c79ce47d3147012e864ae72"), looks := false }, kinds := [], alts := [], laidByText := true, laidKinds := [.data, .data, .data, .data, .data], laidTests := true, laidLooks := .later }
def OvenCleanCardSaid : Prop := Claim7.holds Tryz.pinned (.plain (OpenSpec.ofChange ovenCleanSpec)) ovenCleanCard

/-- THE TIED CARD OF 'apiarylaw09.OvenNames'. -/
def ovenNamesCard : Claim7 := { stood := { row := ovenNamesRow, standIns := [], harness := (true, "6e231febb4bbf3b63a4889b555a07efc197d07086c79ce47d3147012e864ae72"), looks := false }, kinds := [], alts := [], laidByText := true, laidKinds := [.data, .data, .data, .data, .data], laidTests := true, laidLooks := .later }
def OvenNamesCardSaid : Prop := Claim7.holds Tryz.pinned (.plain (OpenSpec.ofChange ovenNamesSpec)) ovenNamesCard

/-- THE TIED CARD OF 'apiarylaw09.OvenApart'. -/
def ovenApartCard : Claim7 := { stood := { row := ovenApartRow, standIns := [], harness := (true, "6e231febb4bbf3b63a4889b555a07efc197d07086c79ce47d3147012e864ae72"), looks := false }, kinds := [], alts := [], laidByText := true, laidKinds := [.data, .data, .data, .data, .data], laidTests := true, laidLooks := .later }
def OvenApartCardSaid : Prop := Claim7.holds Tryz.pinned (.plain (OpenSpec.ofChange ovenApartSpec)) ovenApartCard

/-- THE TIED CARD OF 'apiarylaw09.OvenRecords'. -/
def ovenRecordsCard : Claim7 := { stood := { row := ovenRecordsRow, standIns := [], harness := (true, "6e231febb4bbf3b63a4889b555a07efc197d07086c79ce47d3147012e864ae72"), looks := false }, kinds := [], alts := [], laidByText := true, laidKinds := [.data, .data, .data, .data, .data], laidTests := true, laidLooks := .later }
def OvenRecordsCardSaid : Prop := Claim7.holds Tryz.pinned (.plain (OpenSpec.ofChange ovenRecordsSpec)) ovenRecordsCard

/-- THE SECOND FORM's CARD OF 'apiarylaw09.OvenBuilds'. -/
def ovenBuildsUptoCard : Claim7 := { stood := { row := ovenBuildsUptoRow, standIns := [], harness := (true, "6e231febb4bbf3b63a4889b555a07efc197d07086c79ce47d3147012e864ae72"), looks := false }, kinds := [], alts := [], laidByText := true, laidKinds := [.data, .data, .data, .data, .data], laidTests := true, laidLooks := .later }
def OvenBuildsUptoCardSaid : Prop := Claim7.holds Tryz.pinned (.plain (OpenSpec.upto ovenBuildsSpec)) ovenBuildsUptoCard

/-- THE SECOND FORM's CARD OF 'apiarylaw09.OvenClean'. -/
def ovenCleanUptoCard : Claim7 := { stood := { row := ovenCleanUptoRow, standIns := [], harness := (true, "6e231febb4bbf3b63a4889b555a07efc197d07086c79ce47d3147012e864ae72"), looks := false }, kinds := [], alts := [], laidByText := true, laidKinds := [.data, .data, .data, .data, .data], laidTests := true, laidLooks := .later }
def OvenCleanUptoCardSaid : Prop := Claim7.holds Tryz.pinned (.plain (OpenSpec.upto ovenCleanSpec)) ovenCleanUptoCard

/-- THE SECOND FORM's CARD OF 'apiarylaw09.OvenNames'. -/
def ovenNamesUptoCard : Claim7 := { stood := { row := ovenNamesUptoRow, standIns := [], harness := (true, "6e231febb4bbf3b63a4889b555a07efc197d07086c79ce47d3147012e864ae72"), looks := false }, kinds := [], alts := [], laidByText := true, laidKinds := [.data, .data, .data, .data, .data], laidTests := true, laidLooks := .later }
def OvenNamesUptoCardSaid : Prop := Claim7.holds Tryz.pinned (.plain (OpenSpec.upto ovenNamesSpec)) ovenNamesUptoCard

/-- THE SECOND FORM's CARD OF 'apiarylaw09.OvenApart'. -/
def ovenApartUptoCard : Claim7 := { stood := { row := ovenApartUptoRow, standIns := [], harness := (true, "6e231febb4bbf3b63a4889b555a07efc197d07086c79ce47d3147012e864ae72"), looks := false }, kinds := [], alts := [], laidByText := true, laidKinds := [.data, .data, .data, .data, .data], laidTests := true, laidLooks := .later }
def OvenApartUptoCardSaid : Prop := Claim7.holds Tryz.pinned (.plain (OpenSpec.upto ovenApartSpec)) ovenApartUptoCard

/-- THE SECOND FORM's CARD OF 'apiarylaw09.OvenRecords'. -/
def ovenRecordsUptoCard : Claim7 := { stood := { row := ovenRecordsUptoRow, standIns := [], harness := (true, "6e231febb4bbf3b63a4889b555a07efc197d07086c79ce47d3147012e864ae72"), looks := false }, kinds := [], alts := [], laidByText := true, laidKinds := [.data, .data, .data, .data, .data], laidTests := true, laidLooks := .later }
def OvenRecordsUptoCardSaid : Prop := Claim7.holds Tryz.pinned (.plain (OpenSpec.upto ovenRecordsSpec)) ovenRecordsUptoCard
end Rows
end Go.Proofs.YtncoffjaggnigaaGreatDoor
