/-
  DERIVED. GIVEN WITH THE SEED: THE CARDS: each row of YtjbffhdccgmfpaaGreatDoorRows.lean that lists a variable, with what it lists TIED to the program's text (the seventh form; the later family's looks); each row that meets fmt, with fmt's text TOLD by the authors' own Lean function (tested against real Go, not proved from fmt's source: count such statements apart). THE CARD IS WHAT COUNTS. Prove the row's statement (the work); the ties are given (YtjbffhdccgmfpaaGreatDoorTie.lean); close each card by the builder's one call (the guide's Derived/Test/ToyasCard.lean, 'card_holds'). Laid BY PROGRAM, IN A SANDBOX (cutbox-door.mjs). By AI agents, Wed Nov 11 2026. No macro, syntax, notation, axiom, sorry.
-/
import Derived.Test.YtjbffhdccgmfpaaGreatDoorRows
import GoSem.ClaimSeven
namespace Go.Proofs.YtjbffhdccgmfpaaGreatDoor
namespace Rows

/-- THE TIED CARD OF 'apiarylaw09.OvenBuilds'. -/
def ovenBuildsCard : Claim7 := { stood := { row := ovenBuildsRow, standIns := [], harness := (true, "3ba94e611592b52b0dd38219e5c2f744ae1ca2e17b14a235d0e522029a04d5a7"), looks := false }, kinds := [], alts := [], laidByText := true, laidKinds := [.data, .data, .data, .data, .data], laidTests := true, laidLooks := .later }
def OvenBuildsCardSaid : Prop := Claim7.holds Tryz.pinned (.plain (OpenSpec.ofChange ovenBuildsSpec)) ovenBuildsCard

/-- THE TIED CARD OF 'apiarylaw09.OvenNames'. -/
def ovenNamesCard : Claim7 := { stood := { row := ovenNamesRow, standIns := [], harness := (true, "3ba94e611592b52b0dd38219e5c2f744ae1ca2e17b14a235d0e522029a04d5a7"), looks := false }, kinds := [], alts := [], laidByText := true, laidKinds := [.data, .data, .data, .data, .data], laidTests := true, laidLooks := .later }
def OvenNamesCardSaid : Prop := Claim7.holds Tryz.pinned (.plain (OpenSpec.ofChange ovenNamesSpec)) ovenNamesCard

/-- THE SECOND FORM's CARD OF 'apiarylaw09.OvenBuilds'. -/
def ovenBuildsUptoCard : Claim7 := { stood := { row := ovenBuildsUptoRow, standIns := [], harness := (true, "3ba94e611592b52b0dd38219e5c2f744ae1ca2e17b14a235d0e522029a04d5a7"), looks := false }, kinds := [], alts := [], laidByText := true, laidKinds := [.data, .data, .data, .data, .data], laidTests := true, laidLooks := .later }
def OvenBuildsUptoCardSaid : Prop := Claim7.holds Tryz.pinned (.plain (OpenSpec.upto ovenBuildsSpec)) ovenBuildsUptoCard

/-- THE SECOND FORM's CARD OF 'apiarylaw09.OvenNames'. -/
def ovenNamesUptoCard : Claim7 := { stood := { row := ovenNamesUptoRow, standIns := [], harness := (true, "3ba94e611592b52b0dd38219e5c2f744ae1ca2e17b14a235d0e522029a04d5a7"), looks := false }, kinds := [], alts := [], laidByText := true, laidKinds := [.data, .data, .data, .data, .data], laidTests := true, laidLooks := .later }
def OvenNamesUptoCardSaid : Prop := Claim7.holds Tryz.pinned (.plain (OpenSpec.upto ovenNamesSpec)) ovenNamesUptoCard
end Rows
end Go.Proofs.YtjbffhdccgmfpaaGreatDoor
