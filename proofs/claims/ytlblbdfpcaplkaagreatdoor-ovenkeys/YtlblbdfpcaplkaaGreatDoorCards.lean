/-
  DERIVED. GIVEN WITH THE SEED: THE CARDS: each row of YtlblbdfpcaplkaaGreatDoorRows.lean that lists a variable, with what it lists TIED to the program's text (the seventh form; the later family's looks); each row that meets fmt, with fmt's text TOLD by the authors' own Lean function (tested against real Go, not proved from fmt's source: count such statements apart). THE CARD IS WHAT COUNTS. Prove the row's statement (the work); the ties are given (YtlblbdfpcaplkaaGreatDoorTie.lean); close each card by the builder's one call (the guide's Derived/Test/ToyasCard.lean, 'card_holds'). Laid BY PROGRAM, IN A SANDBOX (cutbox-door.mjs). By AI agents, Wed Nov 11 2026. No macro, syntax, notation, axiom, sorry.
-/
import Derived.Test.YtlblbdfpcaplkaaGreatDoorRows
import GoSem.ClaimSeven
namespace Go.Proofs.YtlblbdfpcaplkaaGreatDoor
namespace Rows

/-- THE TIED CARD OF 'apiarylaw09.OvenBuilds'. -/
def ovenBuildsCard : Claim7 := { stood := { row := ovenBuildsRow, standIns := [], harness := (true, "5862967dd918502b5f754e1c2ff913dd258e890ef804f538ac15912a3f96586d"), looks := false }, kinds := [], alts := [], laidByText := true, laidKinds := [.data, .data, .data, .data, .data], laidTests := true, laidLooks := .later }
def OvenBuildsCardSaid : Prop := Claim7.holds Tryz.pinned (.plain (OpenSpec.ofChange ovenBuildsSpec)) ovenBuildsCard

/-- THE TIED CARD OF 'apiarylaw09.OvenKeys'. -/
def ovenKeysCard : Claim7 := { stood := { row := ovenKeysRow, standIns := [], harness := (true, "5862967dd918502b5f754e1c2ff913dd258e890ef804f538ac15912a3f96586d"), looks := false }, kinds := [], alts := [], laidByText := true, laidKinds := [.data, .data, .data, .data, .data], laidTests := true, laidLooks := .later }
def OvenKeysCardSaid : Prop := Claim7.holds Tryz.pinned (.plain (OpenSpec.ofChange ovenKeysSpec)) ovenKeysCard

/-- THE TIED CARD OF 'apiarylaw09.OvenRuns'. -/
def ovenRunsCard : Claim7 := { stood := { row := ovenRunsRow, standIns := [], harness := (true, "5862967dd918502b5f754e1c2ff913dd258e890ef804f538ac15912a3f96586d"), looks := false }, kinds := [], alts := [], laidByText := true, laidKinds := [.data, .data, .data, .data, .data], laidTests := true, laidLooks := .later }
def OvenRunsCardSaid : Prop := Claim7.holds Tryz.pinned (.plain (OpenSpec.ofChange ovenRunsSpec)) ovenRunsCard

/-- THE TIED CARD OF 'apiarylaw09.OvenClean'. -/
def ovenCleanCard : Claim7 := { stood := { row := ovenCleanRow, standIns := [], harness := (true, "5862967dd918502b5f754e1c2ff913dd258e890ef804f538ac15912a3f96586d"), looks := false }, kinds := [], alts := [], laidByText := true, laidKinds := [.data, .data, .data, .data, .data], laidTests := true, laidLooks := .later }
def OvenCleanCardSaid : Prop := Claim7.holds Tryz.pinned (.plain (OpenSpec.ofChange ovenCleanSpec)) ovenCleanCard

/-- THE TIED CARD OF 'apiarylaw09.OvenNames'. -/
def ovenNamesCard : Claim7 := { stood := { row := ovenNamesRow, standIns := [], harness := (true, "5862967dd918502b5f754e1c2ff913dd258e890ef804f538ac15912a3f96586d"), looks := false }, kinds := [], alts := [], laidByText := true, laidKinds := [.data, .data, .data, .data, .data], laidTests := true, laidLooks := .later }
def OvenNamesCardSaid : Prop := Claim7.holds Tryz.pinned (.plain (OpenSpec.ofChange ovenNamesSpec)) ovenNamesCard

/-- THE TIED CARD OF 'apiarylaw09.OvenApart'. -/
def ovenApartCard : Claim7 := { stood := { row := ovenApartRow, standIns := [], harness := (true, "5862967dd918502b5f754e1c2ff913dd258e890ef804f538ac15912a3f96586d"), looks := false }, kinds := [], alts := [], laidByText := true, laidKinds := [.data, .data, .data, .data, .data], laidTests := true, laidLooks := .later }
def OvenApartCardSaid : Prop := Claim7.holds Tryz.pinned (.plain (OpenSpec.ofChange ovenApartSpec)) ovenApartCard

/-- THE SECOND FORM's CARD OF 'apiarylaw09.OvenBuilds'. -/
def ovenBuildsUptoCard : Claim7 := { stood := { row := ovenBuildsUptoRow, standIns := [], harness := (true, "5862967dd918502b5f754e1c2ff913dd258e890ef804f538ac15912a3f96586d"), looks := false }, kinds := [], alts := [], laidByText := true, laidKinds := [.data, .data, .data, .data, .data], laidTests := true, laidLooks := .later }
def OvenBuildsUptoCardSaid : Prop := Claim7.holds Tryz.pinned (.plain (OpenSpec.upto ovenBuildsSpec)) ovenBuildsUptoCard

/-- THE SECOND FORM's CARD OF 'apiarylaw09.OvenKeys'. -/
def ovenKeysUptoCard : Claim7 := { stood := { row := ovenKeysUptoRow, standIns := [], harness := (true, "5862967dd918502b5f754e1c2ff913dd258e890ef804f538ac15912a3f96586d"), looks := false }, kinds := [], alts := [], laidByText := true, laidKinds := [.data, .data, .data, .data, .data], laidTests := true, laidLooks := .later }
def OvenKeysUptoCardSaid : Prop := Claim7.holds Tryz.pinned (.plain (OpenSpec.upto ovenKeysSpec)) ovenKeysUptoCard

/-- THE SECOND FORM's CARD OF 'apiarylaw09.OvenRuns'. -/
def ovenRunsUptoCard : Claim7 := { stood := { row := ovenRunsUptoRow, standIns := [], harness := (true, "5862967dd918502b5f754e1c2ff913dd258e890ef804f538ac15912a3f96586d"), looks := false }, kinds := [], alts := [], laidByText := true, laidKinds := [.data, .data, .data, .data, .data], laidTests := true, laidLooks := .later }
def OvenRunsUptoCardSaid : Prop := Claim7.holds Tryz.pinned (.plain (OpenSpec.upto ovenRunsSpec)) ovenRunsUptoCard

/-- THE SECOND FORM's CARD OF 'apiarylaw09.OvenClean'. -/
def ovenCleanUptoCard : Claim7 := { stood := { row := ovenCleanUptoRow, standIns := [], harness := (true, "5862967dd918502b5f754e1c2ff913dd258e890ef804f538ac15912a3f96586d"), looks := false }, kinds := [], alts := [], laidByText := true, laidKinds := [.data, .data, .data, .data, .data], laidTests := true, laidLooks := .later }
def OvenCleanUptoCardSaid : Prop := Claim7.holds Tryz.pinned (.plain (OpenSpec.upto ovenCleanSpec)) ovenCleanUptoCard

/-- THE SECOND FORM's CARD OF 'apiarylaw09.OvenNames'. -/
def ovenNamesUptoCard : Claim7 := { stood := { row := ovenNamesUptoRow, standIns := [], harness := (true, "5862967dd918502b5f754e1c2ff913dd258e890ef804f538ac15912a3f96586d"), looks := false }, kinds := [], alts := [], laidByText := true, laidKinds := [.data, .data, .data, .data, .data], laidTests := true, laidLooks := .later }
def OvenNamesUptoCardSaid : Prop := Claim7.holds Tryz.pinned (.plain (OpenSpec.upto ovenNamesSpec)) ovenNamesUptoCard

/-- THE SECOND FORM's CARD OF 'apiarylaw09.OvenApart'. -/
def ovenApartUptoCard : Claim7 := { stood := { row := ovenApartUptoRow, standIns := [], harness := (true, "5862967dd918502b5f754e1c2ff913dd258e890ef804f538ac15912a3f96586d"), looks := false }, kinds := [], alts := [], laidByText := true, laidKinds := [.data, .data, .data, .data, .data], laidTests := true, laidLooks := .later }
def OvenApartUptoCardSaid : Prop := Claim7.holds Tryz.pinned (.plain (OpenSpec.upto ovenApartSpec)) ovenApartUptoCard
end Rows
end Go.Proofs.YtlblbdfpcaplkaaGreatDoor
