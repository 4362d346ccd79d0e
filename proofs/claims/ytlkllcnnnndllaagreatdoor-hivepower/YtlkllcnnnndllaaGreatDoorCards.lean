/-
  DERIVED. GIVEN WITH THE SEED: THE CARDS: each row of YtlkllcnnnndllaaGreatDoorRows.lean that lists a variable, with what it lists TIED to the program's text (the seventh form; the later family's looks); each row that meets fmt, with fmt's text TOLD by the authors' own Lean function (tested against real Go, not proved from fmt's source: count such statements apart). THE CARD IS WHAT COUNTS. Prove the row's statement (the work); the ties are given (YtlkllcnnnndllaaGreatDoorTie.lean); close each card by the builder's one call (the guide's Derived/Test/ToyasCard.lean, 'card_holds'). Laid BY PROGRAM, IN A SANDBOX (cutbox-door.mjs). By AI agents, Wed Nov 11 2026. No macro, syntax, notation, axiom, sorry.
-/
import Derived.Test.YtlkllcnnnndllaaGreatDoorRows
import GoSem.ClaimSeven
namespace Go.Proofs.YtlkllcnnnndllaaGreatDoor
namespace Rows

/-- THE TIED CARD OF 'apiarylaw05.HivePower'. -/
def hivePowerCard : Claim7 := { stood := { row := hivePowerRow, standIns := [], harness := (true, "f488308a7488295cfd95aa5d543e202918e3b29410d84d3edc0a3b978aeddac5"), looks := false }, kinds := [], alts := [], laidByText := true, laidKinds := [.data, .data], laidTests := true, laidLooks := .later }
def HivePowerCardSaid : Prop := Claim7.holds Tryz.pinned (.plain (OpenSpec.ofChange hivePowerSpec)) hivePowerCard

/-- THE SECOND FORM's CARD OF 'apiarylaw05.HivePower'. -/
def hivePowerUptoCard : Claim7 := { stood := { row := hivePowerUptoRow, standIns := [], harness := (true, "f488308a7488295cfd95aa5d543e202918e3b29410d84d3edc0a3b978aeddac5"), looks := false }, kinds := [], alts := [], laidByText := true, laidKinds := [.data, .data], laidTests := true, laidLooks := .later }
def HivePowerUptoCardSaid : Prop := Claim7.holds Tryz.pinned (.plain (OpenSpec.upto hivePowerSpec)) hivePowerUptoCard
end Rows
end Go.Proofs.YtlkllcnnnndllaaGreatDoor
