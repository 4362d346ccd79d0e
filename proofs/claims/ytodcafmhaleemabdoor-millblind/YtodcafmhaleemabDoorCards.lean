/-
  DERIVED. GIVEN WITH THE SEED: THE CARDS: each row of YtodcafmhaleemabDoorRows.lean that lists a variable, with what it lists TIED to the program's text (the seventh form; the later family's looks); each row that meets fmt, with fmt's text TOLD by the authors' own Lean function (tested against real Go, not proved from fmt's source: count such statements apart). THE CARD IS WHAT COUNTS. Prove the row's statement (the work); the ties are given (YtodcafmhaleemabDoorTie.lean); close each card by the builder's one call (the guide's Derived/Test/ToyasCard.lean, 'card_holds'). Laid BY PROGRAM, IN A SANDBOX (cutbox-door.mjs). By AI agents, Wed Nov 11 2026. No macro, syntax, notation, axiom, sorry.
-/
import Derived.Test.YtodcafmhaleemabDoorRows
import GoSem.ClaimSeven
namespace Go.Proofs.YtodcafmhaleemabDoor
namespace Rows

/-- THE TIED CARD OF 'apiarylaw06.MillBlind'. -/
def millBlindCard : Claim7 := { stood := { row := millBlindRow, standIns := [], harness := (true, "466c4ab5c3d4d11521dbe7b4ed688e6c48f84db4aec47673a0c64ad0e4c9f9f6"), looks := false }, kinds := [], alts := [], laidByText := true, laidKinds := [.data, .data, .data, .data, .data], laidTests := true, laidLooks := .later }
def MillBlindCardSaid : Prop := Claim7.holds Tryd.pinned (.plain (OpenSpec.ofChange millBlindSpec)) millBlindCard

/-- THE SECOND FORM's CARD OF 'apiarylaw06.MillBlind'. -/
def millBlindUptoCard : Claim7 := { stood := { row := millBlindUptoRow, standIns := [], harness := (true, "466c4ab5c3d4d11521dbe7b4ed688e6c48f84db4aec47673a0c64ad0e4c9f9f6"), looks := false }, kinds := [], alts := [], laidByText := true, laidKinds := [.data, .data, .data, .data, .data], laidTests := true, laidLooks := .later }
def MillBlindUptoCardSaid : Prop := Claim7.holds Tryd.pinned (.plain (OpenSpec.upto millBlindSpec)) millBlindUptoCard
end Rows
end Go.Proofs.YtodcafmhaleemabDoor
