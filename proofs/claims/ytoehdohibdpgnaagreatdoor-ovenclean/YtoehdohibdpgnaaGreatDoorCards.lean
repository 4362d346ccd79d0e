/-
  DERIVED. GIVEN WITH THE SEED: THE CARDS: each row of YtoehdohibdpgnaaGreatDoorRows.lean that lists a variable, with what it lists TIED to the program's text (the seventh form; the later family's looks); each row that meets fmt, with fmt's text TOLD by the authors' own Lean function (tested against real Go, not proved from fmt's source: count such statements apart). THE CARD IS WHAT COUNTS. Prove the row's statement (the work); the ties are given (YtoehdohibdpgnaaGreatDoorTie.lean); close each card by the builder's one call (the guide's Derived/Test/ToyasCard.lean, 'card_holds'). Laid BY PROGRAM, IN A SANDBOX (cutbox-door.mjs). By AI agents, Wed Nov 11 2026. No macro, syntax, notation, axiom, sorry.
-/
import Derived.Test.YtoehdohibdpgnaaGreatDoorRows
import GoSem.ClaimSeven
namespace Go.Proofs.YtoehdohibdpgnaaGreatDoor
namespace Rows

/-- THE TIED CARD OF 'apiarylaw09.OvenClean'. -/
def ovenCleanCard : Claim7 := { stood := { row := ovenCleanRow, standIns := [], harness := (true, "cc8f1652f111ce9b3522b4b3cc332adf1a1fe40de5a183436b47635cf6500d68"), looks := false }, kinds := [], alts := [], laidByText := true, laidKinds := [.data, .data, .data, .data, .data], laidTests := true, laidLooks := .later }
def OvenCleanCardSaid : Prop := Claim7.holds Tryz.pinned (.plain (OpenSpec.ofChange ovenCleanSpec)) ovenCleanCard

/-- THE SECOND FORM's CARD OF 'apiarylaw09.OvenClean'. -/
def ovenCleanUptoCard : Claim7 := { stood := { row := ovenCleanUptoRow, standIns := [], harness := (true, "cc8f1652f111ce9b3522b4b3cc332adf1a1fe40de5a183436b47635cf6500d68"), looks := false }, kinds := [], alts := [], laidByText := true, laidKinds := [.data, .data, .data, .data, .data], laidTests := true, laidLooks := .later }
def OvenCleanUptoCardSaid : Prop := Claim7.holds Tryz.pinned (.plain (OpenSpec.upto ovenCleanSpec)) ovenCleanUptoCard
end Rows
end Go.Proofs.YtoehdohibdpgnaaGreatDoor
