/-
  DERIVED. GIVEN WITH THE SEED: THE CARDS: each row of YtahdmhenkjbimaaDoorRows.lean that lists a variable, with what it lists TIED to the program's text (the seventh form; the later family's looks); each row that meets fmt, with fmt's text TOLD by the authors' own Lean function (tested against real Go, not proved from fmt's source: count such statements apart). THE CARD IS WHAT COUNTS. Prove the row's statement (the work); the ties are given (YtahdmhenkjbimaaDoorTie.lean); close each card by the builder's one call (the guide's Derived/Test/ToyasCard.lean, 'card_holds'). Laid BY PROGRAM, IN A SANDBOX (cutbox-door.mjs). By AI agents, Wed Nov 11 2026. No macro, syntax, notation, axiom, sorry.
-/
import Derived.Test.YtahdmhenkjbimaaDoorRows
import GoSem.ClaimSeven
namespace Go.Proofs.YtahdmhenkjbimaaDoor
namespace Rows

/-- THE TIED CARD OF 'apiarylaw03.CombWrites'. -/
def combWritesCard : Claim7 := { stood := { row := combWritesRow, standIns := [], harness := (true, "f84e71d8a2081201a6b47bb206690a0df9cc1f48f1ff0f781ba5612a13d3e336"), looks := false }, kinds := [], alts := [], laidByText := true, laidKinds := [.data, .data], laidTests := true, laidLooks := .later }
def CombWritesCardSaid : Prop := Claim7.holds Tryd.pinned (.plain (OpenSpec.ofChange combWritesSpec)) combWritesCard

/-- THE SECOND FORM's CARD OF 'apiarylaw03.CombWrites'. -/
def combWritesUptoCard : Claim7 := { stood := { row := combWritesUptoRow, standIns := [], harness := (true, "f84e71d8a2081201a6b47bb206690a0df9cc1f48f1ff0f781ba5612a13d3e336"), looks := false }, kinds := [], alts := [], laidByText := true, laidKinds := [.data, .data], laidTests := true, laidLooks := .later }
def CombWritesUptoCardSaid : Prop := Claim7.holds Tryd.pinned (.plain (OpenSpec.upto combWritesSpec)) combWritesUptoCard
end Rows
end Go.Proofs.YtahdmhenkjbimaaDoor
