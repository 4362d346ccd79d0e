/-
  DERIVED. GIVEN WITH THE SEED: THE CARDS: each row of YtaceemaedpkigaaDoorRows.lean that lists a variable, with what it lists TIED to the program's text (the seventh form; the later family's looks); each row that meets fmt, with fmt's text TOLD by the authors' own Lean function (tested against real Go, not proved from fmt's source: count such statements apart). THE CARD IS WHAT COUNTS. Prove the row's statement (the work); the ties are given (YtaceemaedpkigaaDoorTie.lean); close each card by the builder's one call (the guide's Derived/Test/ToyasCard.lean, 'card_holds'). Laid BY PROGRAM, IN A SANDBOX (cutbox-door.mjs). By AI agents, Wed Nov 11 2026. No macro, syntax, notation, axiom, sorry.
-/
import Derived.Test.YtaceemaedpkigaaDoorRows
import GoSem.ClaimSeven
namespace Go.Proofs.YtaceemaedpkigaaDoor
namespace Rows

/-- THE TIED CARD OF 'apiarylaw03.CombForms'. -/
def combFormsCard : Claim7 := { stood := { row := combFormsRow, standIns := [], harness := (true, "c931bd55b8ecac757ec28ebfd8ee395cea27b0b85c9337e503a1b9675ee9389b"), looks := false }, kinds := [], alts := [], laidByText := true, laidKinds := [.data, .data], laidTests := true, laidLooks := .later }
def CombFormsCardSaid : Prop := Claim7.holds Tryd.pinned (.plain (OpenSpec.ofChange combFormsSpec)) combFormsCard

/-- THE TIED CARD OF 'apiarylaw05.HivePins'. -/
def hivePinsCard : Claim7 := { stood := { row := hivePinsRow, standIns := [], harness := (true, "c931bd55b8ecac757ec28ebfd8ee395cea27b0b85c9337e503a1b9675ee9389b"), looks := false }, kinds := [], alts := [], laidByText := true, laidKinds := [.data, .data], laidTests := true, laidLooks := .later }
def HivePinsCardSaid : Prop := Claim7.holds Tryd.pinned (.plain (OpenSpec.ofChange hivePinsSpec)) hivePinsCard

/-- THE SECOND FORM's CARD OF 'apiarylaw03.CombForms'. -/
def combFormsUptoCard : Claim7 := { stood := { row := combFormsUptoRow, standIns := [], harness := (true, "c931bd55b8ecac757ec28ebfd8ee395cea27b0b85c9337e503a1b9675ee9389b"), looks := false }, kinds := [], alts := [], laidByText := true, laidKinds := [.data, .data], laidTests := true, laidLooks := .later }
def CombFormsUptoCardSaid : Prop := Claim7.holds Tryd.pinned (.plain (OpenSpec.upto combFormsSpec)) combFormsUptoCard

/-- THE SECOND FORM's CARD OF 'apiarylaw05.HivePins'. -/
def hivePinsUptoCard : Claim7 := { stood := { row := hivePinsUptoRow, standIns := [], harness := (true, "c931bd55b8ecac757ec28ebfd8ee395cea27b0b85c9337e503a1b9675ee9389b"), looks := false }, kinds := [], alts := [], laidByText := true, laidKinds := [.data, .data], laidTests := true, laidLooks := .later }
def HivePinsUptoCardSaid : Prop := Claim7.holds Tryd.pinned (.plain (OpenSpec.upto hivePinsSpec)) hivePinsUptoCard
end Rows
end Go.Proofs.YtaceemaedpkigaaDoor
