/-
  DERIVED. GIVEN WITH THE SEED: THE CARDS: each row of YtfbjakhanjbaeaaDoorRows.lean that lists a variable, with what it lists TIED to the program's text (the seventh form; the later family's looks); each row that meets fmt, with fmt's text TOLD by the authors' own Lean function (tested against real Go, not proved from fmt's source: count such statements apart). THE CARD IS WHAT COUNTS. Prove the row's statement (the work); the ties are given (YtfbjakhanjbaeaaDoorTie.lean); close each card by the builder's one call (the guide's Derived/Test/ToyasCard.lean, 'card_holds'). Laid BY PROGRAM, IN A SANDBOX (cutbox-door.mjs). By AI agents, Wed Nov 11 2026. No macro, syntax, notation, axiom, sorry.
-/
import Derived.Test.YtfbjakhanjbaeaaDoorRows
import GoSem.ClaimSeven
namespace Go.Proofs.YtfbjakhanjbaeaaDoor
namespace Rows

/-- THE TIED CARD OF 'apiarylaw15.HedgeExact'. -/
def hedgeExactCard : Claim7 := { stood := { row := hedgeExactRow, standIns := [], harness := (true, "e0e6c01682a9ffaa12bf1bdd1ee71b729187e8c9b51882b8a8f1a7c2b08a9797"), looks := false }, kinds := [], alts := [], laidByText := true, laidKinds := [.data, .data], laidTests := true, laidLooks := .later }
def HedgeExactCardSaid : Prop := Claim7.holds Tryd.pinned (.plain (OpenSpec.ofChange hedgeExactSpec)) hedgeExactCard

/-- THE TIED CARD OF 'apiarylaw15.HedgeParts'. -/
def hedgePartsCard : Claim7 := { stood := { row := hedgePartsRow, standIns := [], harness := (true, "e0e6c01682a9ffaa12bf1bdd1ee71b729187e8c9b51882b8a8f1a7c2b08a9797"), looks := false }, kinds := [], alts := [], laidByText := true, laidKinds := [.data, .data], laidTests := true, laidLooks := .later }
def HedgePartsCardSaid : Prop := Claim7.holds Tryd.pinned (.plain (OpenSpec.ofChange hedgePartsSpec)) hedgePartsCard

/-- THE TIED CARD OF 'apiarylaw15.HedgeTells'. -/
def hedgeTellsCard : Claim7 := { stood := { row := hedgeTellsRow, standIns := [], harness := (true, "e0e6c01682a9ffaa12bf1bdd1ee71b729187e8c9b51882b8a8f1a7c2b08a9797"), looks := false }, kinds := [], alts := [], laidByText := true, laidKinds := [.data, .data], laidTests := true, laidLooks := .later }
def HedgeTellsCardSaid : Prop := Claim7.holds Tryd.pinned (.plain (OpenSpec.ofChange hedgeTellsSpec)) hedgeTellsCard

/-- THE TIED CARD OF 'apiarylaw15.HedgeSorts'. -/
def hedgeSortsCard : Claim7 := { stood := { row := hedgeSortsRow, standIns := [], harness := (true, "e0e6c01682a9ffaa12bf1bdd1ee71b729187e8c9b51882b8a8f1a7c2b08a9797"), looks := false }, kinds := [], alts := [], laidByText := true, laidKinds := [.data, .data], laidTests := true, laidLooks := .later }
def HedgeSortsCardSaid : Prop := Claim7.holds Tryd.pinned (.plain (OpenSpec.ofChange hedgeSortsSpec)) hedgeSortsCard

/-- THE TIED CARD OF 'apiarylaw15.HedgeGrows'. -/
def hedgeGrowsCard : Claim7 := { stood := { row := hedgeGrowsRow, standIns := [], harness := (true, "e0e6c01682a9ffaa12bf1bdd1ee71b729187e8c9b51882b8a8f1a7c2b08a9797"), looks := false }, kinds := [], alts := [], laidByText := true, laidKinds := [.data, .data], laidTests := true, laidLooks := .later }
def HedgeGrowsCardSaid : Prop := Claim7.holds Tryd.pinned (.plain (OpenSpec.ofChange hedgeGrowsSpec)) hedgeGrowsCard

/-- THE SECOND FORM's CARD OF 'apiarylaw15.HedgeExact'. -/
def hedgeExactUptoCard : Claim7 := { stood := { row := hedgeExactUptoRow, standIns := [], harness := (true, "e0e6c01682a9ffaa12bf1bdd1ee71b729187e8c9b51882b8a8f1a7c2b08a9797"), looks := false }, kinds := [], alts := [], laidByText := true, laidKinds := [.data, .data], laidTests := true, laidLooks := .later }
def HedgeExactUptoCardSaid : Prop := Claim7.holds Tryd.pinned (.plain (OpenSpec.upto hedgeExactSpec)) hedgeExactUptoCard

/-- THE SECOND FORM's CARD OF 'apiarylaw15.HedgeParts'. -/
def hedgePartsUptoCard : Claim7 := { stood := { row := hedgePartsUptoRow, standIns := [], harness := (true, "e0e6c01682a9ffaa12bf1bdd1ee71b729187e8c9b51882b8a8f1a7c2b08a9797"), looks := false }, kinds := [], alts := [], laidByText := true, laidKinds := [.data, .data], laidTests := true, laidLooks := .later }
def HedgePartsUptoCardSaid : Prop := Claim7.holds Tryd.pinned (.plain (OpenSpec.upto hedgePartsSpec)) hedgePartsUptoCard

/-- THE SECOND FORM's CARD OF 'apiarylaw15.HedgeTells'. -/
def hedgeTellsUptoCard : Claim7 := { stood := { row := hedgeTellsUptoRow, standIns := [], harness := (true, "e0e6c01682a9ffaa12bf1bdd1ee71b729187e8c9b51882b8a8f1a7c2b08a9797"), looks := false }, kinds := [], alts := [], laidByText := true, laidKinds := [.data, .data], laidTests := true, laidLooks := .later }
def HedgeTellsUptoCardSaid : Prop := Claim7.holds Tryd.pinned (.plain (OpenSpec.upto hedgeTellsSpec)) hedgeTellsUptoCard

/-- THE SECOND FORM's CARD OF 'apiarylaw15.HedgeSorts'. -/
def hedgeSortsUptoCard : Claim7 := { stood := { row := hedgeSortsUptoRow, standIns := [], harness := (true, "e0e6c01682a9ffaa12bf1bdd1ee71b729187e8c9b51882b8a8f1a7c2b08a9797"), looks := false }, kinds := [], alts := [], laidByText := true, laidKinds := [.data, .data], laidTests := true, laidLooks := .later }
def HedgeSortsUptoCardSaid : Prop := Claim7.holds Tryd.pinned (.plain (OpenSpec.upto hedgeSortsSpec)) hedgeSortsUptoCard

/-- THE SECOND FORM's CARD OF 'apiarylaw15.HedgeGrows'. -/
def hedgeGrowsUptoCard : Claim7 := { stood := { row := hedgeGrowsUptoRow, standIns := [], harness := (true, "e0e6c01682a9ffaa12bf1bdd1ee71b729187e8c9b51882b8a8f1a7c2b08a9797"), looks := false }, kinds := [], alts := [], laidByText := true, laidKinds := [.data, .data], laidTests := true, laidLooks := .later }
def HedgeGrowsUptoCardSaid : Prop := Claim7.holds Tryd.pinned (.plain (OpenSpec.upto hedgeGrowsSpec)) hedgeGrowsUptoCard
end Rows
end Go.Proofs.YtfbjakhanjbaeaaDoor
