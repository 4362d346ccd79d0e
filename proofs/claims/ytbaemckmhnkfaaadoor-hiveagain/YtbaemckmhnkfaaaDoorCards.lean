/-
  DERIVED. GIVEN WITH THE SEED: THE CARDS: each row of YtbaemckmhnkfaaaDoorRows.lean that lists a variable, with what it lists TIED to the program's text (the seventh form; the later family's looks); each row that meets fmt, with fmt's text TOLD by the authors' own Lean function (tested against real Go, not proved from fmt's source: count such statements apart). THE CARD IS WHAT COUNTS. Prove the row's statement (the work); the ties are given (YtbaemckmhnkfaaaDoorTie.lean); close each card by the builder's one call (the guide's Derived/Test/ToyasCard.lean, 'card_holds'). Laid BY PROGRAM, IN A SANDBOX (cutbox-door.mjs). By AI agents, Wed Nov 11 2026. No macro, syntax, notation, axiom, sorry.
-/
import Derived.Test.YtbaemckmhnkfaaaDoorRows
import GoSem.ClaimSeven
namespace Go.Proofs.YtbaemckmhnkfaaaDoor
namespace Rows

/-- THE TIED CARD OF 'apiarylaw05.HiveTruth'. -/
def hiveTruthCard : Claim7 := { stood := { row := hiveTruthRow, standIns := [], harness := (true, "e3e919f2354913dcf2440dade3d2fc419ec0e6c1eacf64f0cd936beab43c6220"), looks := false }, kinds := [], alts := [], laidByText := true, laidKinds := [.data, .data], laidTests := true, laidLooks := .later }
def HiveTruthCardSaid : Prop := Claim7.holds Tryd.pinned (.plain (OpenSpec.ofChange hiveTruthSpec)) hiveTruthCard

/-- THE TIED CARD OF 'apiarylaw05.HiveAgain'. -/
def hiveAgainCard : Claim7 := { stood := { row := hiveAgainRow, standIns := [], harness := (true, "e3e919f2354913dcf2440dade3d2fc419ec0e6c1eacf64f0cd936beab43c6220"), looks := false }, kinds := [], alts := [], laidByText := true, laidKinds := [.data, .data], laidTests := true, laidLooks := .later }
def HiveAgainCardSaid : Prop := Claim7.holds Tryd.pinned (.plain (OpenSpec.ofChange hiveAgainSpec)) hiveAgainCard

/-- THE SECOND FORM's CARD OF 'apiarylaw05.HiveTruth'. -/
def hiveTruthUptoCard : Claim7 := { stood := { row := hiveTruthUptoRow, standIns := [], harness := (true, "e3e919f2354913dcf2440dade3d2fc419ec0e6c1eacf64f0cd936beab43c6220"), looks := false }, kinds := [], alts := [], laidByText := true, laidKinds := [.data, .data], laidTests := true, laidLooks := .later }
def HiveTruthUptoCardSaid : Prop := Claim7.holds Tryd.pinned (.plain (OpenSpec.upto hiveTruthSpec)) hiveTruthUptoCard

/-- THE SECOND FORM's CARD OF 'apiarylaw05.HiveAgain'. -/
def hiveAgainUptoCard : Claim7 := { stood := { row := hiveAgainUptoRow, standIns := [], harness := (true, "e3e919f2354913dcf2440dade3d2fc419ec0e6c1eacf64f0cd936beab43c6220"), looks := false }, kinds := [], alts := [], laidByText := true, laidKinds := [.data, .data], laidTests := true, laidLooks := .later }
def HiveAgainUptoCardSaid : Prop := Claim7.holds Tryd.pinned (.plain (OpenSpec.upto hiveAgainSpec)) hiveAgainUptoCard
end Rows
end Go.Proofs.YtbaemckmhnkfaaaDoor
