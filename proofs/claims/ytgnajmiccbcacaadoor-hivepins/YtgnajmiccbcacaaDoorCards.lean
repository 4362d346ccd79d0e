/-
  DERIVED. GIVEN WITH THE SEED: THE CARDS: each row of YtgnajmiccbcacaaDoorRows.lean that lists a variable, with what it lists TIED to the program's text (the seventh form; the later family's looks); each row that meets fmt, with fmt's text TOLD by the authors' own Lean function (tested against real Go, not proved from fmt's source: count such statements apart). THE CARD IS WHAT COUNTS. Prove the row's statement (the work); the ties are given (YtgnajmiccbcacaaDoorTie.lean); close each card by the builder's one call (the guide's Derived/Test/ToyasCard.lean, 'card_holds'). Laid BY PROGRAM, IN A SANDBOX (cutbox-door.mjs). By AI agents, Wed Nov 11 2026. No macro, syntax, notation, axiom, sorry.
-/
import Derived.Test.YtgnajmiccbcacaaDoorRows
import GoSem.ClaimSeven
namespace Go.Proofs.YtgnajmiccbcacaaDoor
namespace Rows

/-- THE TIED CARD OF 'apiarylaw05.HiveTruth'. -/
def hiveTruthCard : Claim7 := { stood := { row := hiveTruthRow, standIns := [], harness := (true, "5fe1b56a1e8fdd7b4efbf1e39586e5575f8dfc355304f8602fc71a4bc2a75b96"), looks := false }, kinds := [], alts := [], laidByText := true, laidKinds := [.data, .data], laidTests := true, laidLooks := .later }
def HiveTruthCardSaid : Prop := Claim7.holds Tryd.pinned (.plain (OpenSpec.ofChange hiveTruthSpec)) hiveTruthCard

/-- THE TIED CARD OF 'apiarylaw05.HivePins'. -/
def hivePinsCard : Claim7 := { stood := { row := hivePinsRow, standIns := [], harness := (true, "5fe1b56a1e8fdd7b4efbf1e39586e5575f8dfc355304f8602fc71a4bc2a75b96"), looks := false }, kinds := [], alts := [], laidByText := true, laidKinds := [.data, .data], laidTests := true, laidLooks := .later }
def HivePinsCardSaid : Prop := Claim7.holds Tryd.pinned (.plain (OpenSpec.ofChange hivePinsSpec)) hivePinsCard

/-- THE TIED CARD OF 'apiarylaw05.HiveOldest'. -/
def hiveOldestCard : Claim7 := { stood := { row := hiveOldestRow, standIns := [], harness := (true, "5fe1b56a1e8fdd7b4efbf1e39586e5575f8dfc355304f8602fc71a4bc2a75b96"), looks := false }, kinds := [], alts := [], laidByText := true, laidKinds := [.data, .data], laidTests := true, laidLooks := .later }
def HiveOldestCardSaid : Prop := Claim7.holds Tryd.pinned (.plain (OpenSpec.ofChange hiveOldestSpec)) hiveOldestCard

/-- THE TIED CARD OF 'apiarylaw05.HiveAgain'. -/
def hiveAgainCard : Claim7 := { stood := { row := hiveAgainRow, standIns := [], harness := (true, "5fe1b56a1e8fdd7b4efbf1e39586e5575f8dfc355304f8602fc71a4bc2a75b96"), looks := false }, kinds := [], alts := [], laidByText := true, laidKinds := [.data, .data], laidTests := true, laidLooks := .later }
def HiveAgainCardSaid : Prop := Claim7.holds Tryd.pinned (.plain (OpenSpec.ofChange hiveAgainSpec)) hiveAgainCard

/-- THE SECOND FORM's CARD OF 'apiarylaw05.HiveTruth'. -/
def hiveTruthUptoCard : Claim7 := { stood := { row := hiveTruthUptoRow, standIns := [], harness := (true, "5fe1b56a1e8fdd7b4efbf1e39586e5575f8dfc355304f8602fc71a4bc2a75b96"), looks := false }, kinds := [], alts := [], laidByText := true, laidKinds := [.data, .data], laidTests := true, laidLooks := .later }
def HiveTruthUptoCardSaid : Prop := Claim7.holds Tryd.pinned (.plain (OpenSpec.upto hiveTruthSpec)) hiveTruthUptoCard

/-- THE SECOND FORM's CARD OF 'apiarylaw05.HivePins'. -/
def hivePinsUptoCard : Claim7 := { stood := { row := hivePinsUptoRow, standIns := [], harness := (true, "5fe1b56a1e8fdd7b4efbf1e39586e5575f8dfc355304f8602fc71a4bc2a75b96"), looks := false }, kinds := [], alts := [], laidByText := true, laidKinds := [.data, .data], laidTests := true, laidLooks := .later }
def HivePinsUptoCardSaid : Prop := Claim7.holds Tryd.pinned (.plain (OpenSpec.upto hivePinsSpec)) hivePinsUptoCard

/-- THE SECOND FORM's CARD OF 'apiarylaw05.HiveOldest'. -/
def hiveOldestUptoCard : Claim7 := { stood := { row := hiveOldestUptoRow, standIns := [], harness := (true, "5fe1b56a1e8fdd7b4efbf1e39586e5575f8dfc355304f8602fc71a4bc2a75b96"), looks := false }, kinds := [], alts := [], laidByText := true, laidKinds := [.data, .data], laidTests := true, laidLooks := .later }
def HiveOldestUptoCardSaid : Prop := Claim7.holds Tryd.pinned (.plain (OpenSpec.upto hiveOldestSpec)) hiveOldestUptoCard

/-- THE SECOND FORM's CARD OF 'apiarylaw05.HiveAgain'. -/
def hiveAgainUptoCard : Claim7 := { stood := { row := hiveAgainUptoRow, standIns := [], harness := (true, "5fe1b56a1e8fdd7b4efbf1e39586e5575f8dfc355304f8602fc71a4bc2a75b96"), looks := false }, kinds := [], alts := [], laidByText := true, laidKinds := [.data, .data], laidTests := true, laidLooks := .later }
def HiveAgainUptoCardSaid : Prop := Claim7.holds Tryd.pinned (.plain (OpenSpec.upto hiveAgainSpec)) hiveAgainUptoCard
end Rows
end Go.Proofs.YtgnajmiccbcacaaDoor
