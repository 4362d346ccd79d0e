/-
  DERIVED. GIVEN WITH THE SEED: THE CARDS: each row of YtodcafmhaleemaaDoorRows.lean that lists a variable, with what it lists TIED to the program's text (the seventh form; the later family's looks); each row that meets fmt, with fmt's text TOLD by the authors' own Lean function (tested against real Go, not proved from fmt's source: count such statements apart). THE CARD IS WHAT COUNTS. Prove the row's statement (the work); the ties are given (YtodcafmhaleemaaDoorTie.lean); close each card by the builder's one call (the guide's Derived/Test/ToyasCard.lean, 'card_holds'). Laid BY PROGRAM, IN A SANDBOX (cutbox-door.mjs). By AI agents, Wed Nov 11 2026. No macro, syntax, notation, axiom, sorry.
-/
import Derived.Test.YtodcafmhaleemaaDoorRows
import GoSem.ClaimSeven
namespace Go.Proofs.YtodcafmhaleemaaDoor
namespace Rows

/-- THE TIED CARD OF 'apiarylaw06.MillExact'. -/
def millExactCard : Claim7 := { stood := { row := millExactRow, standIns := [], harness := (true, "afa0df9632bea426513c026daaa28b5d26c07324df7b36cb38b24ca991ab2296"), looks := false }, kinds := [], alts := [], laidByText := true, laidKinds := [.data, .data, .data, .data, .data], laidTests := true, laidLooks := .later }
def MillExactCardSaid : Prop := Claim7.holds Tryd.pinned (.plain (OpenSpec.ofChange millExactSpec)) millExactCard

/-- THE TIED CARD OF 'apiarylaw06.MillSteps'. -/
def millStepsCard : Claim7 := { stood := { row := millStepsRow, standIns := [], harness := (true, "afa0df9632bea426513c026daaa28b5d26c07324df7b36cb38b24ca991ab2296"), looks := false }, kinds := [], alts := [], laidByText := true, laidKinds := [.data, .data, .data, .data, .data], laidTests := true, laidLooks := .later }
def MillStepsCardSaid : Prop := Claim7.holds Tryd.pinned (.plain (OpenSpec.ofChange millStepsSpec)) millStepsCard

/-- THE TIED CARD OF 'apiarylaw06.MillEnds'. -/
def millEndsCard : Claim7 := { stood := { row := millEndsRow, standIns := [], harness := (true, "afa0df9632bea426513c026daaa28b5d26c07324df7b36cb38b24ca991ab2296"), looks := false }, kinds := [], alts := [], laidByText := true, laidKinds := [.data, .data, .data, .data, .data], laidTests := true, laidLooks := .later }
def MillEndsCardSaid : Prop := Claim7.holds Tryd.pinned (.plain (OpenSpec.ofChange millEndsSpec)) millEndsCard

/-- THE TIED CARD OF 'apiarylaw06.MillWords'. -/
def millWordsCard : Claim7 := { stood := { row := millWordsRow, standIns := [], harness := (true, "afa0df9632bea426513c026daaa28b5d26c07324df7b36cb38b24ca991ab2296"), looks := false }, kinds := [], alts := [], laidByText := true, laidKinds := [.data, .data, .data, .data, .data], laidTests := true, laidLooks := .later }
def MillWordsCardSaid : Prop := Claim7.holds Tryd.pinned (.plain (OpenSpec.ofChange millWordsSpec)) millWordsCard

/-- THE TIED CARD OF 'apiarylaw06.MillStands'. -/
def millStandsCard : Claim7 := { stood := { row := millStandsRow, standIns := [], harness := (true, "afa0df9632bea426513c026daaa28b5d26c07324df7b36cb38b24ca991ab2296"), looks := false }, kinds := [], alts := [], laidByText := true, laidKinds := [.data, .data, .data, .data, .data], laidTests := true, laidLooks := .later }
def MillStandsCardSaid : Prop := Claim7.holds Tryd.pinned (.plain (OpenSpec.ofChange millStandsSpec)) millStandsCard

/-- THE TIED CARD OF 'apiarylaw06.MillJoins'. -/
def millJoinsCard : Claim7 := { stood := { row := millJoinsRow, standIns := [], harness := (true, "afa0df9632bea426513c026daaa28b5d26c07324df7b36cb38b24ca991ab2296"), looks := false }, kinds := [], alts := [], laidByText := true, laidKinds := [.data, .data, .data, .data, .data], laidTests := true, laidLooks := .later }
def MillJoinsCardSaid : Prop := Claim7.holds Tryd.pinned (.plain (OpenSpec.ofChange millJoinsSpec)) millJoinsCard

/-- THE SECOND FORM's CARD OF 'apiarylaw06.MillExact'. -/
def millExactUptoCard : Claim7 := { stood := { row := millExactUptoRow, standIns := [], harness := (true, "afa0df9632bea426513c026daaa28b5d26c07324df7b36cb38b24ca991ab2296"), looks := false }, kinds := [], alts := [], laidByText := true, laidKinds := [.data, .data, .data, .data, .data], laidTests := true, laidLooks := .later }
def MillExactUptoCardSaid : Prop := Claim7.holds Tryd.pinned (.plain (OpenSpec.upto millExactSpec)) millExactUptoCard

/-- THE SECOND FORM's CARD OF 'apiarylaw06.MillSteps'. -/
def millStepsUptoCard : Claim7 := { stood := { row := millStepsUptoRow, standIns := [], harness := (true, "afa0df9632bea426513c026daaa28b5d26c07324df7b36cb38b24ca991ab2296"), looks := false }, kinds := [], alts := [], laidByText := true, laidKinds := [.data, .data, .data, .data, .data], laidTests := true, laidLooks := .later }
def MillStepsUptoCardSaid : Prop := Claim7.holds Tryd.pinned (.plain (OpenSpec.upto millStepsSpec)) millStepsUptoCard

/-- THE SECOND FORM's CARD OF 'apiarylaw06.MillEnds'. -/
def millEndsUptoCard : Claim7 := { stood := { row := millEndsUptoRow, standIns := [], harness := (true, "afa0df9632bea426513c026daaa28b5d26c07324df7b36cb38b24ca991ab2296"), looks := false }, kinds := [], alts := [], laidByText := true, laidKinds := [.data, .data, .data, .data, .data], laidTests := true, laidLooks := .later }
def MillEndsUptoCardSaid : Prop := Claim7.holds Tryd.pinned (.plain (OpenSpec.upto millEndsSpec)) millEndsUptoCard

/-- THE SECOND FORM's CARD OF 'apiarylaw06.MillWords'. -/
def millWordsUptoCard : Claim7 := { stood := { row := millWordsUptoRow, standIns := [], harness := (true, "afa0df9632bea426513c026daaa28b5d26c07324df7b36cb38b24ca991ab2296"), looks := false }, kinds := [], alts := [], laidByText := true, laidKinds := [.data, .data, .data, .data, .data], laidTests := true, laidLooks := .later }
def MillWordsUptoCardSaid : Prop := Claim7.holds Tryd.pinned (.plain (OpenSpec.upto millWordsSpec)) millWordsUptoCard

/-- THE SECOND FORM's CARD OF 'apiarylaw06.MillStands'. -/
def millStandsUptoCard : Claim7 := { stood := { row := millStandsUptoRow, standIns := [], harness := (true, "afa0df9632bea426513c026daaa28b5d26c07324df7b36cb38b24ca991ab2296"), looks := false }, kinds := [], alts := [], laidByText := true, laidKinds := [.data, .data, .data, .data, .data], laidTests := true, laidLooks := .later }
def MillStandsUptoCardSaid : Prop := Claim7.holds Tryd.pinned (.plain (OpenSpec.upto millStandsSpec)) millStandsUptoCard

/-- THE SECOND FORM's CARD OF 'apiarylaw06.MillJoins'. -/
def millJoinsUptoCard : Claim7 := { stood := { row := millJoinsUptoRow, standIns := [], harness := (true, "afa0df9632bea426513c026daaa28b5d26c07324df7b36cb38b24ca991ab2296"), looks := false }, kinds := [], alts := [], laidByText := true, laidKinds := [.data, .data, .data, .data, .data], laidTests := true, laidLooks := .later }
def MillJoinsUptoCardSaid : Prop := Claim7.holds Tryd.pinned (.plain (OpenSpec.upto millJoinsSpec)) millJoinsUptoCard
end Rows
end Go.Proofs.YtodcafmhaleemaaDoor
