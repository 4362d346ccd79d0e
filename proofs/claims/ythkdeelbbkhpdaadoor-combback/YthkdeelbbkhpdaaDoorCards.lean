/-
  DERIVED. GIVEN WITH THE SEED: THE CARDS: each row of YthkdeelbbkhpdaaDoorRows.lean that lists a variable, with what it lists TIED to the program's text (the seventh form; the later family's looks); each row that meets fmt, with fmt's text TOLD by the authors' own Lean function (tested against real Go, not proved from fmt's source: count such statements apart). THE CARD IS WHAT COUNTS. Prove the row's statement (the work); the ties are given (YthkdeelbbkhpdaaDoorTie.lean); close each card by the builder's one call (the guide's Derived/Test/ToyasCard.lean, 'card_holds'). Laid BY PROGRAM, IN A SANDBOX (cutbox-door.mjs). By AI agents, Wed Nov 11 2026. No macro, syntax, notation, axiom, sorry.
-/
import Derived.Test.YthkdeelbbkhpdaaDoorRows
import GoSem.ClaimSeven
namespace Go.Proofs.YthkdeelbbkhpdaaDoor
namespace Rows

/-- THE TIED CARD OF 'apiarylaw03.CombExact'. -/
def combExactCard : Claim7 := { stood := { row := combExactRow, standIns := [], harness := (true, "47272d3597b9a08acbc0babfb949a67c4982a3362c36bdfc5628561f75a15697"), looks := false }, kinds := [], alts := [], laidByText := true, laidKinds := [.data, .data], laidTests := true, laidLooks := .later }
def CombExactCardSaid : Prop := Claim7.holds Tryd.pinned (.plain (OpenSpec.ofChange combExactSpec)) combExactCard

/-- THE TIED CARD OF 'apiarylaw03.CombJoins'. -/
def combJoinsCard : Claim7 := { stood := { row := combJoinsRow, standIns := [], harness := (true, "47272d3597b9a08acbc0babfb949a67c4982a3362c36bdfc5628561f75a15697"), looks := false }, kinds := [], alts := [], laidByText := true, laidKinds := [.data, .data], laidTests := true, laidLooks := .later }
def CombJoinsCardSaid : Prop := Claim7.holds Tryd.pinned (.plain (OpenSpec.ofChange combJoinsSpec)) combJoinsCard

/-- THE TIED CARD OF 'apiarylaw03.CombWrites'. -/
def combWritesCard : Claim7 := { stood := { row := combWritesRow, standIns := [], harness := (true, "47272d3597b9a08acbc0babfb949a67c4982a3362c36bdfc5628561f75a15697"), looks := false }, kinds := [], alts := [], laidByText := true, laidKinds := [.data, .data], laidTests := true, laidLooks := .later }
def CombWritesCardSaid : Prop := Claim7.holds Tryd.pinned (.plain (OpenSpec.ofChange combWritesSpec)) combWritesCard

/-- THE TIED CARD OF 'apiarylaw03.CombBack'. -/
def combBackCard : Claim7 := { stood := { row := combBackRow, standIns := [], harness := (true, "47272d3597b9a08acbc0babfb949a67c4982a3362c36bdfc5628561f75a15697"), looks := false }, kinds := [], alts := [], laidByText := true, laidKinds := [.data, .data], laidTests := true, laidLooks := .later }
def CombBackCardSaid : Prop := Claim7.holds Tryd.pinned (.plain (OpenSpec.ofChange combBackSpec)) combBackCard

/-- THE TIED CARD OF 'apiarylaw03.CombForms'. -/
def combFormsCard : Claim7 := { stood := { row := combFormsRow, standIns := [], harness := (true, "47272d3597b9a08acbc0babfb949a67c4982a3362c36bdfc5628561f75a15697"), looks := false }, kinds := [], alts := [], laidByText := true, laidKinds := [.data, .data], laidTests := true, laidLooks := .later }
def CombFormsCardSaid : Prop := Claim7.holds Tryd.pinned (.plain (OpenSpec.ofChange combFormsSpec)) combFormsCard

/-- THE TIED CARD OF 'apiarylaw03.CombParts'. -/
def combPartsCard : Claim7 := { stood := { row := combPartsRow, standIns := [], harness := (true, "47272d3597b9a08acbc0babfb949a67c4982a3362c36bdfc5628561f75a15697"), looks := false }, kinds := [], alts := [], laidByText := true, laidKinds := [.data, .data], laidTests := true, laidLooks := .later }
def CombPartsCardSaid : Prop := Claim7.holds Tryd.pinned (.plain (OpenSpec.ofChange combPartsSpec)) combPartsCard

/-- THE SECOND FORM's CARD OF 'apiarylaw03.CombExact'. -/
def combExactUptoCard : Claim7 := { stood := { row := combExactUptoRow, standIns := [], harness := (true, "47272d3597b9a08acbc0babfb949a67c4982a3362c36bdfc5628561f75a15697"), looks := false }, kinds := [], alts := [], laidByText := true, laidKinds := [.data, .data], laidTests := true, laidLooks := .later }
def CombExactUptoCardSaid : Prop := Claim7.holds Tryd.pinned (.plain (OpenSpec.upto combExactSpec)) combExactUptoCard

/-- THE SECOND FORM's CARD OF 'apiarylaw03.CombJoins'. -/
def combJoinsUptoCard : Claim7 := { stood := { row := combJoinsUptoRow, standIns := [], harness := (true, "47272d3597b9a08acbc0babfb949a67c4982a3362c36bdfc5628561f75a15697"), looks := false }, kinds := [], alts := [], laidByText := true, laidKinds := [.data, .data], laidTests := true, laidLooks := .later }
def CombJoinsUptoCardSaid : Prop := Claim7.holds Tryd.pinned (.plain (OpenSpec.upto combJoinsSpec)) combJoinsUptoCard

/-- THE SECOND FORM's CARD OF 'apiarylaw03.CombWrites'. -/
def combWritesUptoCard : Claim7 := { stood := { row := combWritesUptoRow, standIns := [], harness := (true, "47272d3597b9a08acbc0babfb949a67c4982a3362c36bdfc5628561f75a15697"), looks := false }, kinds := [], alts := [], laidByText := true, laidKinds := [.data, .data], laidTests := true, laidLooks := .later }
def CombWritesUptoCardSaid : Prop := Claim7.holds Tryd.pinned (.plain (OpenSpec.upto combWritesSpec)) combWritesUptoCard

/-- THE SECOND FORM's CARD OF 'apiarylaw03.CombBack'. -/
def combBackUptoCard : Claim7 := { stood := { row := combBackUptoRow, standIns := [], harness := (true, "47272d3597b9a08acbc0babfb949a67c4982a3362c36bdfc5628561f75a15697"), looks := false }, kinds := [], alts := [], laidByText := true, laidKinds := [.data, .data], laidTests := true, laidLooks := .later }
def CombBackUptoCardSaid : Prop := Claim7.holds Tryd.pinned (.plain (OpenSpec.upto combBackSpec)) combBackUptoCard

/-- THE SECOND FORM's CARD OF 'apiarylaw03.CombForms'. -/
def combFormsUptoCard : Claim7 := { stood := { row := combFormsUptoRow, standIns := [], harness := (true, "47272d3597b9a08acbc0babfb949a67c4982a3362c36bdfc5628561f75a15697"), looks := false }, kinds := [], alts := [], laidByText := true, laidKinds := [.data, .data], laidTests := true, laidLooks := .later }
def CombFormsUptoCardSaid : Prop := Claim7.holds Tryd.pinned (.plain (OpenSpec.upto combFormsSpec)) combFormsUptoCard

/-- THE SECOND FORM's CARD OF 'apiarylaw03.CombParts'. -/
def combPartsUptoCard : Claim7 := { stood := { row := combPartsUptoRow, standIns := [], harness := (true, "47272d3597b9a08acbc0babfb949a67c4982a3362c36bdfc5628561f75a15697"), looks := false }, kinds := [], alts := [], laidByText := true, laidKinds := [.data, .data], laidTests := true, laidLooks := .later }
def CombPartsUptoCardSaid : Prop := Claim7.holds Tryd.pinned (.plain (OpenSpec.upto combPartsSpec)) combPartsUptoCard
end Rows
end Go.Proofs.YthkdeelbbkhpdaaDoor
