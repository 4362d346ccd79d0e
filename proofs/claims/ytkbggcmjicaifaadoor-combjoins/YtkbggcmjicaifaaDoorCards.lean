/-
  DERIVED. GIVEN WITH THE SEED: THE CARDS: each row of YtkbggcmjicaifaaDoorRows.lean that lists a variable, with what it lists TIED to the program's text (the seventh form; the later family's looks); each row that meets fmt, with fmt's text TOLD by the authors' own Lean function (tested against real Go, not proved from fmt's source: count such statements apart). THE CARD IS WHAT COUNTS. Prove the row's statement (the work); the ties are given (YtkbggcmjicaifaaDoorTie.lean); close each card by the builder's one call (the guide's Derived/Test/ToyasCard.lean, 'card_holds'). Laid BY PROGRAM, IN A SANDBOX (cutbox-door.mjs). By AI agents, Wed Nov 11 2026. No macro, syntax, notation, axiom, sorry.
-/
import Derived.Test.YtkbggcmjicaifaaDoorRows
import GoSem.ClaimSeven
namespace Go.Proofs.YtkbggcmjicaifaaDoor
namespace Rows

/-- THE TIED CARD OF 'apiarylaw02.StampExact'. -/
def stampExactCard : Claim7 := { stood := { row := stampExactRow, standIns := [], harness := (true, "d4cf4656291c5b23de941a9cf00a8a433ecf198e7fff27069c05c9a95769fd51"), looks := false }, kinds := [], alts := [], laidByText := true, laidKinds := [.data, .data], laidTests := true, laidLooks := .later }
def StampExactCardSaid : Prop := Claim7.holds Tryd.pinned (.plain (OpenSpec.ofChange stampExactSpec)) stampExactCard

/-- THE TIED CARD OF 'apiarylaw03.CombExact'. -/
def combExactCard : Claim7 := { stood := { row := combExactRow, standIns := [], harness := (true, "d4cf4656291c5b23de941a9cf00a8a433ecf198e7fff27069c05c9a95769fd51"), looks := false }, kinds := [], alts := [], laidByText := true, laidKinds := [.data, .data], laidTests := true, laidLooks := .later }
def CombExactCardSaid : Prop := Claim7.holds Tryd.pinned (.plain (OpenSpec.ofChange combExactSpec)) combExactCard

/-- THE TIED CARD OF 'apiarylaw03.CombJoins'. -/
def combJoinsCard : Claim7 := { stood := { row := combJoinsRow, standIns := [], harness := (true, "d4cf4656291c5b23de941a9cf00a8a433ecf198e7fff27069c05c9a95769fd51"), looks := false }, kinds := [], alts := [], laidByText := true, laidKinds := [.data, .data], laidTests := true, laidLooks := .later }
def CombJoinsCardSaid : Prop := Claim7.holds Tryd.pinned (.plain (OpenSpec.ofChange combJoinsSpec)) combJoinsCard

/-- THE TIED CARD OF 'apiarylaw03.CombWrites'. -/
def combWritesCard : Claim7 := { stood := { row := combWritesRow, standIns := [], harness := (true, "d4cf4656291c5b23de941a9cf00a8a433ecf198e7fff27069c05c9a95769fd51"), looks := false }, kinds := [], alts := [], laidByText := true, laidKinds := [.data, .data], laidTests := true, laidLooks := .later }
def CombWritesCardSaid : Prop := Claim7.holds Tryd.pinned (.plain (OpenSpec.ofChange combWritesSpec)) combWritesCard

/-- THE TIED CARD OF 'apiarylaw03.CombForms'. -/
def combFormsCard : Claim7 := { stood := { row := combFormsRow, standIns := [], harness := (true, "d4cf4656291c5b23de941a9cf00a8a433ecf198e7fff27069c05c9a95769fd51"), looks := false }, kinds := [], alts := [], laidByText := true, laidKinds := [.data, .data], laidTests := true, laidLooks := .later }
def CombFormsCardSaid : Prop := Claim7.holds Tryd.pinned (.plain (OpenSpec.ofChange combFormsSpec)) combFormsCard

/-- THE SECOND FORM's CARD OF 'apiarylaw02.StampExact'. -/
def stampExactUptoCard : Claim7 := { stood := { row := stampExactUptoRow, standIns := [], harness := (true, "d4cf4656291c5b23de941a9cf00a8a433ecf198e7fff27069c05c9a95769fd51"), looks := false }, kinds := [], alts := [], laidByText := true, laidKinds := [.data, .data], laidTests := true, laidLooks := .later }
def StampExactUptoCardSaid : Prop := Claim7.holds Tryd.pinned (.plain (OpenSpec.upto stampExactSpec)) stampExactUptoCard

/-- THE SECOND FORM's CARD OF 'apiarylaw03.CombExact'. -/
def combExactUptoCard : Claim7 := { stood := { row := combExactUptoRow, standIns := [], harness := (true, "d4cf4656291c5b23de941a9cf00a8a433ecf198e7fff27069c05c9a95769fd51"), looks := false }, kinds := [], alts := [], laidByText := true, laidKinds := [.data, .data], laidTests := true, laidLooks := .later }
def CombExactUptoCardSaid : Prop := Claim7.holds Tryd.pinned (.plain (OpenSpec.upto combExactSpec)) combExactUptoCard

/-- THE SECOND FORM's CARD OF 'apiarylaw03.CombJoins'. -/
def combJoinsUptoCard : Claim7 := { stood := { row := combJoinsUptoRow, standIns := [], harness := (true, "d4cf4656291c5b23de941a9cf00a8a433ecf198e7fff27069c05c9a95769fd51"), looks := false }, kinds := [], alts := [], laidByText := true, laidKinds := [.data, .data], laidTests := true, laidLooks := .later }
def CombJoinsUptoCardSaid : Prop := Claim7.holds Tryd.pinned (.plain (OpenSpec.upto combJoinsSpec)) combJoinsUptoCard

/-- THE SECOND FORM's CARD OF 'apiarylaw03.CombWrites'. -/
def combWritesUptoCard : Claim7 := { stood := { row := combWritesUptoRow, standIns := [], harness := (true, "d4cf4656291c5b23de941a9cf00a8a433ecf198e7fff27069c05c9a95769fd51"), looks := false }, kinds := [], alts := [], laidByText := true, laidKinds := [.data, .data], laidTests := true, laidLooks := .later }
def CombWritesUptoCardSaid : Prop := Claim7.holds Tryd.pinned (.plain (OpenSpec.upto combWritesSpec)) combWritesUptoCard

/-- THE SECOND FORM's CARD OF 'apiarylaw03.CombForms'. -/
def combFormsUptoCard : Claim7 := { stood := { row := combFormsUptoRow, standIns := [], harness := (true, "d4cf4656291c5b23de941a9cf00a8a433ecf198e7fff27069c05c9a95769fd51"), looks := false }, kinds := [], alts := [], laidByText := true, laidKinds := [.data, .data], laidTests := true, laidLooks := .later }
def CombFormsUptoCardSaid : Prop := Claim7.holds Tryd.pinned (.plain (OpenSpec.upto combFormsSpec)) combFormsUptoCard
end Rows
end Go.Proofs.YtkbggcmjicaifaaDoor
