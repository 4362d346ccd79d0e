/-
  DERIVED. GIVEN WITH THE SEED: THE CARDS: each row of YtejdpjnehjggoaaDoorRows.lean that lists a variable, with what it lists TIED to the program's text (the seventh form; the later family's looks); each row that meets fmt, with fmt's text TOLD by the authors' own Lean function (tested against real Go, not proved from fmt's source: count such statements apart). THE CARD IS WHAT COUNTS. Prove the row's statement (the work); the ties are given (YtejdpjnehjggoaaDoorTie.lean); close each card by the builder's one call (the guide's Derived/Test/ToyasCard.lean, 'card_holds'). Laid BY PROGRAM, IN A SANDBOX (cutbox-door.mjs). By AI agents, Wed Nov 11 2026. No macro, syntax, notation, axiom, sorry.
-/
import Derived.Test.YtejdpjnehjggoaaDoorRows
import GoSem.ClaimSeven
namespace Go.Proofs.YtejdpjnehjggoaaDoor
namespace Rows

/-- THE TIED CARD OF 'apiarylaw03.CombWrites'. -/
def combWritesCard : Claim7 := { stood := { row := combWritesRow, standIns := [], harness := (true, "4deacdbb250e2d431189f8fe2b117fb7c37f69508e5a04439145743689a11559"), looks := false }, kinds := [], alts := [], laidByText := true, laidKinds := [.data, .data], laidTests := true, laidLooks := .later }
def CombWritesCardSaid : Prop := Claim7.holds Tryd.pinned (.plain (OpenSpec.ofChange combWritesSpec)) combWritesCard

/-- THE TIED CARD OF 'apiarylaw03.CombForms'. -/
def combFormsCard : Claim7 := { stood := { row := combFormsRow, standIns := [], harness := (true, "4deacdbb250e2d431189f8fe2b117fb7c37f69508e5a04439145743689a11559"), looks := false }, kinds := [], alts := [], laidByText := true, laidKinds := [.data, .data], laidTests := true, laidLooks := .later }
def CombFormsCardSaid : Prop := Claim7.holds Tryd.pinned (.plain (OpenSpec.ofChange combFormsSpec)) combFormsCard

/-- THE SECOND FORM's CARD OF 'apiarylaw03.CombWrites'. -/
def combWritesUptoCard : Claim7 := { stood := { row := combWritesUptoRow, standIns := [], harness := (true, "4deacdbb250e2d431189f8fe2b117fb7c37f69508e5a04439145743689a11559"), looks := false }, kinds := [], alts := [], laidByText := true, laidKinds := [.data, .data], laidTests := true, laidLooks := .later }
def CombWritesUptoCardSaid : Prop := Claim7.holds Tryd.pinned (.plain (OpenSpec.upto combWritesSpec)) combWritesUptoCard

/-- THE SECOND FORM's CARD OF 'apiarylaw03.CombForms'. -/
def combFormsUptoCard : Claim7 := { stood := { row := combFormsUptoRow, standIns := [], harness := (true, "4deacdbb250e2d431189f8fe2b117fb7c37f69508e5a04439145743689a11559"), looks := false }, kinds := [], alts := [], laidByText := true, laidKinds := [.data, .data], laidTests := true, laidLooks := .later }
def CombFormsUptoCardSaid : Prop := Claim7.holds Tryd.pinned (.plain (OpenSpec.upto combFormsSpec)) combFormsUptoCard
end Rows
end Go.Proofs.YtejdpjnehjggoaaDoor
