/-
  No cell of these rows narrows 'for every input' (looked for: loops, veiled, ifaces, maps, wideKeys, modest, calm, conditions, laid).
  DERIVED. THE GIVEN ROWS OF THIS SEAT. 6 by the template 'for every input the law returns true; each argument reads behind the call as it read before'; 0 by the template 'total and deterministic' (their statements: YthpdmeoljdmncaaTotals.lean).
  GIVEN WITH THE SEED: the statements are not yours to turn. If you find one false, say at which input.
  Laid BY PROGRAM, IN A SANDBOX (cutbox-rows.mjs): the forced cells as the released guide's own fill.sh prints them over the translation bf1179cba9529364… (all of the seat's roots in one cut). By AI agents, Wed Nov 11 2026. No macro, syntax, notation, axiom, sorry.
-/
import Derived.Test.YthpdmeoljdmncaaChecked
import GoSem.Claim
import GoSem.ClaimJoined
import GoSem.ClaimMapViews
import Derived.JoinedTies
import Derived.KernelRfl
namespace Go.Proofs.Ythpdmeoljdmncaa
/- THE CELL 'sum', in the pinned program and in every row, IS THE sha256 OF THE DUMP (.gsa) THAT YthpdmeoljdmncaaProg.lean LOADS. Nothing in Lean hashes anything: it is a label: what it is worth is what the hold of that sum in a sandbox is worth. -/
noncomputable def Try.pinned : Pinned := { name := "ythpdmeoljdmncaa", sum := "bf1179cba9529364e3821cfbb1c3acd7ddb5d44408782bc1712b3331f96af914", checked := Try.checked }
namespace Rows
def none {H : Type} : Left H := { results := [], args := [] }

/-- 'apiarylaw08.TrellisExact': WHATEVER THE INPUT: true; the input reads as it did. -/
def trellisExactSpec : ChangeSpec := { name := "trellisExact", fn := fun _ => fun
  | [d1, d2, d3] => { results := [.lit (.bool true)], args := [d1, d2, d3] }
  | _ => none }
def trellisExactRow : OpenClaim := { program := "ythpdmeoljdmncaa", sum := "bf1179cba9529364e3821cfbb1c3acd7ddb5d44408782bc1712b3331f96af914", func := "apiary/apiarylaw08.TrellisExact", spec := "trellisExact", inPlace := ["internal/abi.NoEscape", "internal/bytealg.MakeNoZero"], unfollowed := true, recurses := true, apart := false }
def TrellisExactSaid : Prop := trellisExactRow.holds Try.pinned (OpenSpec.ofChange trellisExactSpec)

/-- ITS FALSE NEIGHBOUR: 'it returns false'. Refute it at one input. -/
def trellisExactWrong : ChangeSpec := { name := "trellisExact", fn := fun _ => fun
  | [d1, d2, d3] => { results := [.lit (.bool false)], args := [d1, d2, d3] }
  | _ => none }
def TrellisExactWrongFalsely : Prop := trellisExactRow.holds Try.pinned (OpenSpec.ofChange trellisExactWrong)

/-- 'apiarylaw08.TrellisOrders': WHATEVER THE INPUT: true; the input reads as it did. -/
def trellisOrdersSpec : ChangeSpec := { name := "trellisOrders", fn := fun _ => fun
  | [d] => { results := [.lit (.bool true)], args := [d] }
  | _ => none }
def trellisOrdersRow : OpenClaim := { program := "ythpdmeoljdmncaa", sum := "bf1179cba9529364e3821cfbb1c3acd7ddb5d44408782bc1712b3331f96af914", func := "apiary/apiarylaw08.TrellisOrders", spec := "trellisOrders", inPlace := ["internal/abi.NoEscape", "internal/bytealg.MakeNoZero"], unfollowed := true, recurses := true, apart := false }
def TrellisOrdersSaid : Prop := trellisOrdersRow.holds Try.pinned (OpenSpec.ofChange trellisOrdersSpec)

/-- ITS FALSE NEIGHBOUR: 'it returns false'. Refute it at one input. -/
def trellisOrdersWrong : ChangeSpec := { name := "trellisOrders", fn := fun _ => fun
  | [d] => { results := [.lit (.bool false)], args := [d] }
  | _ => none }
def TrellisOrdersWrongFalsely : Prop := trellisOrdersRow.holds Try.pinned (OpenSpec.ofChange trellisOrdersWrong)

/-- 'apiarylaw08.TrellisDirty': WHATEVER THE INPUT: true; the input reads as it did. -/
def trellisDirtySpec : ChangeSpec := { name := "trellisDirty", fn := fun _ => fun
  | [d1, d2] => { results := [.lit (.bool true)], args := [d1, d2] }
  | _ => none }
def trellisDirtyRow : OpenClaim := { program := "ythpdmeoljdmncaa", sum := "bf1179cba9529364e3821cfbb1c3acd7ddb5d44408782bc1712b3331f96af914", func := "apiary/apiarylaw08.TrellisDirty", spec := "trellisDirty", inPlace := ["internal/abi.NoEscape", "internal/bytealg.MakeNoZero"], unfollowed := true, recurses := true, apart := false }
def TrellisDirtySaid : Prop := trellisDirtyRow.holds Try.pinned (OpenSpec.ofChange trellisDirtySpec)

/-- ITS FALSE NEIGHBOUR: 'it returns false'. Refute it at one input. -/
def trellisDirtyWrong : ChangeSpec := { name := "trellisDirty", fn := fun _ => fun
  | [d1, d2] => { results := [.lit (.bool false)], args := [d1, d2] }
  | _ => none }
def TrellisDirtyWrongFalsely : Prop := trellisDirtyRow.holds Try.pinned (OpenSpec.ofChange trellisDirtyWrong)

/-- 'apiarylaw08.TrellisRings': WHATEVER THE INPUT: true; the input reads as it did. -/
def trellisRingsSpec : ChangeSpec := { name := "trellisRings", fn := fun _ => fun
  | [d1, d2] => { results := [.lit (.bool true)], args := [d1, d2] }
  | _ => none }
def trellisRingsRow : OpenClaim := { program := "ythpdmeoljdmncaa", sum := "bf1179cba9529364e3821cfbb1c3acd7ddb5d44408782bc1712b3331f96af914", func := "apiary/apiarylaw08.TrellisRings", spec := "trellisRings", inPlace := ["internal/abi.NoEscape", "internal/bytealg.MakeNoZero"], unfollowed := true, recurses := true, apart := false }
def TrellisRingsSaid : Prop := trellisRingsRow.holds Try.pinned (OpenSpec.ofChange trellisRingsSpec)

/-- ITS FALSE NEIGHBOUR: 'it returns false'. Refute it at one input. -/
def trellisRingsWrong : ChangeSpec := { name := "trellisRings", fn := fun _ => fun
  | [d1, d2] => { results := [.lit (.bool false)], args := [d1, d2] }
  | _ => none }
def TrellisRingsWrongFalsely : Prop := trellisRingsRow.holds Try.pinned (OpenSpec.ofChange trellisRingsWrong)

/-- 'apiarylaw08.TrellisErrors': WHATEVER THE INPUT: true; the input reads as it did. -/
def trellisErrorsSpec : ChangeSpec := { name := "trellisErrors", fn := fun _ => fun
  | [d1, d2] => { results := [.lit (.bool true)], args := [d1, d2] }
  | _ => none }
def trellisErrorsRow : OpenClaim := { program := "ythpdmeoljdmncaa", sum := "bf1179cba9529364e3821cfbb1c3acd7ddb5d44408782bc1712b3331f96af914", func := "apiary/apiarylaw08.TrellisErrors", spec := "trellisErrors", inPlace := ["internal/abi.NoEscape", "internal/bytealg.MakeNoZero"], unfollowed := true, recurses := true, apart := false }
def TrellisErrorsSaid : Prop := trellisErrorsRow.holds Try.pinned (OpenSpec.ofChange trellisErrorsSpec)

/-- ITS FALSE NEIGHBOUR: 'it returns false'. Refute it at one input. -/
def trellisErrorsWrong : ChangeSpec := { name := "trellisErrors", fn := fun _ => fun
  | [d1, d2] => { results := [.lit (.bool false)], args := [d1, d2] }
  | _ => none }
def TrellisErrorsWrongFalsely : Prop := trellisErrorsRow.holds Try.pinned (OpenSpec.ofChange trellisErrorsWrong)

/-- 'apiarylaw08.TrellisGrows': WHATEVER THE INPUT: true; the input reads as it did. -/
def trellisGrowsSpec : ChangeSpec := { name := "trellisGrows", fn := fun _ => fun
  | [d1, d2, d3] => { results := [.lit (.bool true)], args := [d1, d2, d3] }
  | _ => none }
def trellisGrowsRow : OpenClaim := { program := "ythpdmeoljdmncaa", sum := "bf1179cba9529364e3821cfbb1c3acd7ddb5d44408782bc1712b3331f96af914", func := "apiary/apiarylaw08.TrellisGrows", spec := "trellisGrows", inPlace := ["internal/abi.NoEscape", "internal/bytealg.MakeNoZero"], unfollowed := true, recurses := true, apart := false }
def TrellisGrowsSaid : Prop := trellisGrowsRow.holds Try.pinned (OpenSpec.ofChange trellisGrowsSpec)

/-- ITS FALSE NEIGHBOUR: 'it returns false'. Refute it at one input. -/
def trellisGrowsWrong : ChangeSpec := { name := "trellisGrows", fn := fun _ => fun
  | [d1, d2, d3] => { results := [.lit (.bool false)], args := [d1, d2, d3] }
  | _ => none }
def TrellisGrowsWrongFalsely : Prop := trellisGrowsRow.holds Try.pinned (OpenSpec.ofChange trellisGrowsWrong)

/- THE SECOND FORM. 'bulk': how many values and letters a reading holds, each counted each time it is reached (what is shared counts as often as it is met; a slice's spare places count too). A statement '..UptoSaid' is the law's where the arguments, and the package variables that the reading takes, are together of bulk at most 1048576: NARROWER than '..Said'. Prove '..Said' where nothing that the law and all that it calls make is longer than what came in: it says more and counts as full. Else prove '..UptoSaid'. A law counts once. -/
mutual
def uptoBulk {H : Type} : DataW H → Nat
  | .lit (.string bytes) => bytes.length + 1
  | .lit _ => 1
  | .nil => 1
  | .ptr d => uptoBulk d + 1
  | .slice elems spare => uptoBulkAll elems + uptoBulkAll spare + 1
  | .agg parts => uptoBulkAll parts + 1
  | .iface _ d => uptoBulk d + 1
  | .map entries => uptoBulkEntries entries + 1
  | .held _ => 1
def uptoBulkAll {H : Type} : List (DataW H) → Nat
  | [] => 0
  | d :: r => uptoBulk d + uptoBulkAll r
def uptoBulkEntries {H : Type} : List (Lit × DataW H) → Nat
  | [] => 0
  | x :: r => uptoBulkEntry x + uptoBulkEntries r
def uptoBulkEntry {H : Type} : Lit × DataW H → Nat
  | (.string bytes, d) => bytes.length + uptoBulk d + 1
  | (_, d) => uptoBulk d + 1
 end
def uptoSmall : (H : Type) → List (DataW H) → Bool := fun _ ds => decide (uptoBulkAll ds ≤ 1048576)
def OpenSpec.upto (s : _root_.Go.ChangeSpec) : _root_.Go.OpenSpec := { _root_.Go.OpenSpec.ofChange s with cond := some uptoSmall }

/-- 'apiarylaw08.TrellisExact', WHERE WHAT IT READS IS OF BULK AT MOST 1048576: true; the input reads as it did. -/
def trellisExactUptoRow : OpenClaim := { program := "ythpdmeoljdmncaa", sum := "bf1179cba9529364e3821cfbb1c3acd7ddb5d44408782bc1712b3331f96af914", func := "apiary/apiarylaw08.TrellisExact", spec := "trellisExact", inPlace := ["internal/abi.NoEscape", "internal/bytealg.MakeNoZero"], unfollowed := true, recurses := true, apart := false, narrowed := true }
def TrellisExactUptoSaid : Prop := trellisExactUptoRow.holds Try.pinned (OpenSpec.upto trellisExactSpec)

/-- 'apiarylaw08.TrellisOrders', WHERE WHAT IT READS IS OF BULK AT MOST 1048576: true; the input reads as it did. -/
def trellisOrdersUptoRow : OpenClaim := { program := "ythpdmeoljdmncaa", sum := "bf1179cba9529364e3821cfbb1c3acd7ddb5d44408782bc1712b3331f96af914", func := "apiary/apiarylaw08.TrellisOrders", spec := "trellisOrders", inPlace := ["internal/abi.NoEscape", "internal/bytealg.MakeNoZero"], unfollowed := true, recurses := true, apart := false, narrowed := true }
def TrellisOrdersUptoSaid : Prop := trellisOrdersUptoRow.holds Try.pinned (OpenSpec.upto trellisOrdersSpec)

/-- 'apiarylaw08.TrellisDirty', WHERE WHAT IT READS IS OF BULK AT MOST 1048576: true; the input reads as it did. -/
def trellisDirtyUptoRow : OpenClaim := { program := "ythpdmeoljdmncaa", sum := "bf1179cba9529364e3821cfbb1c3acd7ddb5d44408782bc1712b3331f96af914", func := "apiary/apiarylaw08.TrellisDirty", spec := "trellisDirty", inPlace := ["internal/abi.NoEscape", "internal/bytealg.MakeNoZero"], unfollowed := true, recurses := true, apart := false, narrowed := true }
def TrellisDirtyUptoSaid : Prop := trellisDirtyUptoRow.holds Try.pinned (OpenSpec.upto trellisDirtySpec)

/-- 'apiarylaw08.TrellisRings', WHERE WHAT IT READS IS OF BULK AT MOST 1048576: true; the input reads as it did. -/
def trellisRingsUptoRow : OpenClaim := { program := "ythpdmeoljdmncaa", sum := "bf1179cba9529364e3821cfbb1c3acd7ddb5d44408782bc1712b3331f96af914", func := "apiary/apiarylaw08.TrellisRings", spec := "trellisRings", inPlace := ["internal/abi.NoEscape", "internal/bytealg.MakeNoZero"], unfollowed := true, recurses := true, apart := false, narrowed := true }
def TrellisRingsUptoSaid : Prop := trellisRingsUptoRow.holds Try.pinned (OpenSpec.upto trellisRingsSpec)

/-- 'apiarylaw08.TrellisErrors', WHERE WHAT IT READS IS OF BULK AT MOST 1048576: true; the input reads as it did. -/
def trellisErrorsUptoRow : OpenClaim := { program := "ythpdmeoljdmncaa", sum := "bf1179cba9529364e3821cfbb1c3acd7ddb5d44408782bc1712b3331f96af914", func := "apiary/apiarylaw08.TrellisErrors", spec := "trellisErrors", inPlace := ["internal/abi.NoEscape", "internal/bytealg.MakeNoZero"], unfollowed := true, recurses := true, apart := false, narrowed := true }
def TrellisErrorsUptoSaid : Prop := trellisErrorsUptoRow.holds Try.pinned (OpenSpec.upto trellisErrorsSpec)

/-- 'apiarylaw08.TrellisGrows', WHERE WHAT IT READS IS OF BULK AT MOST 1048576: true; the input reads as it did. -/
def trellisGrowsUptoRow : OpenClaim := { program := "ythpdmeoljdmncaa", sum := "bf1179cba9529364e3821cfbb1c3acd7ddb5d44408782bc1712b3331f96af914", func := "apiary/apiarylaw08.TrellisGrows", spec := "trellisGrows", inPlace := ["internal/abi.NoEscape", "internal/bytealg.MakeNoZero"], unfollowed := true, recurses := true, apart := false, narrowed := true }
def TrellisGrowsUptoSaid : Prop := trellisGrowsUptoRow.holds Try.pinned (OpenSpec.upto trellisGrowsSpec)

end Rows
end Go.Proofs.Ythpdmeoljdmncaa
