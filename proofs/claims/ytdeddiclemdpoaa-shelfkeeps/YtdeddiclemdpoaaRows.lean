/-
  No cell of these rows narrows 'for every input' (looked for: loops, veiled, ifaces, maps, wideKeys, modest, calm, conditions, laid).
  DERIVED. THE GIVEN ROWS OF THIS SEAT. 5 by the template 'for every input the law returns true; each argument reads behind the call as it read before'; 0 by the template 'total and deterministic' (their statements: YtdeddiclemdpoaaTotals.lean).
  GIVEN WITH THE SEED: the statements are not yours to turn. If you find one false, say at which input.
  Laid BY PROGRAM, IN A SANDBOX (cutbox-rows.mjs): the forced cells as the released guide's own fill.sh prints them over the translation db2204853ad0fc2e… (all of the seat's roots in one cut). By AI agents, Wed Nov 11 2026. No macro, syntax, notation, axiom, sorry.
-/
import Derived.Test.YtdeddiclemdpoaaChecked
import GoSem.Claim
import GoSem.ClaimJoined
import GoSem.ClaimMapViews
import Derived.JoinedTies
import Derived.KernelRfl
namespace Go.Proofs.Ytdeddiclemdpoaa
/- THE CELL 'sum', in the pinned program and in every row, IS THE sha256 OF THE DUMP (.gsa) THAT YtdeddiclemdpoaaProg.lean LOADS. Nothing in Lean hashes anything: it is a label: what it is worth is what the hold of that sum in a sandbox is worth. -/
noncomputable def Try.pinned : Pinned := { name := "ytdeddiclemdpoaa", sum := "db2204853ad0fc2e02fdd39fb8a1142186ffb9bf2ed6dceafdb33ed7a7d3078f", checked := Try.checked }
namespace Rows
def none {H : Type} : Left H := { results := [], args := [] }

/-- 'apiarylaw04.ShelfExact': WHATEVER THE INPUT: true; the input reads as it did. -/
def shelfExactSpec : ChangeSpec := { name := "shelfExact", fn := fun _ => fun
  | [d1, d2] => { results := [.lit (.bool true)], args := [d1, d2] }
  | _ => none }
def shelfExactRow : OpenClaim := { program := "ytdeddiclemdpoaa", sum := "db2204853ad0fc2e02fdd39fb8a1142186ffb9bf2ed6dceafdb33ed7a7d3078f", func := "apiary/apiarylaw04.ShelfExact", spec := "shelfExact", apart := false }
def ShelfExactSaid : Prop := shelfExactRow.holds Try.pinned (OpenSpec.ofChange shelfExactSpec)

/-- ITS FALSE NEIGHBOUR: 'it returns false'. Refute it at one input. -/
def shelfExactWrong : ChangeSpec := { name := "shelfExact", fn := fun _ => fun
  | [d1, d2] => { results := [.lit (.bool false)], args := [d1, d2] }
  | _ => none }
def ShelfExactWrongFalsely : Prop := shelfExactRow.holds Try.pinned (OpenSpec.ofChange shelfExactWrong)

/-- 'apiarylaw04.ShelfKeeps': WHATEVER THE INPUT: true; the input reads as it did. -/
def shelfKeepsSpec : ChangeSpec := { name := "shelfKeeps", fn := fun _ => fun
  | [d1, d2, d3] => { results := [.lit (.bool true)], args := [d1, d2, d3] }
  | _ => none }
def shelfKeepsRow : OpenClaim := { program := "ytdeddiclemdpoaa", sum := "db2204853ad0fc2e02fdd39fb8a1142186ffb9bf2ed6dceafdb33ed7a7d3078f", func := "apiary/apiarylaw04.ShelfKeeps", spec := "shelfKeeps", apart := false }
def ShelfKeepsSaid : Prop := shelfKeepsRow.holds Try.pinned (OpenSpec.ofChange shelfKeepsSpec)

/-- ITS FALSE NEIGHBOUR: 'it returns false'. Refute it at one input. -/
def shelfKeepsWrong : ChangeSpec := { name := "shelfKeeps", fn := fun _ => fun
  | [d1, d2, d3] => { results := [.lit (.bool false)], args := [d1, d2, d3] }
  | _ => none }
def ShelfKeepsWrongFalsely : Prop := shelfKeepsRow.holds Try.pinned (OpenSpec.ofChange shelfKeepsWrong)

/-- 'apiarylaw04.ShelfArms': WHATEVER THE INPUT: true; the input reads as it did. -/
def shelfArmsSpec : ChangeSpec := { name := "shelfArms", fn := fun _ => fun
  | [d1, d2] => { results := [.lit (.bool true)], args := [d1, d2] }
  | _ => none }
def shelfArmsRow : OpenClaim := { program := "ytdeddiclemdpoaa", sum := "db2204853ad0fc2e02fdd39fb8a1142186ffb9bf2ed6dceafdb33ed7a7d3078f", func := "apiary/apiarylaw04.ShelfArms", spec := "shelfArms", apart := false }
def ShelfArmsSaid : Prop := shelfArmsRow.holds Try.pinned (OpenSpec.ofChange shelfArmsSpec)

/-- ITS FALSE NEIGHBOUR: 'it returns false'. Refute it at one input. -/
def shelfArmsWrong : ChangeSpec := { name := "shelfArms", fn := fun _ => fun
  | [d1, d2] => { results := [.lit (.bool false)], args := [d1, d2] }
  | _ => none }
def ShelfArmsWrongFalsely : Prop := shelfArmsRow.holds Try.pinned (OpenSpec.ofChange shelfArmsWrong)

/-- 'apiarylaw04.ShelfAgain': WHATEVER THE INPUT: true; the input reads as it did. -/
def shelfAgainSpec : ChangeSpec := { name := "shelfAgain", fn := fun _ => fun
  | [d1, d2, d3] => { results := [.lit (.bool true)], args := [d1, d2, d3] }
  | _ => none }
def shelfAgainRow : OpenClaim := { program := "ytdeddiclemdpoaa", sum := "db2204853ad0fc2e02fdd39fb8a1142186ffb9bf2ed6dceafdb33ed7a7d3078f", func := "apiary/apiarylaw04.ShelfAgain", spec := "shelfAgain", apart := false }
def ShelfAgainSaid : Prop := shelfAgainRow.holds Try.pinned (OpenSpec.ofChange shelfAgainSpec)

/-- ITS FALSE NEIGHBOUR: 'it returns false'. Refute it at one input. -/
def shelfAgainWrong : ChangeSpec := { name := "shelfAgain", fn := fun _ => fun
  | [d1, d2, d3] => { results := [.lit (.bool false)], args := [d1, d2, d3] }
  | _ => none }
def ShelfAgainWrongFalsely : Prop := shelfAgainRow.holds Try.pinned (OpenSpec.ofChange shelfAgainWrong)

/-- 'apiarylaw04.ShelfApart': WHATEVER THE INPUT: true; the input reads as it did. -/
def shelfApartSpec : ChangeSpec := { name := "shelfApart", fn := fun _ => fun
  | [d1, d2, d3, d4] => { results := [.lit (.bool true)], args := [d1, d2, d3, d4] }
  | _ => none }
def shelfApartRow : OpenClaim := { program := "ytdeddiclemdpoaa", sum := "db2204853ad0fc2e02fdd39fb8a1142186ffb9bf2ed6dceafdb33ed7a7d3078f", func := "apiary/apiarylaw04.ShelfApart", spec := "shelfApart", apart := false }
def ShelfApartSaid : Prop := shelfApartRow.holds Try.pinned (OpenSpec.ofChange shelfApartSpec)

/-- ITS FALSE NEIGHBOUR: 'it returns false'. Refute it at one input. -/
def shelfApartWrong : ChangeSpec := { name := "shelfApart", fn := fun _ => fun
  | [d1, d2, d3, d4] => { results := [.lit (.bool false)], args := [d1, d2, d3, d4] }
  | _ => none }
def ShelfApartWrongFalsely : Prop := shelfApartRow.holds Try.pinned (OpenSpec.ofChange shelfApartWrong)

/- THE SECOND FORM. 'bulk': how many values and letters a reading holds, each counted each time it is reached (what is shared counts as often as it is met; a slice's spare places count too). A statement '..UptoSaid' is the law's where the arguments, and the package variables that the reading takes, are together of bulk at most 1048576: NARROWER than '..Said'. Prove '..Said' where nothing that the law and all that it calls make is longer than what came in: it says more and counts as full. Else prove '..UptoSaid'. A law counts once. -/
mutual
def uptoBulk {H : Type} : DataW H → Nat
  | .lit (.string bytes) => bytes.length + 1
  | .lit _ => 1
  | .nil => 1
  | .ptr d => uptoBulk d + 1
  | .slice elems spare => uptoBulkAll elems + uptoBulkAll spare + 1
  | .agg parts => uptoBulkAll parts + 1
  | .iface _ d => uptoBulk d + 1
  | .map entries => uptoBulkEntries entries + 1
  | .held _ => 1
def uptoBulkAll {H : Type} : List (DataW H) → Nat
  | [] => 0
  | d :: r => uptoBulk d + uptoBulkAll r
def uptoBulkEntries {H : Type} : List (Lit × DataW H) → Nat
  | [] => 0
  | x :: r => uptoBulkEntry x + uptoBulkEntries r
def uptoBulkEntry {H : Type} : Lit × DataW H → Nat
  | (.string bytes, d) => bytes.length + uptoBulk d + 1
  | (_, d) => uptoBulk d + 1
 end
def uptoSmall : (H : Type) → List (DataW H) → Bool := fun _ ds => decide (uptoBulkAll ds ≤ 1048576)
def OpenSpec.upto (s : _root_.Go.ChangeSpec) : _root_.Go.OpenSpec := { _root_.Go.OpenSpec.ofChange s with cond := some uptoSmall }

/-- 'apiarylaw04.ShelfExact', WHERE WHAT IT READS IS OF BULK AT MOST 1048576: true; the input reads as it did. -/
def shelfExactUptoRow : OpenClaim := { program := "ytdeddiclemdpoaa", sum := "db2204853ad0fc2e02fdd39fb8a1142186ffb9bf2ed6dceafdb33ed7a7d3078f", func := "apiary/apiarylaw04.ShelfExact", spec := "shelfExact", apart := false, narrowed := true }
def ShelfExactUptoSaid : Prop := shelfExactUptoRow.holds Try.pinned (OpenSpec.upto shelfExactSpec)

/-- 'apiarylaw04.ShelfKeeps', WHERE WHAT IT READS IS OF BULK AT MOST 1048576: true; the input reads as it did. -/
def shelfKeepsUptoRow : OpenClaim := { program := "ytdeddiclemdpoaa", sum := "db2204853ad0fc2e02fdd39fb8a1142186ffb9bf2ed6dceafdb33ed7a7d3078f", func := "apiary/apiarylaw04.ShelfKeeps", spec := "shelfKeeps", apart := false, narrowed := true }
def ShelfKeepsUptoSaid : Prop := shelfKeepsUptoRow.holds Try.pinned (OpenSpec.upto shelfKeepsSpec)

/-- 'apiarylaw04.ShelfArms', WHERE WHAT IT READS IS OF BULK AT MOST 1048576: true; the input reads as it did. -/
def shelfArmsUptoRow : OpenClaim := { program := "ytdeddiclemdpoaa", sum := "db2204853ad0fc2e02fdd39fb8a1142186ffb9bf2ed6dceafdb33ed7a7d3078f", func := "apiary/apiarylaw04.ShelfArms", spec := "shelfArms", apart := false, narrowed := true }
def ShelfArmsUptoSaid : Prop := shelfArmsUptoRow.holds Try.pinned (OpenSpec.upto shelfArmsSpec)

/-- 'apiarylaw04.ShelfAgain', WHERE WHAT IT READS IS OF BULK AT MOST 1048576: true; the input reads as it did. -/
def shelfAgainUptoRow : OpenClaim := { program := "ytdeddiclemdpoaa", sum := "db2204853ad0fc2e02fdd39fb8a1142186ffb9bf2ed6dceafdb33ed7a7d3078f", func := "apiary/apiarylaw04.ShelfAgain", spec := "shelfAgain", apart := false, narrowed := true }
def ShelfAgainUptoSaid : Prop := shelfAgainUptoRow.holds Try.pinned (OpenSpec.upto shelfAgainSpec)

/-- 'apiarylaw04.ShelfApart', WHERE WHAT IT READS IS OF BULK AT MOST 1048576: true; the input reads as it did. -/
def shelfApartUptoRow : OpenClaim := { program := "ytdeddiclemdpoaa", sum := "db2204853ad0fc2e02fdd39fb8a1142186ffb9bf2ed6dceafdb33ed7a7d3078f", func := "apiary/apiarylaw04.ShelfApart", spec := "shelfApart", apart := false, narrowed := true }
def ShelfApartUptoSaid : Prop := shelfApartUptoRow.holds Try.pinned (OpenSpec.upto shelfApartSpec)

end Rows
end Go.Proofs.Ytdeddiclemdpoaa
