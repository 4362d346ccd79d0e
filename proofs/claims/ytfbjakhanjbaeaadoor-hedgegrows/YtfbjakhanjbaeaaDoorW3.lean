/- What sap.ReadText answers, for every text and most. -/
import Derived.Test.YtfbjakhanjbaeaaDoorW2
namespace Go.Proofs.YtfbjakhanjbaeaaDoor
open Go.RowKit
set_option linter.unusedVariables false

def rtV : Option (List UInt8 × List UInt8) → Value
  | none => .tuple #[.string ⟨#[]⟩, .string ⟨#[]⟩, .bool false]
  | some (t, r) => .tuple #[.string (M.bs t), .string (M.bs r), .bool true]

theorem extract_bs (r : List UInt8) (a b : Nat) : (M.bs r).extract a b = M.bs ((r.drop a).take (b - a)) := by
  rw [Lib.extract_eq, M.bs_toList]; rfl

end Go.Proofs.YtfbjakhanjbaeaaDoor
