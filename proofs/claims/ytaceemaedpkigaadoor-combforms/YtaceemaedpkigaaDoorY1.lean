/- What the reference's Split answers. -/
import Derived.Test.YtaceemaedpkigaaDoorC4
import Derived.Test.YtaceemaedpkigaaDoorX3
namespace Go.Proofs.YtaceemaedpkigaaDoor
open Go.RowKit
set_option linter.unusedVariables false

theorem bs_beq0 (q : List UInt8) : ((M.bs q).toList == []) = (q == []) := by rw [Lib.toList_data, M.bs_toList]
end Go.Proofs.YtaceemaedpkigaaDoor
