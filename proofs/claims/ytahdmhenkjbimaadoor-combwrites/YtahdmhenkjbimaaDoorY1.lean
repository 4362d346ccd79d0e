/- What the reference's Split answers. -/
import Derived.Test.YtahdmhenkjbimaaDoorC4
import Derived.Test.YtahdmhenkjbimaaDoorX3
namespace Go.Proofs.YtahdmhenkjbimaaDoor
open Go.RowKit
set_option linter.unusedVariables false

theorem bs_beq0 (q : List UInt8) : ((M.bs q).toList == []) = (q == []) := by rw [Lib.toList_data, M.bs_toList]
end Go.Proofs.YtahdmhenkjbimaaDoor
