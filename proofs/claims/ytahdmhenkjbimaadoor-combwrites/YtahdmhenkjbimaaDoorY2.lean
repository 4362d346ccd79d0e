/- What the reference's Mani answers. -/
import Derived.Test.YtahdmhenkjbimaaDoorY1
namespace Go.Proofs.YtahdmhenkjbimaaDoor
open Go.RowKit
set_option linter.unusedVariables false

end Go.Proofs.YtahdmhenkjbimaaDoor
