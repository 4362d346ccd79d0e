/- awake answers true. -/
import Derived.Test.YtgnajmiccbcacaaDoorW6
namespace Go.Proofs.YtgnajmiccbcacaaDoor
open Go.RowKit
set_option linter.unusedVariables false

end Go.Proofs.YtgnajmiccbcacaaDoor
