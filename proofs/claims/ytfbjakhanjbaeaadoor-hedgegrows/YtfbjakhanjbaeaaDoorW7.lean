/- awake answers true. -/
import Derived.Test.YtfbjakhanjbaeaaDoorW6
namespace Go.Proofs.YtfbjakhanjbaeaaDoor
open Go.RowKit
set_option linter.unusedVariables false

end Go.Proofs.YtfbjakhanjbaeaaDoor
