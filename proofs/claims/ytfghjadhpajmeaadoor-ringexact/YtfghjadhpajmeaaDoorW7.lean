/- awake answers true. -/
import Derived.Test.YtfghjadhpajmeaaDoorW6
namespace Go.Proofs.YtfghjadhpajmeaaDoor
open Go.RowKit
set_option linter.unusedVariables false

end Go.Proofs.YtfghjadhpajmeaaDoor
