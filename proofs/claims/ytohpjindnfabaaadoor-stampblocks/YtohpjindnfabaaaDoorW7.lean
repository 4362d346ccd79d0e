/- awake answers true. -/
import Derived.Test.YtohpjindnfabaaaDoorW6
namespace Go.Proofs.YtohpjindnfabaaaDoor
open Go.RowKit
set_option linter.unusedVariables false

end Go.Proofs.YtohpjindnfabaaaDoor
