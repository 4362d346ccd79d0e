/- awake answers true. -/
import Derived.Test.YtejdpjnehjggoaaDoorW6
namespace Go.Proofs.YtejdpjnehjggoaaDoor
open Go.RowKit
set_option linter.unusedVariables false

end Go.Proofs.YtejdpjnehjggoaaDoor
