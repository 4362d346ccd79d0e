/- awake answers true. -/
import Derived.Test.YtjbogekaficfjaaDoorW6
namespace Go.Proofs.YtjbogekaficfjaaDoor
open Go.RowKit
set_option linter.unusedVariables false

end Go.Proofs.YtjbogekaficfjaaDoor
