/- awake answers true. -/
import Derived.Test.YthkdeelbbkhpdaaDoorW6
namespace Go.Proofs.YthkdeelbbkhpdaaDoor
open Go.RowKit
set_option linter.unusedVariables false

end Go.Proofs.YthkdeelbbkhpdaaDoor
