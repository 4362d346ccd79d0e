/- awake answers true. -/
import Derived.Test.YtgjpcddjfmdobaaDoorW6
namespace Go.Proofs.YtgjpcddjfmdobaaDoor
open Go.RowKit
set_option linter.unusedVariables false

end Go.Proofs.YtgjpcddjfmdobaaDoor
