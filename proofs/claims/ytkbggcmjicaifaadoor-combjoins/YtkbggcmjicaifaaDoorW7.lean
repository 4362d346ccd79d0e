/- awake answers true. -/
import Derived.Test.YtkbggcmjicaifaaDoorW6
namespace Go.Proofs.YtkbggcmjicaifaaDoor
open Go.RowKit
set_option linter.unusedVariables false

end Go.Proofs.YtkbggcmjicaifaaDoor
