/- awake answers true. -/
import Derived.Test.YtodcafmhaleemaaDoorW6
namespace Go.Proofs.YtodcafmhaleemaaDoor
open Go.RowKit
set_option linter.unusedVariables false

end Go.Proofs.YtodcafmhaleemaaDoor
