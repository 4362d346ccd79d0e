/- awake answers true. -/
import Derived.Test.YtodcafmhaleemabDoorW6
namespace Go.Proofs.YtodcafmhaleemabDoor
open Go.RowKit
set_option linter.unusedVariables false

end Go.Proofs.YtodcafmhaleemabDoor
