/- What the reference's Mani answers. -/
import Derived.Test.YtaceemaedpkigaaDoorY1
namespace Go.Proofs.YtaceemaedpkigaaDoor
open Go.RowKit
set_option linter.unusedVariables false

end Go.Proofs.YtaceemaedpkigaaDoor
