/- What the reference's bytes and digest answer. -/
import Derived.Test.YtaceemaedpkigaaDoorX3
import Derived.Test.YtaceemaedpkigaaDoorC5
namespace Go.Proofs.YtaceemaedpkigaaDoor
open Go.RowKit
set_option linter.unusedVariables false
set_option linter.unusedSimpArgs false

attribute [local go_sem ↓] zero27
end Go.Proofs.YtaceemaedpkigaaDoor
