/- What the reference's Mani answers. -/
import Derived.Test.YtejdpjnehjggoaaDoorY1
namespace Go.Proofs.YtejdpjnehjggoaaDoor
open Go.RowKit
set_option linter.unusedVariables false

end Go.Proofs.YtejdpjnehjggoaaDoor
