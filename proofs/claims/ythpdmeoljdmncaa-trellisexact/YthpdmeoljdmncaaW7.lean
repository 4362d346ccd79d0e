/- awake answers true. -/
import Derived.Test.YthpdmeoljdmncaaW6
namespace Go.Proofs.Ythpdmeoljdmncaa
open Go.RowKit
set_option linter.unusedVariables false

end Go.Proofs.Ythpdmeoljdmncaa
