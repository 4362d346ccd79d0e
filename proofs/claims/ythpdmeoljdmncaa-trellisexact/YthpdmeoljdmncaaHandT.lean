/- Two closed facts on the program that every frame asks. -/
import Derived.Test.YthpdmeoljdmncaaArgs
import Derived.Test.YthpdmeoljdmncaaRows
import Derived.ProofKit
import Derived.ChangeOld
import Derived.Below
namespace Go.Proofs.Ythpdmeoljdmncaa
open Go.RowKit
theorem own : ownKnob Try.prog.godebug = none := by kernel_rfl
theorem laidOut : laidOutB Try.prog = true := by kernel_rfl
end Go.Proofs.Ythpdmeoljdmncaa
