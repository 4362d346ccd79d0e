/- What sap.Text, apiaryref01.Same and awake answer. -/
import Derived.Test.YtfbjakhanjbaeaaDoorW4
namespace Go.Proofs.YtfbjakhanjbaeaaDoor
open Go.RowKit
set_option linter.unusedVariables false

theorem bs_append (a b : List UInt8) : M.bs a ++ M.bs b = M.bs (a ++ b) := by
  apply ByteArray.ext
  simp [M.bs]

theorem Strs.shape {B : Nat} {w : World} {v : Value} {l : List (List UInt8)} (h : Strs B w v l) : ∃ a c, v = .slice a l.length c := by
  rcases h with ⟨rfl, a, c, rfl⟩ | ⟨b, off, cap, rfl, _, _⟩
  · exact ⟨a, c, rfl⟩
  · exact ⟨_, _, rfl⟩

end Go.Proofs.YtfbjakhanjbaeaaDoor
