/- What the reference's Same answers. -/
import Derived.Test.YtaceemaedpkigaaDoorC4
import Derived.Test.YtaceemaedpkigaaDoorX2
import Derived.Test.YtaceemaedpkigaaDoorGT
import Derived.Test.YtaceemaedpkigaaDoorRegT
namespace Go.Proofs.YtaceemaedpkigaaDoor
open Go.RowKit
set_option linter.unusedVariables false
set_option linter.unusedSimpArgs false

/-- whether two manifests are the same -/
def sameB (wh1 wh2 : List UInt8) (sz1 sz2 : Int) (P1 P2 : List (List UInt8)) : Bool := decide (wh1 = wh2 ∧ sz1 = sz2 ∧ P1 = P2)
theorem first_diff : ∀ (P1 P2 : List (List UInt8)), P1.length = P2.length → ∃ j, j ≤ P1.length ∧ (∀ i, i < j → P1[i]? = P2[i]?) ∧ (j < P1.length → P1[j]? ≠ P2[j]?)
  | [], [], _ => ⟨0, by simp, fun i h => by omega, fun h => by simp at h⟩
  | [], y :: b, h => by simp at h
  | x :: a, [], h => by simp at h
  | x :: a, y :: b, h => by
    by_cases hxy : x = y
    · obtain ⟨j, h1, h2, h3⟩ := first_diff a b (by simpa using h)
      refine ⟨j + 1, by simp; omega, fun i hi => ?_, fun hj => ?_⟩
      · cases i with
        | zero => simp [hxy]
        | succ i => simpa using h2 i (by omega)
      · have := h3 (by simpa using hj)
        simpa using this
    · exact ⟨0, by simp, fun i h => by omega, fun _ => by simpa using hxy⟩
end Go.Proofs.YtaceemaedpkigaaDoor
