/- What the reference's Good and Fits answer. -/
import Derived.Test.YtaceemaedpkigaaDoorC5
import Derived.Test.YtaceemaedpkigaaDoorX3
namespace Go.Proofs.YtaceemaedpkigaaDoor
open Go.RowKit
set_option linter.unusedVariables false
set_option linter.unusedSimpArgs false

theorem decide_and_true {p q : Prop} [Decidable p] [Decidable q] (h : p) : decide (p ∧ q) = decide q := by simp [h]
theorem decide_and_false {p q : Prop} [Decidable p] [Decidable q] (h : ¬ p) : decide (p ∧ q) = false := by simp [h]

end Go.Proofs.YtaceemaedpkigaaDoor
