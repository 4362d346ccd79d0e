/- The law's calls, in memory. -/
import Derived.Test.YtpgagddofifikaaHaw
namespace Go.Proofs.Ytpgagddofifikaa
open Go.RowKit Go.Maps
set_option linter.unusedVariables false
set_option linter.unusedSimpArgs false

/-- a call of the law -/
abbrev Ac11 := Int × (Option Addr × Nat × List K.Me) × Int
def lyA : Lay Ac11 := ⟨3, fun x => [.int .i64 x.1, .slice x.2.1.1 x.2.1.2.2.length x.2.1.2.1, .int .i64 x.2.2], fun _ => rfl, fun x u hu => by simp at hu; rcases hu with rfl | rfl | rfl <;> rfl, by decide⟩
def ac11Ok (W : World) (x : Ac11) : Prop := RS lyM W x.2.1.1 x.2.1.2.2 ∧ x.2.1.2.2.length ≤ maxLen ∧ -9223372036854775808 ≤ x.2.2 ∧ x.2.2 ≤ 9223372036854775807
theorem undAc : ∃ fs, Try.prog.underlying 30 = some (.struct fs) := ⟨_, Try.underlying30⟩
theorem infoAc : (Try.prog.info? 30).map (·.size) = some 3 := by kernel_rfl
end Go.Proofs.Ytpgagddofifikaa
