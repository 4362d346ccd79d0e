/- recipe.Same: whether two builds are the same. -/
import Derived.Test.YthpdmeoljdmncaaL3
namespace Go.Proofs.Ythpdmeoljdmncaa
open Go.RowKit
set_option linter.unusedVariables false

theorem bs_eqB (a b : List UInt8) : ((M.bs a).toList == (M.bs b).toList) = decide (a = b) := by
  rw [Lib.toList_data, Lib.toList_data, M.bs_toList, M.bs_toList, Bool.eq_iff_iff]; simp
theorem ac_eq (n m : List UInt8) (i j : List (List UInt8)) (c d : List UInt8) : decide (((n, i, c) : RC.Ac) = (m, j, d)) = (decide (n = m) && decide (c = d) && decide (i = j)) := by
  rw [Bool.eq_iff_iff]; simp only [Bool.and_eq_true, decide_eq_true_eq, Prod.mk.injEq]
  exact ⟨fun ⟨a, b, c⟩ => ⟨⟨a, c⟩, b⟩, fun ⟨⟨a, c⟩, b⟩ => ⟨a, b, c⟩⟩
theorem gr_eq (s t : List (List UInt8)) (a b : List RC.Ac) : decide (((s, a) : RC.Gr) = (t, b)) = (decide (s = t) && decide (a = b)) := by
  rw [Bool.eq_iff_iff]; simp only [Bool.and_eq_true, decide_eq_true_eq, Prod.mk.injEq]

end Go.Proofs.Ythpdmeoljdmncaa
