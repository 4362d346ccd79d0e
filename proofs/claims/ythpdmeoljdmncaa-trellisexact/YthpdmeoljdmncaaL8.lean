/- What recipe.readCode answers. -/
import Derived.Test.YthpdmeoljdmncaaL7
namespace Go.Proofs.Ythpdmeoljdmncaa
open Go.RowKit
set_option linter.unusedVariables false

/-- what a reader of a text answers -/
def tbV : Option (List UInt8) → Value
  | none => .tuple #[.string ⟨#[]⟩, .bool false]
  | some c => .tuple #[.string (M.bs c), .bool true]
theorem readH_two (a b : UInt8) (r : List UInt8) (h1 : 0 ≤ RC.dig a) (h2 : 0 ≤ RC.dig b) : RC.readH (a :: b :: r) = (RC.readH r).map (fun c => UInt8.ofNat ((RC.dig a).toNat * 16 + (RC.dig b).toNat) :: c) := by
  rw [RC.readH]
  have e1 : decide (RC.dig a < 0) = false := by simp; omega
  have e2 : decide (RC.dig b < 0) = false := by simp; omega
  rw [e1, e2]
  simp only [Bool.or_self, Bool.false_eq_true, if_false]
  cases RC.readH r <;> rfl
theorem readH_no (a b : UInt8) (r : List UInt8) (h : RC.dig a < 0 ∨ RC.dig b < 0) : RC.readH (a :: b :: r) = none := by
  rw [RC.readH]
  rcases h with h | h <;> simp [h]
theorem dig_bd (c : UInt8) : -1 ≤ RC.dig c ∧ RC.dig c ≤ 15 := by
  have h : ∀ n : Fin 256, -1 ≤ RC.dig (UInt8.ofNat n.val) ∧ RC.dig (UInt8.ofNat n.val) ≤ 15 := by decide +kernel
  have := h ⟨c.toNat, c.toNat_lt⟩
  simpa using this
theorem or16 (x y : Int) (h1 : 0 ≤ x) (h2 : x ≤ 15) (h3 : 0 ≤ y) (h4 : y ≤ 15) : bits BinOp.or IntKind.i64 (x * 16) y % 256 = ((UInt8.ofNat (x.toNat * 16 + y.toNat)).toNat : Int) := by
  have h : ∀ a b : Fin 16, bits BinOp.or IntKind.i64 ((a.val : Int) * 16) (b.val : Int) % 256 = ((UInt8.ofNat (a.val * 16 + b.val)).toNat : Int) := by decide +kernel
  have := h ⟨x.toNat, by omega⟩ ⟨y.toNat, by omega⟩
  simp only [Int.toNat_of_nonneg h1, Int.toNat_of_nonneg h3] at this
  exact this
end Go.Proofs.Ythpdmeoljdmncaa
