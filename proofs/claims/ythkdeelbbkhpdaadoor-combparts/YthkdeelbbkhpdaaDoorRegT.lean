/- Small laws for a walk through a region that draws its order, operation by operation. Nothing of the program stands here. -/
import Derived.Deep.RegionHeld3
import Derived.WalkKit
namespace Go.Proofs.YthkdeelbbkhpdaaDoor
open Go.RowKit
section
variable {P : Program} {ops : Array Oper} {S : World → Prop}
theorem yi_move {o : Oper} {a : Act} {x : Operand} {v : Value} (hw : Region.wanted o (yielded ops a.tmps) = true) (ho : o.op = .move x) (hx : a.eval x = v) : YieldsIf P ops S o v a :=
  .inl ⟨hw, fun w _ => by unfold execOp; simp [ho, hx]⟩
theorem yi_assign {o : Oper} {a : Act} {x : Operand} {v : Value} (hw : Region.wanted o (yielded ops a.tmps) = true) (ho : o.op = .assign x) (hx : a.eval x = v) : YieldsIf P ops S o v a :=
  .inl ⟨hw, fun w _ => by unfold execOp; simp [ho, hx]⟩
end
end Go.Proofs.YthkdeelbbkhpdaaDoor
