/- What the reference's turn answers. -/
import Derived.Test.YtahdmhenkjbimaaDoorGS
import Derived.BigQuiet
namespace Go.Proofs.YtahdmhenkjbimaaDoor
open Go.RowKit
set_option linter.unusedVariables false
attribute [local go_sem ↓] zero47

theorem rrot_val (n k : Nat) (x : UInt32) (h : n + k = 32) : bits .or .u32 (vi x / 2 ^ n) (vi x * 2 ^ k % 4294967296) = vi (S.rotr n x) := by
  have e1 : (2 : Int) ^ k = ((2 ^ k : Nat) : Int) := by simp
  have e2 : (2 : Int) ^ n = ((2 ^ n : Nat) : Int) := by simp
  obtain rfl : k = 32 - n := by omega
  rw [← IntKind.wrap_u32', e1, e2, u_mul, u_shr, u_or]
  unfold S.rotr S.shr
  rw [UInt32.or_comm]
def kArr : Array Value := (S.kList.map vw).toArray
theorem kArr_size : kArr.size = 64 := by decide +kernel
theorem kArr_one : kArr.all (·.oneCell') = true := all_oneCell_toArray (fun v hv => by obtain ⟨x, _, rfl⟩ := List.mem_map.1 hv; rfl)
end Go.Proofs.YtahdmhenkjbimaaDoor
