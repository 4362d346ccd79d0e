/- What stamp.Hex answers: a digest's 64 digits. -/
import Derived.Test.YtfbjakhanjbaeaaDoorS12
namespace Go.Proofs.YtfbjakhanjbaeaaDoor
open Go.RowKit
set_option linter.unusedVariables false

def digits : List UInt8 := [48, 49, 50, 51, 52, 53, 54, 55, 56, 57, 97, 98, 99, 100, 101, 102]
def hexd (n : Nat) : UInt8 := digits.getD n 0
/-- digit j of a digest -/
def hexAt (d : List UInt8) (j : Nat) : UInt8 := if j % 2 = 0 then hexd ((S.by8 d (j / 2)).toNat / 16) else hexd ((S.by8 d (j / 2)).toNat % 16)
def hexB (d : List UInt8) : List UInt8 := (List.range 64).map (hexAt d)
theorem hexB_length (d) : (hexB d).length = 64 := by simp [hexB]
theorem hexB_at (d : List UInt8) (j : Nat) (h : j < 64) : (hexB d)[j]? = some (hexAt d j) := by simp [hexB, h]

def zero64b : Array Value := (List.replicate 64 (Value.int .u8 0)).toArray
theorem zero51 (W : World) : (zeroValue 93).run Tryd.prog W = .ok (.agg zero64b) W := by kernel_rfl
theorem zero64b_size : zero64b.size = 64 := by simp [zero64b]
attribute [local go_sem ↓] zero51
theorem index27 (BA : Array Value) (k : Nat) (v : Value) (hk : k < 32) (h : BA[k]? = some v) (W : World) : (Instr.index 24 (.agg BA) (.int .i64 k)).run Tryd.prog W = .ok v W := by
  simp [Instr.index, run_underlying und27, asIntOf, go_sem, hk, h, Tryd.sizeOf5]
def digS : ByteArray := ⟨#[48, 49, 50, 51, 52, 53, 54, 55, 56, 57, 97, 98, 99, 100, 101, 102]⟩
theorem digS_at (n : Nat) (h : n < 16) (k : IntKind) (W : World) : (Instr.index 9 (.string digS) (.int k n)).run Tryd.prog W = .ok (vb (hexd n)) W := by
  have hs : digS.size = 16 := rfl
  have e : digS[n]? = some (hexd n) := by
    have hh : ∀ m : Fin 16, digS[m.val]? = some (hexd m.val) := by decide +kernel
    exact hh ⟨n, h⟩
  simp [Instr.index, run_underlying Tryd.underlying9, asIntOf, go_sem, e]

end Go.Proofs.YtfbjakhanjbaeaaDoor
