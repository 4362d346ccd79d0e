/- What sap.ReadNum answers, for every text: the number with which its bytes begin and what follows, or none. -/
import Derived.Test.YtfbjakhanjbaeaaDoorProg
import Derived.Test.YtfbjakhanjbaeaaDoorMath
import Derived.WalkKit
import Derived.WalkSpells
import Derived.WalkLawsBesides
import Derived.BigQuiet
import Derived.Deep.QuietTactic
import Derived.Lib.Strings
namespace Go.Proofs.YtfbjakhanjbaeaaDoor
open Go.RowKit

theorem andNot128 (c : UInt8) : wrap64 (bits BinOp.andNot IntKind.u8 (c.toNat : Int) 128) = ((c.toNat % 128 : Nat) : Int) := by
  have h : ∀ n : Fin 256, wrap64 (bits BinOp.andNot IntKind.u8 (n.val : Int) 128) = ((n.val % 128 : Nat) : Int) := by decide +kernel
  exact h ⟨c.toNat, c.toNat_lt⟩
theorem and128 (c : UInt8) : (bits BinOp.and IntKind.u8 (c.toNat : Int) 128 != 0) = decide (128 ≤ c.toNat) := by
  have h : ∀ n : Fin 256, (bits BinOp.and IntKind.u8 (n.val : Int) 128 != 0) = decide (128 ≤ n.val) := by decide +kernel
  exact h ⟨c.toNat, c.toNat_lt⟩
theorem or8 (v : Nat) (c : UInt8) (hv : v < 72057594037927936) : bits BinOp.or IntKind.u64 (IntKind.u64.wrap ((v : Int) * 256)) (IntKind.u64.wrap (c.toNat : Int)) = ((v * 256 + c.toNat : Nat) : Int) := by
  have hc := c.toNat_lt
  have e1 : IntKind.u64.wrap ((v : Int) * 256) = ((v * 256 : Nat) : Int) := by
    simp only [IntKind.wrap, IntKind.bits, IntKind.signed]; simp; omega
  have e2 : IntKind.u64.wrap (c.toNat : Int) = ((c.toNat : Nat) : Int) := by
    simp only [IntKind.wrap, IntKind.bits, IntKind.signed]; simp; omega
  rw [e1, e2, u64_or_nat _ _ (by omega) (by omega), nat_join 8 _ _ (by omega) (by omega)]

theorem or8' (v : Nat) (c : UInt8) (hv : v < 72057594037927936) : bits BinOp.or IntKind.u64 ((v : Int) * 256) (IntKind.u64.wrap (c.toNat : Int)) = ((v * 256 + c.toNat : Nat) : Int) := by
  have h := or8 v c hv
  have e1 : IntKind.u64.wrap ((v : Int) * 256) = (v : Int) * 256 := by
    simp only [IntKind.wrap, IntKind.bits, IntKind.signed]; simp; omega
  rwa [e1] at h

theorem getB (s : ByteArray) (i : Nat) (h : i < s.size) : s.data.toList[i]? = some s[i] := by
  rw [List.getElem?_eq_getElem (by simpa using h)]; rfl
theorem step (s : ByteArray) (j : Nat) (h : j + 1 < s.size) : (s.data.toList.drop 1).take (j + 1) = (s.data.toList.drop 1).take j ++ [s[j + 1]] := by
  have hl : s.data.toList.length = s.size := (Lib.size_eq s).symm
  rw [List.take_add_one, List.getElem?_drop, Nat.add_comm 1 j, getB s (j + 1) h]; rfl

def rnV : Option (Int × List UInt8) → Value
  | none => .tuple #[.int .i64 0, .string ⟨#[]⟩, .bool false]
  | some (n, r) => .tuple #[.int .i64 n, .string (M.bs r), .bool true]

theorem drop1 (s : ByteArray) (k : Nat) : s.extract k s.size = M.bs (s.data.toList.drop k) := by
  rw [Lib.extract_eq]
  unfold M.bs
  rw [List.take_of_length_le]
  rw [List.length_drop, ← Lib.size_eq]
  omega

/-- readNum, said of the text's bytes -/
theorem readNum_cases (s : ByteArray) (h0 : 0 < s.size) :
    M.readNum s.data.toList = if 8 < s[0].toNat % 128 ∨ s.size - 1 < s[0].toNat % 128 then none
      else if 0 < s[0].toNat % 128 ∧ (s.data.toList.drop 1).headD 1 = 0 then none
      else if 9223372036854775808 ≤ M.val ((s.data.toList.drop 1).take (s[0].toNat % 128)) then none
      else some (if 128 ≤ s[0].toNat then -1 - (M.val ((s.data.toList.drop 1).take (s[0].toNat % 128)) : Int) else (M.val ((s.data.toList.drop 1).take (s[0].toNat % 128)) : Int), s.data.toList.drop (1 + s[0].toNat % 128)) := by
  have hg := getB s 0 h0
  have hl := Lib.size_eq s
  cases hd : s.data.toList with
  | nil => rw [hd] at hl; simp only [List.length_nil] at hl; omega
  | cons c r =>
    rw [hd] at hg hl
    simp only [List.getElem?_cons_zero, Option.some.injEq] at hg
    rw [← hg]
    simp only [List.length_cons] at hl
    have e : s.size - 1 = r.length := by omega
    simp only [M.readNum, List.drop_succ_cons, List.drop_zero, e]
    rw [Nat.add_comm 1, List.drop_succ_cons]
    rfl

/-- the number that the first k bytes behind the first one spell -/
def vOf (s : ByteArray) (k : Nat) : Nat := M.val ((s.data.toList.drop 1).take k)
theorem vOf_zero (s : ByteArray) : vOf s 0 = 0 := rfl
theorem vOf_succ (s : ByteArray) (j : Nat) (h : j + 1 < s.size) : vOf s (j + 1) = vOf s j * 256 + s[j + 1].toNat := by
  unfold vOf; rw [step s j h, M.val_snoc]
theorem vOf_lt (s : ByteArray) (j : Nat) (h : j ≤ 7) : vOf s j < 72057594037927936 := by
  have hv8 := M.val_lt ((s.data.toList.drop 1).take j)
  have hjl : ((s.data.toList.drop 1).take j).length ≤ j := List.length_take_le _ _
  have hp : 256 ^ ((s.data.toList.drop 1).take j).length ≤ 256 ^ 7 := Nat.pow_le_pow_right (by omega) (by omega)
  unfold vOf
  omega

end Go.Proofs.YtfbjakhanjbaeaaDoor
