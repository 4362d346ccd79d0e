/- What sap.Num answers, for every number of 64 bits: its bytes. -/
import Derived.Test.YthpdmeoljdmncaaW1
import Derived.Test.YthpdmeoljdmncaaShelf
import Derived.Lib.BitFns
import Derived.Laws.IdiomStrings
namespace Go.Proofs.Ythpdmeoljdmncaa
open Go.RowKit

theorem small_len (x : Nat) (h0 : x ≠ 0) (h : x < 256) : 1 ≤ Lib.bitLen x ∧ Lib.bitLen x ≤ 8 := by
  have h' : ∀ n : Fin 256, n.val ≠ 0 → 1 ≤ Lib.bitLen n.val ∧ Lib.bitLen n.val ≤ 8 := by decide +kernel
  exact h' ⟨x, h⟩ h0
theorem bitLen_cnt (m : Nat) (h : m < 18446744073709551616) : (Lib.bitLen m + 7) / 8 = M.cnt m := by
  unfold M.cnt
  repeat' split
  · subst_vars; decide +kernel
  · have := small_len m (by omega) (by omega); omega
  · have := small_len (m / 256) (by omega) (by omega); rw [Lib.bitLen_shift8 m (by omega) h]; omega
  · have := small_len (m / 65536) (by omega) (by omega); rw [Lib.bitLen_shift16 m (by omega) h]; omega
  · have := small_len (m / 16777216) (by omega) (by omega); rw [Lib.bitLen_shift24 m (by omega) h]; omega
  · have := small_len (m / 4294967296) (by omega) (by omega); rw [Lib.bitLen_shift32 m (by omega) h]; omega
  · have := small_len (m / 1099511627776) (by omega) (by omega); rw [Lib.bitLen_shift40 m (by omega) h]; omega
  · have := small_len (m / 281474976710656) (by omega) (by omega); rw [Lib.bitLen_shift48 m (by omega) h]; omega
  · have := small_len (m / 72057594037927936) (by omega) (by omega); rw [Lib.bitLen_shift56 m (by omega) h]; omega

theorem len64 (m : Nat) (w : World) (h : m < 18446744073709551616) :
    Calls Try.prog 73 #[.int .u64 m] w fun e w' => ∃ L : Nat, e = .returned (.int .i64 L) ∧ w' = w ∧ L ≤ 64 ∧ (L + 7) / 8 = M.cnt m := by
  refine (Try.bits_Len64 m w (by omega) (by omega)).mono ?_
  rintro e w' ⟨rfl, rfl⟩
  have h8 := M.cnt_le m
  have hb := bitLen_cnt m h
  have e1 : ((m : Int).toNat) = m := by omega
  rw [e1]
  exact ⟨_, rfl, rfl, by omega, hb⟩

def sh (m q : Nat) : Nat := m / 256 ^ q
theorem sh_succ (m q : Nat) : sh m (q + 1) = sh m q / 256 := by unfold sh; rw [Nat.pow_succ, Nat.div_div_eq_div_mul]
theorem sh_zero (m : Nat) : sh m 0 = m := by simp [sh]
theorem sh_le (m q : Nat) : sh m q ≤ m := Nat.div_le_self _ _

theorem mag_nat (m : Nat) : M.mag (m : Int) = m := by unfold M.mag; rw [if_neg (by omega)]; omega

theorem bytesK_get (k m p : Nat) (hp : p < k) : (M.bytesK k m)[p]? = some (UInt8.ofNat (sh m (k - 1 - p) % 256)) := by
  induction k generalizing m p with
  | zero => omega
  | succ k ih =>
    simp only [M.bytesK]
    by_cases h : p < k
    · rw [List.getElem?_append_left (by rw [M.bytesK_length]; exact h), ih _ _ h]
      have e : sh (m / 256) (k - 1 - p) = sh m (k + 1 - 1 - p) := by
        rw [show k + 1 - 1 - p = (k - 1 - p) + 1 by omega]
        unfold sh
        rw [Nat.div_div_eq_div_mul, Nat.pow_succ, Nat.mul_comm]
      rw [e]
    · obtain rfl : p = k := by omega
      rw [List.getElem?_append_right (by rw [M.bytesK_length]; exact Nat.le_refl _), M.bytesK_length]
      simp [sh]

theorem cellsOf (n : Int) (m f k : Nat) (hmag : M.mag n = m) (hmk : M.mark n = f) (hf : f ≤ 128) (hk : M.cnt m = k) (C : Array Value) (hC0 : C[0]? = some (.int .u8 ((f + k : Nat) : Int)))
    (hCp : ∀ p, 0 < p → p ≤ k → C[p]? = some (.int .u8 ((sh m (k - p) % 256 : Nat) : Int))) :
    ∀ j (hj : j < (M.numB n).length), C[j]? = some (.int .u8 ((M.numB n)[j].toNat : Int)) := by
  intro j hj
  have h8 := M.cnt_le m
  have hget : (M.numB n)[j]? = some (M.numB n)[j] := List.getElem?_eq_getElem hj
  rw [M.numB_length, hmag, hk] at hj
  generalize (M.numB n)[j] = x at hget
  unfold M.numB at hget
  rw [hmag, hmk, hk] at hget
  cases j with
  | zero =>
    simp only [List.getElem?_cons_zero, Option.some.injEq] at hget
    rw [hC0, ← hget]
    have e : (UInt8.ofNat (f + k)).toNat = f + k := by simp; omega
    rw [e]
  | succ j =>
    rw [List.getElem?_cons_succ, bytesK_get _ _ _ (by omega)] at hget
    simp only [Option.some.injEq] at hget
    rw [hCp (j + 1) (by omega) (by omega), ← hget]
    have e : (UInt8.ofNat (sh m (k - 1 - j) % 256)).toNat = sh m (k - 1 - j) % 256 := by simp
    rw [e, show k - (j + 1) = k - 1 - j by omega]

end Go.Proofs.Ythpdmeoljdmncaa
