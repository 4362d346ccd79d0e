/- Blobs in chunks, on lists of bytes: what a text's chunks are, and that they are the text again. Nothing of the program stands here. -/
import Derived.Test.YtahdmhenkjbimaaDoorSMath
namespace Go.Proofs.YtahdmhenkjbimaaDoor.S

/-- how many chunks so many bytes have -/
def nch (n : Nat) : Nat := (n + 63) / 64
/-- the chunk number k -/
def chk (s : List UInt8) (k : Nat) : List UInt8 := (s.drop (64 * k)).take 64
/-- A TEXT'S CHUNKS -/
def split (s : List UInt8) : List (List UInt8) := (List.range (nch s.length)).map (chk s)
theorem split_length (s : List UInt8) : (split s).length = nch s.length := by simp [split]
theorem split_get (s : List UInt8) (k : Nat) (h : k < nch s.length) : (split s)[k]? = some (chk s k) := by simp [split, h]
theorem split_nil : split [] = [] := by simp [split, nch]
theorem chk_length (s : List UInt8) (k : Nat) : (chk s k).length = min 64 (s.length - 64 * k) := by simp [chk]
theorem take_split_succ (s : List UInt8) (k : Nat) (h : k < nch s.length) : (split s).take (k + 1) = (split s).take k ++ [chk s k] := by
  rw [List.take_add_one, split_get s k h]; rfl
theorem flatten_take (s : List UInt8) (k : Nat) (h : k ≤ nch s.length) : ((split s).take k).flatten = s.take (64 * k) := by
  induction k with
  | zero => simp
  | succ k ih =>
    rw [take_split_succ s k (by omega), List.flatten_append, ih (by omega)]
    simp only [List.flatten_cons, List.flatten_nil, List.append_nil, chk]
    rw [show 64 * (k + 1) = 64 * k + 64 by omega, List.take_add]
theorem split_flatten (s : List UInt8) : (split s).flatten = s := by
  have h := flatten_take s (nch s.length) (Nat.le_refl _)
  rw [← split_length, List.take_length, split_length, List.take_of_length_le (by unfold nch; omega)] at h
  exact h
theorem mem_split {s t : List UInt8} (h : t ∈ split s) : ∃ k, k < nch s.length ∧ t = chk s k := by
  simp only [split, List.mem_map, List.mem_range] at h
  obtain ⟨k, hk, rfl⟩ := h
  exact ⟨k, hk, rfl⟩
theorem mem_split_len {s t : List UInt8} (h : t ∈ split s) : t.length ≤ 64 := by
  obtain ⟨k, hk, rfl⟩ := mem_split h
  rw [chk_length]; omega
end Go.Proofs.YtahdmhenkjbimaaDoor.S
