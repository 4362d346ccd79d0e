/- The end of a text, as lists: the mark, the zeros, the length, and what the last one or two blocks come to. -/
import Derived.Test.YtfbjakhanjbaeaaDoorS5
namespace Go.Proofs.YtfbjakhanjbaeaaDoor
open Go.RowKit
set_option linter.unusedVariables false

def mark (rest : List UInt8) (h : Nat) : List UInt8 := (List.range 64).map fun j => if j < h then S.by8 rest j else if j = h then 128 else 0
def lastk (R : List UInt8) (n k : Nat) : List UInt8 := (List.range 64).map fun j => if 64 - k ≤ j then UInt8.ofNat (n / 256 ^ (63 - j)) else S.by8 R j
def zeroB : List UInt8 := List.replicate 64 0
theorem mark_length (r h) : (mark r h).length = 64 := by simp [mark]
theorem lastk_length (r n k) : (lastk r n k).length = 64 := by simp [lastk]
theorem by8_mark (r : List UInt8) (h j : Nat) (hj : j < 64) : S.by8 (mark r h) j = if j < h then S.by8 r j else if j = h then 128 else 0 := by simp [S.by8, mark, hj]
theorem by8_lastk (r : List UInt8) (n k j : Nat) (hj : j < 64) : S.by8 (lastk r n k) j = if 64 - k ≤ j then UInt8.ofNat (n / 256 ^ (63 - j)) else S.by8 r j := by simp [S.by8, lastk, hj]
theorem by8_zeroB (j : Nat) (hj : j < 64) : S.by8 zeroB j = 0 := by
  unfold S.by8 zeroB
  rw [List.getD_eq_getElem?_getD, List.getElem?_replicate, if_pos hj]; rfl
theorem ext_by8 {a b : List UInt8} (ha : a.length = 64) (hb : b.length = 64) (h : ∀ j, j < 64 → S.by8 a j = S.by8 b j) : a = b := by
  apply List.ext_getElem (by omega)
  intro i h1 h2
  have := h i (by omega)
  simpa [S.by8, List.getD_eq_getElem?_getD, List.getElem?_eq_getElem h1, List.getElem?_eq_getElem h2] using this
theorem by8_be8 (n j : Nat) (hj : j < 8) : S.by8 (S.be8 n) j = UInt8.ofNat (n / 256 ^ (7 - j)) := by simp [S.by8, S.be8, hj]
theorem by8_pad (m : List UInt8) (i : Nat) : S.by8 (S.pad m) i = if i < m.length then S.by8 m i else if i = m.length then 128 else if i < m.length + 1 + S.zeros m.length then 0 else S.by8 (S.be8 (8 * m.length)) (i - (m.length + 1 + S.zeros m.length)) := by
  unfold S.by8 S.pad
  simp only [List.getD_eq_getElem?_getD]
  by_cases h1 : i < m.length
  · rw [if_pos h1, List.append_assoc, List.append_assoc, List.getElem?_append_left h1]
  · rw [if_neg h1]
    by_cases h2 : i = m.length
    · rw [if_pos h2, List.append_assoc, List.append_assoc, List.getElem?_append_right (by omega), h2]; simp
    · rw [if_neg h2]
      by_cases h3 : i < m.length + 1 + S.zeros m.length
      · rw [if_pos h3, List.getElem?_append_left (by simp; omega), List.getElem?_append_right (by simp; omega), List.getElem?_replicate, if_pos (by simp; omega)]; rfl
      · rw [if_neg h3, List.getElem?_append_right (by simp; omega)]
        congr 2
        simp; omega
theorem by8_cut (m : List UInt8) (q j : Nat) (hj : j < 64) : S.by8 ((m.drop (64 * q)).take 64) j = S.by8 m (64 * q + j) := by
  simp [S.by8, hj, List.getElem?_drop]
theorem by8_of_take {rest m : List UInt8} {h q j : Nat} (ht : rest.take h = m.drop (64 * q)) (hj : j < h) : S.by8 rest j = S.by8 m (64 * q + j) := by
  have : (rest.take h)[j]? = (m.drop (64 * q))[j]? := by rw [ht]
  rw [List.getElem?_take, if_pos hj, List.getElem?_drop] at this
  simp [S.by8, this]
theorem cut_length (m : List UInt8) (q : Nat) (h : 64 * q + 64 ≤ m.length) : ((m.drop (64 * q)).take 64).length = 64 := by simp; omega

theorem stN_succ (m : List UInt8) (n : Nat) : S.stN m (n + 1) = S.mix (S.stN m n) ((m.drop (64 * n)).take 64) := rfl
/-- one block is enough -/
theorem last_one (m rest : List UInt8) (ht : rest.take (m.length % 64) = m.drop (64 * (m.length / 64))) (hh : m.length % 64 < 56) :
    S.mix (S.stN m (m.length / 64)) (lastk (mark rest (m.length % 64)) (8 * m.length) 8) = S.stN (S.pad m) ((S.pad m).length / 64) := by
  have hz : S.zeros m.length = 55 - m.length % 64 := by unfold S.zeros; omega
  have hl : (S.pad m).length = 64 * (m.length / 64) + 64 := by rw [S.pad_length, hz]; omega
  rw [hl, show (64 * (m.length / 64) + 64) / 64 = m.length / 64 + 1 by omega]
  rw [stN_succ]
  have e1 : S.stN (S.pad m) (m.length / 64) = S.stN m (m.length / 64) := by
    unfold S.pad; rw [List.append_assoc, List.append_assoc]; exact S.stN_append _ _ _ (by omega)
  rw [e1]
  refine congrArg (S.mix _) ?_
  refine ext_by8 (lastk_length _ _ _) (cut_length _ _ (by omega)) fun j hj => ?_
  rw [by8_cut _ _ _ hj, by8_pad, hz]
  by_cases h1 : 64 - 8 ≤ j
  · rw [by8_lastk _ _ _ _ hj, if_pos h1, if_neg (by omega), if_neg (by omega), if_neg (by omega), by8_be8 _ _ (by omega)]
    congr 3; omega
  · rw [by8_lastk _ _ _ _ hj, if_neg h1, by8_mark _ _ _ hj]
    by_cases h2 : j < m.length % 64
    · rw [if_pos h2, if_pos (by omega)]; exact by8_of_take ht h2
    · rw [if_neg h2, if_neg (show ¬ (64 * (m.length / 64) + j < m.length) by omega)]
      by_cases h3 : j = m.length % 64
      · rw [if_pos h3, if_pos (by omega)]
      · rw [if_neg h3, if_neg (show ¬ (64 * (m.length / 64) + j = m.length) by omega), if_pos (by omega)]
/-- two blocks are needed -/
theorem last_two (m rest : List UInt8) (ht : rest.take (m.length % 64) = m.drop (64 * (m.length / 64))) (hh : 56 ≤ m.length % 64) :
    S.mix (S.mix (S.stN m (m.length / 64)) (mark rest (m.length % 64))) (lastk zeroB (8 * m.length) 8) = S.stN (S.pad m) ((S.pad m).length / 64) := by
  have hz : S.zeros m.length = 119 - m.length % 64 := by unfold S.zeros; omega
  have hl : (S.pad m).length = 64 * (m.length / 64 + 1) + 64 := by rw [S.pad_length, hz]; omega
  rw [hl, show (64 * (m.length / 64 + 1) + 64) / 64 = m.length / 64 + 1 + 1 by omega]
  rw [stN_succ, stN_succ]
  have e1 : S.stN (S.pad m) (m.length / 64) = S.stN m (m.length / 64) := by
    unfold S.pad; rw [List.append_assoc, List.append_assoc]; exact S.stN_append _ _ _ (by omega)
  rw [e1]
  refine congr (congrArg S.mix (congrArg (S.mix _) ?_)) ?_
  · refine ext_by8 (mark_length _ _) (cut_length _ _ (by omega)) fun j hj => ?_
    rw [by8_cut _ _ _ hj, by8_pad, hz, by8_mark _ _ _ hj]
    by_cases h2 : j < m.length % 64
    · rw [if_pos h2, if_pos (by omega)]; exact by8_of_take ht h2
    · rw [if_neg h2, if_neg (show ¬ (64 * (m.length / 64) + j < m.length) by omega)]
      by_cases h3 : j = m.length % 64
      · rw [if_pos h3, if_pos (by omega)]
      · rw [if_neg h3, if_neg (show ¬ (64 * (m.length / 64) + j = m.length) by omega), if_pos (by omega)]
  · refine ext_by8 (lastk_length _ _ _) (cut_length _ _ (by omega)) fun j hj => ?_
    rw [by8_cut _ _ _ hj, by8_pad, hz]
    by_cases h1 : 64 - 8 ≤ j
    · rw [by8_lastk _ _ _ _ hj, if_pos h1, if_neg (by omega), if_neg (by omega), if_neg (by omega), by8_be8 _ _ (by omega)]
      congr 3; omega
    · rw [by8_lastk _ _ _ _ hj, if_neg h1, by8_zeroB _ hj, if_neg (by omega), if_neg (by omega), if_pos (by omega)]

theorem PC.setRest {C : Array Value} {s : S.St} {R R' : List UInt8} {h N i : Nat} (p : PC C s R h N) (hi : i < 64) (x : UInt8) (hR : ∀ j, j < 64 → S.by8 R' j = if j = i then x else S.by8 R j) :
    PC (C.setIfInBounds (8 + i) (vb x)) s R' h N := by
  have hs := p.size
  refine ⟨by simp [hs], fun j hj => by rw [Array.getElem?_setIfInBounds_ne (by omega)]; exact p.st j hj, fun j hj => ?_,
    by rw [Array.getElem?_setIfInBounds_ne (by omega)]; exact p.held, by rw [Array.getElem?_setIfInBounds_ne (by omega)]; exact p.all⟩
  rw [hR j hj]
  by_cases hji : j = i
  · subst hji; rw [if_pos rfl, Array.getElem?_setIfInBounds_self_of_lt (by omega)]
  · rw [if_neg hji, Array.getElem?_setIfInBounds_ne (by omega)]; exact p.rest j hj
theorem PC.alike {C : Array Value} {s : S.St} {R R' : List UInt8} {h N : Nat} (p : PC C s R h N) (hR : ∀ j, j < 64 → S.by8 R' j = S.by8 R j) : PC C s R' h N :=
  ⟨p.size, p.st, fun i hi => by rw [hR i hi]; exact p.rest i hi, p.held, p.all⟩
/-- a part of the 64 bytes is cleared -/
theorem PC.cleared {C D : Array Value} {s : S.St} {R R' : List UInt8} {h h0 N : Nat} (p : PC C s R h0 N) (hh : h ≤ 64) (hD : D.size = C.size)
    (ho : ∀ j, (j < 8 + h ∨ 8 + h + (64 - h) ≤ j) → D[j]? = C[j]?) (hi : ∀ j, j < 64 - h → D[8 + h + j]? = some (vb 0)) (hR : ∀ j, j < 64 → S.by8 R' j = if j < h then S.by8 R j else 0) : PC D s R' h0 N := by
  refine ⟨by rw [hD, p.size], fun i hi' => by rw [ho i (by omega)]; exact p.st i hi', fun i hi' => ?_, by rw [ho 72 (by omega)]; exact p.held, by rw [ho 73 (by omega)]; exact p.all⟩
  rw [hR i hi']
  by_cases hc : i < h
  · rw [if_pos hc, ho (8 + i) (by omega)]; exact p.rest i hi'
  · rw [if_neg hc, show 8 + i = 8 + h + (i - h) by omega]; exact hi (i - h) (by omega)
end Go.Proofs.YtfbjakhanjbaeaaDoor
