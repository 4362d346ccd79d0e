/- The law's own blob and built. -/
import Derived.Test.YtjbffhdccgmfpaaGreatDoorAw9
import Derived.Test.YtjbffhdccgmfpaaGreatDoorGre9
namespace Go.Proofs.YtjbffhdccgmfpaaGreatDoor
open Go.RowKit
set_option linter.unusedVariables false
set_option linter.unusedSimpArgs false

theorem bs_eq9 (a b : List UInt8) : ((M.bs a).toList == (M.bs b).toList) = decide (a = b) := by
  rw [Lib.toList_data, Lib.toList_data, M.bs_toList, M.bs_toList]
  by_cases h : a = b
  · subst h; simp
  · simp [h]
/-- the first source of a name, the first thing built -/
def fndS (l : List O.So) (n : List UInt8) : Option (List UInt8) := (l.find? (fun s => decide (s.1 = n))).map (·.2)
def fndB (l : List (List UInt8 × O.Re)) (n : List UInt8) : Option O.Re := (l.find? (fun s => decide (s.1 = n))).map (·.2)
theorem find_at {α : Type} {p : α → Bool} {l : List α} {k : Nat} {x : α} (hp : ∀ i y, i < k → l[i]? = some y → p y = false) (hx : l[k]? = some x) (h : p x = true) : l.find? p = some x := by
  induction l generalizing k with
  | nil => simp at hx
  | cons a r ih =>
    cases k with
    | zero => simp at hx; subst hx; simp [h]
    | succ k =>
      have h0 := hp 0 a (by omega) rfl
      rw [List.find?_cons, h0]
      exact ih (k := k) (fun i y hi hy => hp (i + 1) y (by omega) (by simpa using hy)) (by simpa using hx)
theorem find_no {α : Type} {p : α → Bool} {l : List α} (hp : ∀ i y, i < l.length → l[i]? = some y → p y = false) : l.find? p = none := by
  rw [List.find?_eq_none]
  intro x hx
  obtain ⟨i, hi⟩ := List.mem_iff_getElem?.1 hx
  rw [hp i x (List.getElem?_eq_some_iff.1 hi).1 hi]; simp
end Go.Proofs.YtjbffhdccgmfpaaGreatDoor
