/- What stamp.Row and stamp.Less answer. -/
import Derived.Test.YtodcafmhaleemaaDoorS11
namespace Go.Proofs.YtodcafmhaleemaaDoor
open Go.RowKit
set_option linter.unusedVariables false
attribute [local go_sem ↓] zero27

theorem TX.one {W : World} {sb : Nat} {t : List UInt8} (h1 : sb < W.heap.size) (h2 : W.cell? ⟨sb, 0, none⟩ = some (.string (M.bs t))) : TX W (some ⟨sb, 0, none⟩) [t] := fun i u hu => by
  rcases i with _ | i
  · simp at hu; subst hu; exact ⟨sb, 0, rfl, h1, h2⟩
  · simp at hu
theorem Of_one (t : List UInt8) (sb cap : Nat) (W : World) (hG : GW W) (h1 : sb < W.heap.size) (h2 : W.cell? ⟨sb, 0, none⟩ = some (.string (M.bs t))) (hlen : t.length ≤ 576460752303423488) :
    Calls Tryd.prog 15 #[.slice (some ⟨sb, 0, none⟩) 1 cap] W fun e w' => e = .returned (.agg (dg (S.sha t))) ∧ Below W.heap.size W w' := by
  have := Of_at [t] (some ⟨sb, 0, none⟩) cap W hG (TX.one h1 h2) (by simpa using hlen) (by simp)
  simpa using this

/-- the order of bytes -/
def ltB : List UInt8 → List UInt8 → Bool
  | x :: a, y :: b => if x = y then ltB a b else decide (x.toNat < y.toNat)
  | _, _ => false
theorem ltB_at : ∀ (a b : List UInt8) (k : Nat), a.length = b.length → k < a.length → (∀ j, j < k → S.by8 a j = S.by8 b j) → S.by8 a k ≠ S.by8 b k → ltB a b = decide ((S.by8 a k).toNat < (S.by8 b k).toNat)
  | [], _, k, _, h, _, _ => by simp at h
  | _ :: _, [], k, h, _, _, _ => by simp at h
  | x :: a, y :: b, 0, _, _, _, hne => by
    have : x ≠ y := by simpa [S.by8] using hne
    simp [ltB, this, S.by8]
  | x :: a, y :: b, k + 1, hl, hk, hj, hne => by
    have h0 : x = y := by simpa [S.by8] using hj 0 (by omega)
    have ih := ltB_at a b k (by simpa using hl) (by simpa using hk) (fun j h => by have := hj (j + 1) (by omega); simpa [S.by8] using this) (by simpa [S.by8] using hne)
    simp only [ltB, h0, if_true]
    rw [ih]
    simp [S.by8]
theorem ltB_self : ∀ a : List UInt8, ltB a a = false
  | [] => rfl
  | x :: a => by simp [ltB, ltB_self a]
theorem eq_by8 {a b : List UInt8} (hl : a.length = b.length) (h : ∀ j, j < a.length → S.by8 a j = S.by8 b j) : a = b := by
  apply List.ext_getElem hl
  intro i h1 h2
  have := h i h1
  simpa [S.by8, List.getD_eq_getElem?_getD, List.getElem?_eq_getElem h1, List.getElem?_eq_getElem h2] using this
theorem dg_at (d : List UInt8) (k : Nat) (h : k < d.length) : (dg d)[k]? = some (vb (S.by8 d k)) := by
  unfold dg
  rw [List.getElem?_toArray, List.getElem?_map, List.getElem?_eq_getElem h]
  simp [S.by8, h]

end Go.Proofs.YtodcafmhaleemaaDoor
