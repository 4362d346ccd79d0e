/- What the reference's Encode answers. -/
import Derived.Test.YtaceemaedpkigaaDoorJ1
import Derived.Test.YtaceemaedpkigaaDoorK2
import Derived.Test.YtaceemaedpkigaaDoorR1
import Derived.Test.YtaceemaedpkigaaDoorRegT
namespace Go.Proofs.YtaceemaedpkigaaDoor
open Go.RowKit
set_option linter.unusedVariables false
set_option linter.unusedSimpArgs false

/-- a manifest's bytes -/
def encB (wh : List UInt8) (sz : Int) (P : List (List UInt8)) : List UInt8 := M.rowB [wh, M.numB sz, P.flatten]
theorem dgs_flat (P : List (List UInt8)) (h : ∀ d ∈ P, d.length = 32) : P.flatten.length = 32 * P.length := by
  induction P with
  | nil => rfl
  | cons d P ih => rw [List.flatten_cons, List.length_append, h d (by simp), ih (fun d hd => h d (by simp [hd])), List.length_cons]; omega
theorem Dgs.len {B : Nat} {w : World} {a : Option Addr} {P : List (List UInt8)} (h : Dgs B w a P) : ∀ d ∈ P, d.length = 32 := fun d hd => by
  obtain ⟨i, hi, rfl⟩ := List.getElem_of_mem hd
  exact (h i _ (List.getElem?_eq_getElem hi)).1
theorem encB_len (wh : List UInt8) (sz : Int) (P : List (List UInt8)) (hw : wh.length = 32) (hP : P.flatten.length ≤ 1000) : (encB wh sz P).length ≤ 4000 := by
  have := rowB_le [wh, M.numB sz, P.flatten] 1000 (fun t ht => by
    have := M.numB_len sz
    simp only [List.mem_cons, List.not_mem_nil, or_false] at ht
    rcases ht with rfl | rfl | rfl <;> omega)
  unfold encB
  simp at this; omega

end Go.Proofs.YtaceemaedpkigaaDoor
