/- The contracts once more, each with the memory that the whole call has left alone: for walks that make many calls. -/
import Derived.Test.YthpdmeoljdmncaaW7
namespace Go.Proofs.Ythpdmeoljdmncaa
open Go.RowKit
set_option linter.unusedVariables false

/-- what lay in memory when the call began lies there still -/
def Bl (w0 w : World) : Prop := Below w0.heap.size w0 w
theorem Bl.refl (w : World) : Bl w w := Below.refl _ _
theorem Bl.step {w0 w w' : World} (h : Bl w0 w) (hb : Below w.heap.size w w') : Bl w0 w' := Below.trans h (hb.mono (Below.size h))
theorem Bl.drewN {w0 w : World} (h : Bl w0 w) (n : Nat) : Bl w0 (w.drewN n) := below_drewN h n
theorem Bl.alloc {w0 w : World} (h : Bl w0 w) (o : Obj) : Bl w0 (w.alloc o) := Below.alloc h (Below.size h) o

theorem same_b (v1 v2 : Value) (l1 l2 : List (List UInt8)) (B1 B2 : Nat) {w0 w : World} (h : Bl w0 w) (h1 : Strs B1 w v1 l1) (h2 : Strs B2 w v2 l2) (hn : l1.length ≤ 140737488355328) :
    Calls Try.prog 16 #[v1, v2] w fun e w' => e = .returned (.bool (decide (l1 = l2))) ∧ Bl w0 w' := by
  refine (same_any v1 v2 l1 l2 B1 B2 w h1 h2 hn).mono ?_
  rintro e w' ⟨rfl, n, rfl⟩
  exact ⟨rfl, h.drewN n⟩

theorem rowB_ge (l : List (List UInt8)) : l.length + 1 ≤ (M.rowB l).length := by
  have h : l.length ≤ (M.textsB l).length := by
    induction l with
    | nil => simp
    | cons t l ih =>
      have e : M.textsB (t :: l) = M.textB t ++ M.textsB l := by simp [M.textsB]
      rw [e, List.length_append, M.textB, List.length_append, M.numB_length]
      simp only [List.length_cons]
      omega
  unfold M.rowB
  rw [List.length_append, M.numB_length]
  omega

end Go.Proofs.Ythpdmeoljdmncaa
