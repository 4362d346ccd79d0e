/- The contracts once more, each with the memory that the whole call has left alone: for walks that make many calls. -/
import Derived.Test.YtfbjakhanjbaeaaDoorW7
namespace Go.Proofs.YtfbjakhanjbaeaaDoor
open Go.RowKit
set_option linter.unusedVariables false

/-- what lay in memory when the call began lies there still -/
def Bl (w0 w : World) : Prop := Below w0.heap.size w0 w
theorem Bl.refl (w : World) : Bl w w := Below.refl _ _
theorem Bl.step {w0 w w' : World} (h : Bl w0 w) (hb : Below w.heap.size w w') : Bl w0 w' := Below.trans h (hb.mono (Below.size h))
theorem Bl.drewN {w0 w : World} (h : Bl w0 w) (n : Nat) : Bl w0 (w.drewN n) := below_drewN h n
theorem Bl.alloc {w0 w : World} (h : Bl w0 w) (o : Obj) : Bl w0 (w.alloc o) := Below.alloc h (Below.size h) o

theorem num_b (n : Int) {w0 w : World} (h : Bl w0 w) (h1 : -9223372036854775808 ≤ n) (h2 : n < 9223372036854775808) :
    Calls Tryd.prog 40 #[.int .i64 n] w fun e w' => e = .returned (.string (M.bs (M.numB n))) ∧ Bl w0 w' := by
  refine (num_any n w h1 h2).mono ?_
  rintro e w' ⟨rfl, hb⟩
  exact ⟨rfl, h.step hb⟩
theorem row_b (v : Value) (l : List (List UInt8)) {w0 w : World} (h : Bl w0 w) (hv : Strs w.heap.size w v l) (hlen : (M.rowB l).length ≤ 140737488355328) (hn : l.length ≤ 140737488355328) :
    Calls Tryd.prog 41 #[v] w fun e w' => e = .returned (.string (M.bs (M.rowB l))) ∧ Bl w0 w' := by
  refine (row_any v l w hv hlen hn).mono ?_
  rintro e w' ⟨rfl, hb⟩
  exact ⟨rfl, h.step hb⟩
theorem rowB_ge (l : List (List UInt8)) : l.length + 1 ≤ (M.rowB l).length := by
  have h : l.length ≤ (M.textsB l).length := by
    induction l with
    | nil => simp
    | cons t l ih =>
      have e : M.textsB (t :: l) = M.textB t ++ M.textsB l := by simp [M.textsB]
      rw [e, List.length_append, M.textB, List.length_append, M.numB_length]
      simp only [List.length_cons]
      omega
  unfold M.rowB
  rw [List.length_append, M.numB_length]
  omega

end Go.Proofs.YtfbjakhanjbaeaaDoor
