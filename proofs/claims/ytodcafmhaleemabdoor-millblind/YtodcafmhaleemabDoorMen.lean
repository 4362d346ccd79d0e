/- MillEnds' walk. -/
import Derived.Test.YtodcafmhaleemabDoorT15
import Derived.Test.YtodcafmhaleemabDoorQM2
namespace Go.Proofs.YtodcafmhaleemabDoor
open Go.RowKit
set_option linter.unusedVariables false

theorem TX.below {W W' : World} {a : Option Addr} {l : List (List UInt8)} (h : TX W a l) (hb : Below W.heap.size W W') : TX W' a l := fun i t ht => by
  obtain ⟨sb, off, h1, h2, h3⟩ := h i t ht
  exact ⟨sb, off, h1, by have := hb.size; omega, by rw [hb.cell (p := ⟨sb, off + i, none⟩) h2]; exact h3⟩
/-- a code run behind whatever the law has done -/
theorem Run_l {w : World} (code : List UInt8) (ins : List (List UInt8)) (a : Option Addr) (c : Nat) (hT : Tab w) (hx : TX w a ins) (hl : code.length ≤ 9223372036854775807) (hn : ins.length ≤ 9223372036854775807) (hil : ∀ t ∈ ins, t.length ≤ 9223372036854775807) :
    ∀ W', GB w W' → Calls Tryd.prog 5 #[.string (M.bs code), .slice a ins.length c] W' fun e w' => e = .returned (runV (Q.run code ins)) ∧ GB w w' ∧ Below W'.heap.size W' w' := fun W' h => Run_b code ins a c h hT (hx.below h.b) hl hn hil
theorem mill_many {p : Prop} (n : Nat) (hp : 40 < n → p) (hq : n ≤ 40 → p) : p := by
  rcases Nat.lt_or_ge 40 n with h | h
  · exact hp h
  · exact hq h
end Go.Proofs.YtodcafmhaleemabDoor
