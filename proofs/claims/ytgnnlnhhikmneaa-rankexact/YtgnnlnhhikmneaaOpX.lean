/- Rows of members that came in, opened. -/
import Derived.Test.YtgnnlnhhikmneaaOpK
import Derived.Test.YtgnnlnhhikmneaaKex
namespace Go.Proofs.Ytgnnlnhhikmneaa
open Go.ChangeShapes Go.WideShapes Go.ChangeAt Go.RowKit
set_option linter.unusedVariables false

theorem cMs : Try.prog.cellsOf 33 = 1 := by kernel_rfl
theorem row_of {H : Type} {enc : TypeId × Value → H} {W : World} {fuel : Nat} {cs : List Value} {d : DataW H} {p : List MemPlace}
    (h : DataW.trod enc Try.prog W 0 (fun _ => true) true fuel 33 cs = some (d, p)) : ∃ x : Option Addr × Nat × List K.Me, cs = lyR.f x ∧ rowOk W x := by
  have hv : ∃ v, cs = [v] := by
    rcases DataW.trod_slice Try.underlying33 h with ⟨hcs, hx⟩ | ⟨a, len, cap, elems, rest, n, _, hcs, _⟩
    · exact ⟨_, hcs⟩
    · exact ⟨_, hcs⟩
  obtain ⟨v, rfl⟩ := hv
  obtain ⟨a, c, l, rfl, h1, h2, h3⟩ := open_rows lyM okM Try.underlying33 cMe (fun n cs d p h => me_of h) h
  exact ⟨(a, c, l), rfl, h1, Nat.le_trans h2 (by decide), fun m hm => (h3 m hm).1⟩
set_option maxRecDepth 100000 in
/-- ROWS OF MEMBERS THAT CAME IN -/
theorem open_mrows {H : Type} {enc : TypeId × Value → H} {W : World} {base : Nat} {v : Value} {d : DataW H} {p : List MemPlace}
    (hok : Value.okWide Try.prog W .any base 22 v) (h : DataW.Trod enc Try.prog W 0 (fun _ => true) true 22 v d p) :
    ∃ (a : Option Addr) (c : Nat) (l : List (Option Addr × Nat × List K.Me)), v = .slice a l.length c ∧ RS lyR W a l ∧ l.length ≤ maxLen ∧ ∀ t ∈ l, rowOk W t := by
  obtain ⟨a0, len0, cap0, rfl⟩ := okWide_slice Try.underlying22 hok
  obtain ⟨fuel, hf0⟩ := h
  have hf : DataW.trod enc Try.prog W 0 (fun _ => true) true fuel 22 [.slice a0 len0 cap0] = some (d, p) := by simpa [Value.cells] using hf0
  exact open_rows lyR (rowOk W) Try.underlying22 cMs (fun n cs d p h => row_of h) hf
end Go.Proofs.Ytgnnlnhhikmneaa
