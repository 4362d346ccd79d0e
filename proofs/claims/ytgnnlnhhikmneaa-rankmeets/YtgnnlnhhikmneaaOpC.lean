/- Members that came in, with their capacity. -/
import Derived.Test.YtgnnlnhhikmneaaOpK
namespace Go.Proofs.Ytgnnlnhhikmneaa
open Go.ChangeShapes Go.WideShapes Go.ChangeAt Go.RowKit
set_option linter.unusedVariables false

theorem cap_of {T TS : TypeId} (hund : Try.prog.underlying TS = some (.slice T)) {H : Type} {enc : TypeId × Value → H} {W : World} {fuel : Nat} {a : Option Addr} {n c : Nat} {d : DataW H} {p : List MemPlace}
    (hf : DataW.trod enc Try.prog W 0 (fun _ => true) true fuel TS [.slice a n c] = some (d, p)) : n ≤ c := by
  rcases DataW.trod_slice hund hf with ⟨hcs, hx⟩ | ⟨a, len, cap, elems, rest, n, _, hcs, hx, hb, hl, hm, hlen, hel, _, _⟩
  · simp only [List.cons.injEq, and_true, Value.slice.injEq] at hcs
    omega
  · simp only [List.cons.injEq, and_true, Value.slice.injEq] at hcs
    omega
set_option maxRecDepth 100000 in
/-- MEMBERS THAT CAME IN, with their capacity -/
theorem open_membersc {H : Type} {enc : TypeId × Value → H} {W : World} {base : Nat} {v : Value} {d : DataW H} {p : List MemPlace}
    (hok : Value.okWide Try.prog W .any base 33 v) (h : DataW.Trod enc Try.prog W 0 (fun _ => true) true 33 v d p) :
    ∃ (a : Option Addr) (c : Nat) (l : List K.Me), v = .slice a l.length c ∧ RS lyM W a l ∧ (l.length ≤ maxLen ∧ l.length ≤ c) ∧ ∀ t ∈ l, okM t := by
  obtain ⟨a, c, l, rfl, h1, h2, h3⟩ := open_members hok h
  obtain ⟨fuel, hf0⟩ := h
  have hf : DataW.trod enc Try.prog W 0 (fun _ => true) true fuel 33 [.slice a l.length c] = some (d, p) := by simpa [Value.cells] using hf0
  exact ⟨a, c, l, rfl, h1, ⟨h2, cap_of Try.underlying33 hf⟩, h3⟩
end Go.Proofs.Ytgnnlnhhikmneaa
