/- Contracts for texts that came in. -/
import Derived.Test.YtfbjakhanjbaeaaDoorW8
namespace Go.Proofs.YtfbjakhanjbaeaaDoor
open Go.RowKit
set_option linter.unusedVariables false

theorem Strs.bl {w0 w : World} {v : Value} {l : List (List UInt8)} (h : Strs w0.heap.size w0 v l) (hb : Bl w0 w) : Strs w.heap.size w v l := Strs.below h hb (Below.size hb)
theorem row_c (v : Value) (l : List (List UInt8)) {w0 w : World} (h : Bl w0 w) (hv : Strs w0.heap.size w0 v l) (hlen : (M.rowB l).length ≤ 140737488355328) (hn : l.length ≤ 140737488355328) :
    Calls Tryd.prog 41 #[v] w fun e w' => e = .returned (.string (M.bs (M.rowB l))) ∧ Bl w0 w' := row_b v l h (hv.bl h) hlen hn
/-- the bytes of so many texts, each of so many bytes -/
theorem textsB_le (l : List (List UInt8)) (c : Nat) (h : ∀ t ∈ l, t.length ≤ c) : (M.textsB l).length ≤ l.length * (c + 9) := by
  induction l with
  | nil => simp [M.textsB]
  | cons t l ih =>
    have e : M.textsB (t :: l) = M.textB t ++ M.textsB l := by simp [M.textsB]
    have h1 := ih (fun t ht => h t (by simp [ht]))
    have h2 := h t (by simp)
    have h3 := M.numB_len (t.length : Int)
    rw [e, List.length_append, M.textB, List.length_append, List.length_cons, Nat.succ_mul]
    omega
theorem rowB_le (l : List (List UInt8)) (c : Nat) (h : ∀ t ∈ l, t.length ≤ c) : (M.rowB l).length ≤ l.length * (c + 9) + 9 := by
  have h1 := textsB_le l c h
  have h2 := M.numB_len (l.length : Int)
  unfold M.rowB
  rw [List.length_append]
  omega
theorem mem_of {l : List (List UInt8)} {i : Nat} {t : List UInt8} (h : l[i]? = some t) : t ∈ l := List.mem_of_getElem? h
/-- the first text that is too long, if there is one -/
theorem first_long (l : List (List UInt8)) (c : Nat) : (∀ t ∈ l, t.length ≤ c) ∨ ∃ (j : Nat) (t : List UInt8), l[j]? = some t ∧ c < t.length ∧ ∀ (i : Nat) (u : List UInt8), i < j → l[i]? = some u → u.length ≤ c := by
  induction l with
  | nil => left; simp
  | cons t l ih =>
    by_cases h : t.length ≤ c
    · rcases ih with h' | ⟨j, u, h1, h2, h3⟩
      · left
        intro u hu
        rcases List.mem_cons.1 hu with rfl | hu
        · exact h
        · exact h' u hu
      · right
        refine ⟨j + 1, u, by simpa using h1, h2, ?_⟩
        intro i x hi hx
        cases i with
        | zero => simp at hx; subst hx; exact h
        | succ i => exact h3 i x (by omega) (by simpa using hx)
    · right
      exact ⟨0, t, rfl, by omega, fun i u hi => by omega⟩

theorem strs_cases {w : World} {v : Value} {l : List (List UInt8)} (h : Strs w.heap.size w v l) :
    (l.length = 0 ∧ ∃ a c, v = .slice a 0 c) ∨ ∃ b off cap, v = .slice (some ⟨b, off, none⟩) l.length cap ∧ b < w.heap.size ∧ ∀ i t, l[i]? = some t → w.cell? ⟨b, off + i, none⟩ = some (.string (M.bs t)) := by
  rcases h with ⟨rfl, h⟩ | h
  · exact Or.inl ⟨rfl, h⟩
  · exact Or.inr h
theorem Bl.cell {w0 w : World} (h : Bl w0 w) {b o : Nat} (hb : b < w0.heap.size) : w.cell? ⟨b, o, none⟩ = w0.cell? ⟨b, o, none⟩ := Below.cell (p := ⟨b, o, none⟩) h hb

end Go.Proofs.YtfbjakhanjbaeaaDoor
