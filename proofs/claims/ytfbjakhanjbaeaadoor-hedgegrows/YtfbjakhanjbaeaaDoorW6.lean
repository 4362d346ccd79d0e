/- What sap.ReadRow answers, for every text (where it or most is at most 2^43). -/
import Derived.Test.YtfbjakhanjbaeaaDoorW5
namespace Go.Proofs.YtfbjakhanjbaeaaDoor
open Go.RowKit
set_option linter.unusedVariables false

def encS (t : List UInt8) : Value := .string (M.bs t)
/-- what a reading of a row leaves -/
def RR (w : World) (o : Option (List (List UInt8) × List UInt8)) (e : Ending) (w' : World) : Prop :=
  match o with
  | none => e = .returned (.tuple #[.slice none 0 0, .string ⟨#[]⟩, .bool false]) ∧ Below w.heap.size w w'
  | some (l, r) => ∃ v, e = .returned (.tuple #[v, .string (M.bs r), .bool true]) ∧ Strs w'.heap.size w' v l ∧ Below w.heap.size w w'

/-- texts that were read ahead of others -/
def more (ks : List (List UInt8)) (o : Option (List (List UInt8) × List UInt8)) : Option (List (List UInt8) × List UInt8) :=
  match o with
  | none => none
  | some (l, q) => some (ks ++ l, q)
theorem more_nil (o : Option (List (List UInt8) × List UInt8)) : more [] o = o := by
  cases o with
  | none => rfl
  | some x => obtain ⟨l, q⟩ := x; rfl
theorem more_none (ks : List (List UInt8)) (k : Nat) (r : List UInt8) (h : M.readText r r.length = none) : more ks (M.readTexts (k + 1) r) = none := by
  simp only [M.readTexts, h, more]
theorem more_some (ks : List (List UInt8)) (k : Nat) (r t q : List UInt8) (h : M.readText r r.length = some (t, q)) : more ks (M.readTexts (k + 1) r) = more (ks ++ [t]) (M.readTexts k q) := by
  simp only [M.readTexts, h]
  cases M.readTexts k q with
  | none => rfl
  | some x => obtain ⟨l, q'⟩ := x; simp [more]
theorem readText_shorter (r t q : List UInt8) (most : Int) (h : M.readText r most = some (t, q)) : q.length + 1 ≤ r.length ∧ t.length ≤ r.length := by
  have e := (M.readText_some _ _ _ _ h).1
  have e2 := congrArg List.length e
  unfold M.textB at e2
  simp only [List.length_append, M.numB_length] at e2
  omega

theorem strs_of_owns {N : Nat} {w : World} {v : Value} {ks : List (List UInt8)} (h : w.ownsRow N 9 1 v ks.length (ks.map encS)) : Strs w.heap.size w v ks := by
  obtain ⟨h0, ⟨h1, h2⟩ | ⟨g, cap, cur, h1, h2, h3, h4, h5, h6, h7⟩⟩ := h
  · exact Or.inl ⟨List.eq_nil_of_length_eq_zero h2, none, 0, h1⟩
  · right
    have hg : g < w.heap.size := by
      rcases Nat.lt_or_ge g w.heap.size with h | h
      · exact h
      · rw [Array.getElem?_eq_none h] at h3; simp at h3
    refine ⟨g, 0, cap, h1, hg, ?_⟩
    intro i t ht
    have hi : i < ks.length := (List.getElem?_eq_some_iff.1 ht).1
    rw [Lib.cell_of_heap h3, Nat.zero_add]
    have h8 : (cur.toList.take (ks.length * 1))[i]? = (ks.map encS)[i]? := by rw [h7]
    rw [List.getElem?_take_of_lt (by omega), List.getElem?_map, ht] at h8
    simpa [encS] using h8

end Go.Proofs.YtfbjakhanjbaeaaDoor
