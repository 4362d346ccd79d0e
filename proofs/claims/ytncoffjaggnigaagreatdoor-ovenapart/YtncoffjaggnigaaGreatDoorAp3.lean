/- One cell of a row of one's own written anew; makings as arguments. -/
import Derived.Test.YtncoffjaggnigaaGreatDoorAp0
import Derived.Test.YtncoffjaggnigaaGreatDoorAp2
namespace Go.Proofs.YtncoffjaggnigaaGreatDoor
open Go.RowKit
set_option linter.unusedVariables false
set_option linter.unusedSimpArgs false

theorem heap_setCell_row9 {w : World} {b i : Nat} {C : Array Value} {t : TypeId} {fr : Nat × Nat} {v : Value} (h : w.heap[b]? = some (.cells C t fr)) : (w.setCell ⟨b, i, none⟩ v).heap[b]? = some (.cells (C.setIfInBounds i v) t fr) := by
  show (w.heap.modify b _)[b]? = _
  rw [Array.getElem?_modify, if_pos rfl, h]; rfl
theorem flR_set : ∀ (L : List O.Re) (k : Nat) (r : O.Re) (t : List UInt8), L[k]? = some r → (flG lyR L).set (k * 2 + 1) (.string (M.bs t)) = flG lyR (L.set k (r.1, t))
  | [], k, r, t, h => by simp at h
  | x :: L, 0, r, t, h => by
    simp at h; subst h
    rfl
  | x :: L, k + 1, r, t, h => by
    have h' : L[k]? = some r := by simpa using h
    have ih := flR_set L k r t h'
    have e : ∀ K : List O.Re, flG lyR (x :: K) = .int .i64 x.1 :: .string (M.bs x.2) :: flG lyR K := fun K => rfl
    rw [List.set_cons_succ, e, e, ← ih, show (k + 1) * 2 + 1 = (k * 2 + 1) + 1 + 1 by omega]
    rfl
/-- a blob of a row of one's own is written anew -/
theorem own_set9 {W : World} {B g off cap : Nat} {L : List O.Re} {k : Nat} {r : O.Re} (h : W.ownsRow B 47 2 (.slice (some ⟨g, off, none⟩) L.length cap) L.length (flG lyR L)) (hk : L[k]? = some r) (t : List UInt8) :
    off = 0 ∧ B ≤ g ∧ g < W.heap.size ∧ W.frozen? ⟨g, off + k * 2 + 1, none⟩ = false ∧ (W.setCell ⟨g, off + k * 2 + 1, none⟩ (.string (M.bs t))).ownsRow B 47 2 (.slice (some ⟨g, off, none⟩) L.length cap) L.length (flG lyR (L.set k (r.1, t))) := by
  obtain ⟨h0, ⟨h1, h2⟩ | ⟨g', cap', cur, h1, h2, h3, h4, h5, h6, h7⟩⟩ := h
  · cases h1
  · simp only [Value.slice.injEq, Option.some.injEq, Addr.mk.injEq, true_and, and_true] at h1
    obtain ⟨⟨rfl, rfl⟩, rfl⟩ := h1
    refine ⟨rfl, h2, TA.lt_heap h3, ?_, ?_, Or.inr ⟨g, cap, cur.setIfInBounds (0 + k * 2 + 1) (.string (M.bs t)), rfl, h2, heap_setCell_row9 h3, h4, h5, by simpa using h6, ?_⟩⟩
    · unfold World.frozen?
      rw [h3]; simp
    · rw [flG_len, List.length_set]; rfl
    · rw [Array.toList_setIfInBounds, List.take_set, h7, Nat.zero_add, flR_set L k r t hk]
/-- so many of a list's results stripped -/
def stK (l : List O.Re) (k : Nat) : List O.Re := (l.take k).map O.strip ++ l.drop k
theorem stK_len (l : List O.Re) (k : Nat) (hk : k ≤ l.length) : (stK l k).length = l.length := by simp [stK]; omega
theorem stK_at {l : List O.Re} {k : Nat} {r : O.Re} (h : l[k]? = some r) : (stK l k)[k]? = some r := by
  have hk := (List.getElem?_eq_some_iff.1 h).1
  unfold stK
  rw [List.getElem?_append_right (by simp; omega), List.length_map, List.length_take, Nat.min_eq_left (by omega), Nat.sub_self, List.getElem?_drop]
  simpa using h
theorem stK_succ {l : List O.Re} {k : Nat} {r : O.Re} (h : l[k]? = some r) : stK l (k + 1) = (stK l k).set k (O.strip r) := by
  have hk := (List.getElem?_eq_some_iff.1 h).1
  unfold stK
  rw [List.set_append_right _ _ (by simp; omega), List.length_map, List.length_take, Nat.min_eq_left (by omega), Nat.sub_self, List.take_add_one, h]
  have e : l.drop k = r :: l.drop (k + 1) := by
    rw [List.drop_eq_getElem_cons hk]
    congr 1
    rw [List.getElem?_eq_getElem hk] at h
    exact Option.some.inj h
  rw [e]
  simp
theorem stK_all (l : List O.Re) : stK l l.length = l.map O.strip := by simp [stK]
theorem stK_zero (l : List O.Re) : stK l 0 = l := by simp [stK]
theorem strip_zero {r : O.Re} (h : r.1 = 0) : O.strip r = r := by unfold O.strip; rw [if_pos h]
theorem strip_not {r : O.Re} (h : r.1 ≠ 0) : O.strip r = (r.1, []) := by unfold O.strip; rw [if_neg h]
theorem set_same {l : List O.Re} {k : Nat} {r : O.Re} (h : l[k]? = some r) : l.set k r = l := by
  apply List.ext_getElem?
  intro i
  rw [List.getElem?_set]
  split
  · rename_i e; subst e
    split
    · exact h.symm
    · rename_i h2; rw [List.getElem?_eq_none (by omega)]
  · rfl
end Go.Proofs.YtncoffjaggnigaaGreatDoor
