/- A build that is being read: recipe's draft in memory, and a source or an action more. -/
import Derived.Test.YthpdmeoljdmncaaL10
import Derived.Deep.AppendLies
import Derived.Deep.RegionLaw
namespace Go.Proofs.Ythpdmeoljdmncaa
open Go.RowKit
set_option linter.unusedVariables false

theorem heap_setCell_rowR {w : World} {b i : Nat} {C : Array Value} {t : TypeId} {fr : Nat × Nat} {v : Value} (h : w.heap[b]? = some (.cells C t fr)) : (w.setCell ⟨b, i, none⟩ v).heap[b]? = some (.cells (C.setIfInBounds i v) t fr) := by
  show (w.heap.modify b _)[b]? = _
  rw [Array.getElem?_modify, if_pos rfl, h]; rfl
theorem heap_setCell_otherR {w : World} {b i k : Nat} {v : Value} (h : k ≠ b) : (w.setCell ⟨b, i, none⟩ v).heap[k]? = w.heap[k]? := by
  show (w.heap.modify b _)[k]? = _
  rw [Array.getElem?_modify, if_neg (by omega)]
theorem ownsRow_setC {B n k g i : Nat} {e : TypeId} {v : Value} {xs : List Value} {w : World} (h : w.ownsRow B e k v n xs) (hg : g < B) (u : Value) : (w.setCell ⟨g, i, none⟩ u).ownsRow B e k v n xs := by
  obtain ⟨h0, h1 | ⟨g', cap, cur, h1, h2, h3, h4⟩⟩ := h
  · exact ⟨h0, Or.inl h1⟩
  · exact ⟨h0, Or.inr ⟨g', cap, cur, h1, h2, by rw [heap_setCell_otherR (by omega)]; exact h3, h4⟩⟩
/-- a row of another type is not touched where a row grows -/
theorem ownsRow_grown {B n k n' k' : Nat} {e e' : TypeId} {v v' : Value} {xs xs' : List Value} {w w' : World} (h : w.ownsRow B e k v n xs) (h' : w.ownsRow B e' k' v' n' xs') (he : e ≠ e') (hg : w.grownBy w' v'.ownBlock) : w'.ownsRow B e k v n xs := by
  obtain ⟨h0, h1 | ⟨g, cap, cur, h1, h2, h3, h4⟩⟩ := h
  · exact ⟨h0, Or.inl h1⟩
  · refine ⟨h0, Or.inr ⟨g, cap, cur, h1, h2, ?_, h4⟩⟩
    rw [hg.block g (TA.lt_heap h3) ?_]
    · exact h3
    · intro hh
      obtain ⟨_, ⟨rfl, _⟩ | ⟨g2, cap2, cur2, rfl, _, h5, _⟩⟩ := h'
      · cases hh
      · simp only [Value.ownBlock, Option.some.injEq] at hh
        subst hh
        rw [h3] at h5
        simp only [Option.some.injEq, Obj.cells.injEq] at h5
        exact he h5.2.1

/-- actions' cells -/
def flatA (A : List RC.Ac) (xs : List (Option Addr × Nat)) : List Value := (List.zipWith (fun t p => acL t p.1 p.2) A xs).flatten
theorem flatA_snoc (A : List RC.Ac) (xs : List (Option Addr × Nat)) (t : RC.Ac) (p : Option Addr × Nat) (h : xs.length = A.length) : flatA (A ++ [t]) (xs ++ [p]) = flatA A xs ++ acL t p.1 p.2 := by
  unfold flatA
  rw [List.zipWith_append (by omega)]
  simp
theorem flatA_at : ∀ (A : List RC.Ac) (xs : List (Option Addr × Nat)) (i : Nat) (t : RC.Ac) (p : Option Addr × Nat), A[i]? = some t → xs[i]? = some p → ∀ j, j < 3 → (flatA A xs)[i * 3 + j]? = (acL t p.1 p.2)[j]?
  | [], _, i, t, p, h, _, j, hj => by simp at h
  | _ :: _, [], i, t, p, _, h, j, hj => by simp at h
  | u :: A, q :: xs, 0, t, p, h, h', j, hj => by
    simp at h h'; subst h; subst h'
    simp only [flatA, List.zipWith_cons_cons, List.flatten_cons, Nat.zero_mul, Nat.zero_add]
    rw [List.getElem?_append_left (by simp [acL]; omega)]
  | u :: A, q :: xs, i + 1, t, p, h, h', j, hj => by
    have ih := flatA_at A xs i t p (by simpa using h) (by simpa using h') j hj
    simp only [flatA, List.zipWith_cons_cons, List.flatten_cons] at ih ⊢
    rw [List.getElem?_append_right (by simp [acL]; omega)]
    rw [show (i + 1) * 3 + j - (acL u q.1 q.2).length = i * 3 + j by simp [acL]; omega]
    exact ih
theorem own_shape {N n k : Nat} {e : TypeId} {v : Value} {xs : List Value} {W : World} (h : W.ownsRow N e k v n xs) : ∃ a c, v = .slice a n c := by
  obtain ⟨_, ⟨rfl, rfl⟩ | ⟨g, cap, cur, rfl, _⟩⟩ := h
  · exact ⟨none, 0, rfl⟩
  · exact ⟨_, _, rfl⟩
end Go.Proofs.Ythpdmeoljdmncaa
