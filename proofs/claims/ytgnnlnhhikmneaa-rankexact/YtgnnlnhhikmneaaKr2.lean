/- The reference's view in memory. -/
import Derived.Test.YtgnnlnhhikmneaaKr1
import Derived.Test.YtgnnlnhhikmneaaRegT
namespace Go.Proofs.Ytgnnlnhhikmneaa
open Go.RowKit Go.Maps
set_option linter.unusedVariables false
set_option linter.unusedSimpArgs false

theorem heap_setCell_row {w : World} {b i : Nat} {C : Array Value} {t : TypeId} {fr : Nat × Nat} {v : Value} (h : w.heap[b]? = some (.cells C t fr)) : (w.setCell ⟨b, i, none⟩ v).heap[b]? = some (.cells (C.setIfInBounds i v) t fr) := by
  show (w.heap.modify b _)[b]? = _
  rw [Array.getElem?_modify, if_pos rfl, h]; rfl
theorem Of1.set {b : Nat} {a w : World} (h : Of1 b a w) (i : Nat) (v : Value) : Of1 b a (w.setCell ⟨b, i, none⟩ v) :=
  ⟨h.os, h.tape, h.output, by have := h.size; simp [World.setCell]; exact this, fun k hk hb => by rw [Below.heap_setCell _ _ _ _ hb]; exact h.block k hk hb⟩
/-- the reference's view as cells: seven members, then seven marks -/
structure RVC (C : Array Value) (f : K.Vw) : Prop where
  size : C.size = 28
  at' : ∀ j : Nat, j < 7 → C[j * 3]? = some (.int .i64 (gv f j).1) ∧ C[j * 3 + 1]? = some (.int .i64 (gv f j).2.1) ∧ C[j * 3 + 2]? = some (.int .i64 (gv f j).2.2) ∧ C[21 + j]? = some (.bool (f j).isSome)
theorem RVC.put {C : Array Value} {f : K.Vw} (h : RVC C f) (j : Nat) (hj : j < 7) (i s : Int) :
    RVC ((((C.setIfInBounds (j * 3) (.int .i64 (j : Int))).setIfInBounds (j * 3 + 1) (.int .i64 i)).setIfInBounds (j * 3 + 2) (.int .i64 s)).setIfInBounds (21 + j) (.bool true)) (fun k => if k = (j : Int) then some ((j : Int), i, s) else f k) := by
  have hs := h.size
  refine ⟨by simp [hs], fun p hp => ?_⟩
  obtain ⟨h1, h2, h3, h4⟩ := h.at' p hp
  simp only [Array.getElem?_setIfInBounds]
  by_cases e : p = j
  · subst e
    have q1 : p * 3 < C.size := by omega
    have q2 : p * 3 + 1 < C.size := by omega
    have q3 : p * 3 + 2 < C.size := by omega
    have q4 : 21 + p < C.size := by omega
    refine ⟨?_, ?_, ?_, ?_⟩ <;> simp (disch := omega) [gv, q1, q2, q3, q4, if_neg, if_pos]
  · have hne : ¬ ((p : Int) = (j : Int)) := by omega
    have g1 : gv (fun k => if k = (j : Int) then some ((j : Int), i, s) else f k) (p : Int) = gv f p := by unfold gv; simp only [if_neg hne]
    rw [g1]
    simp only [if_neg hne]
    refine ⟨?_, ?_, ?_, ?_⟩
    · rw [if_neg (by omega), if_neg (by omega), if_neg (by omega), if_neg (by omega)]; exact h1
    · rw [if_neg (by omega), if_neg (by omega), if_neg (by omega), if_neg (by omega)]; exact h2
    · rw [if_neg (by omega), if_neg (by omega), if_neg (by omega), if_neg (by omega)]; exact h3
    · rw [if_neg (by omega), if_neg (by omega), if_neg (by omega), if_neg (by omega)]; exact h4
def RV (W : World) (r : Nat) (f : K.Vw) : Prop := ∃ C, W.heap[r]? = some (.cells C 32 (0, 0)) ∧ RVC C f
theorem RV.block {W W' : World} {r : Nat} {f : K.Vw} (h : RV W r f) (hb : W'.heap[r]? = W.heap[r]?) : RV W' r f := by
  obtain ⟨C, h1, h2⟩ := h
  exact ⟨C, by rw [hb]; exact h1, h2⟩
theorem RV.lt {W : World} {r : Nat} {f : K.Vw} (h : RV W r f) : r < W.heap.size := by
  obtain ⟨C, h1, h2⟩ := h
  exact lt_heap h1
theorem RV.grow {W W' : World} {r : Nat} {f : K.Vw} (h : RV W r f) (hb : Bl W W') : RV W' r f := h.block (Below.block hb _ h.lt)
theorem RV.off {W W' : World} {r b : Nat} {f : K.Vw} (h : RV W r f) (hb : Of1 b W W') (hn : r ≠ b) : RV W' r f := h.block (hb.block _ h.lt hn)
theorem RV.known {W : World} {r : Nat} {f : K.Vw} (h : RV W r f) (j : Nat) (hj : j < 7) : W.cell? ⟨r, 21 + j, none⟩ = some (.bool (f j).isSome) := by
  obtain ⟨C, h1, h2⟩ := h
  rw [Lib.cell_of_heap h1]; exact (h2.at' j hj).2.2.2
theorem RV.range {W : World} {r : Nat} {f : K.Vw} (h : RV W r f) (j : Nat) (hj : j < 7) : W.rangeAt r (j * 3) [.int .i64 (gv f j).1, .int .i64 (gv f j).2.1, .int .i64 (gv f j).2.2] := by
  obtain ⟨C, h1, h2⟩ := h
  obtain ⟨a1, a2, a3, a4⟩ := h2.at' j hj
  intro k v hv
  rw [Lib.cell_of_heap h1]
  match k, hv with
  | 0, hv => simp at hv; subst hv; exact a1
  | 1, hv => simp at hv; subst hv; exact a2
  | 2, hv => simp at hv; subst hv; exact a3
theorem RV.put {W : World} {r : Nat} {f : K.Vw} (h : RV W r f) (j : Nat) (hj : j < 7) (i s : Int) :
    RV ((((W.setCell ⟨r, j * 3, none⟩ (.int .i64 (j : Int))).setCell ⟨r, j * 3 + 1, none⟩ (.int .i64 i)).setCell ⟨r, j * 3 + 2, none⟩ (.int .i64 s)).setCell ⟨r, 21 + j, none⟩ (.bool true)) r (fun k => if k = (j : Int) then some ((j : Int), i, s) else f k) := by
  obtain ⟨C, h1, h2⟩ := h
  exact ⟨_, heap_setCell_row (heap_setCell_row (heap_setCell_row (heap_setCell_row h1))), h2.put j hj i s⟩
end Go.Proofs.Ytgnnlnhhikmneaa
