/- A build that is being read: recipe's draft in memory, and a source or an action more. -/
import Derived.Test.YtgjpcddjfmdobaaDoorL10
import Derived.Deep.AppendLies
import Derived.Deep.RegionLaw
namespace Go.Proofs.YtgjpcddjfmdobaaDoor
open Go.RowKit
set_option linter.unusedVariables false

theorem heap_setCell_rowR {w : World} {b i : Nat} {C : Array Value} {t : TypeId} {fr : Nat × Nat} {v : Value} (h : w.heap[b]? = some (.cells C t fr)) : (w.setCell ⟨b, i, none⟩ v).heap[b]? = some (.cells (C.setIfInBounds i v) t fr) := by
  show (w.heap.modify b _)[b]? = _
  rw [Array.getElem?_modify, if_pos rfl, h]; rfl
theorem heap_setCell_otherR {w : World} {b i k : Nat} {v : Value} (h : k ≠ b) : (w.setCell ⟨b, i, none⟩ v).heap[k]? = w.heap[k]? := by
  show (w.heap.modify b _)[k]? = _
  rw [Array.getElem?_modify, if_neg (by omega)]
theorem ownsRow_setC {B n k g i : Nat} {e : TypeId} {v : Value} {xs : List Value} {w : World} (h : w.ownsRow B e k v n xs) (hg : g < B) (u : Value) : (w.setCell ⟨g, i, none⟩ u).ownsRow B e k v n xs := by
  obtain ⟨h0, h1 | ⟨g', cap, cur, h1, h2, h3, h4⟩⟩ := h
  · exact ⟨h0, Or.inl h1⟩
  · exact ⟨h0, Or.inr ⟨g', cap, cur, h1, h2, by rw [heap_setCell_otherR (by omega)]; exact h3, h4⟩⟩
/-- a row of another type is not touched where a row grows -/
theorem ownsRow_grown {B n k n' k' : Nat} {e e' : TypeId} {v v' : Value} {xs xs' : List Value} {w w' : World} (h : w.ownsRow B e k v n xs) (h' : w.ownsRow B e' k' v' n' xs') (he : e ≠ e') (hg : w.grownBy w' v'.ownBlock) : w'.ownsRow B e k v n xs := by
  obtain ⟨h0, h1 | ⟨g, cap, cur, h1, h2, h3, h4⟩⟩ := h
  · exact ⟨h0, Or.inl h1⟩
  · refine ⟨h0, Or.inr ⟨g, cap, cur, h1, h2, ?_, h4⟩⟩
    rw [hg.block g (TA.lt_heap h3) ?_]
    · exact h3
    · intro hh
      obtain ⟨_, ⟨rfl, _⟩ | ⟨g2, cap2, cur2, rfl, _, h5, _⟩⟩ := h'
      · cases hh
      · simp only [Value.ownBlock, Option.some.injEq] at hh
        subst hh
        rw [h3] at h5
        simp only [Option.some.injEq, Obj.cells.injEq] at h5
        exact he h5.2.1

/-- actions' cells -/
def flatA (A : List RC.Ac) (xs : List (Option Addr × Nat)) : List Value := (List.zipWith (fun t p => acL t p.1 p.2) A xs).flatten
theorem flatA_snoc (A : List RC.Ac) (xs : List (Option Addr × Nat)) (t : RC.Ac) (p : Option Addr × Nat) (h : xs.length = A.length) : flatA (A ++ [t]) (xs ++ [p]) = flatA A xs ++ acL t p.1 p.2 := by
  unfold flatA
  rw [List.zipWith_append (by omega)]
  simp
theorem flatA_at : ∀ (A : List RC.Ac) (xs : List (Option Addr × Nat)) (i : Nat) (t : RC.Ac) (p : Option Addr × Nat), A[i]? = some t → xs[i]? = some p → ∀ j, j < 3 → (flatA A xs)[i * 3 + j]? = (acL t p.1 p.2)[j]?
  | [], _, i, t, p, h, _, j, hj => by simp at h
  | _ :: _, [], i, t, p, _, h, j, hj => by simp at h
  | u :: A, q :: xs, 0, t, p, h, h', j, hj => by
    simp at h h'; subst h; subst h'
    simp only [flatA, List.zipWith_cons_cons, List.flatten_cons, Nat.zero_mul, Nat.zero_add]
    rw [List.getElem?_append_left (by simp [acL]; omega)]
  | u :: A, q :: xs, i + 1, t, p, h, h', j, hj => by
    have ih := flatA_at A xs i t p (by simpa using h) (by simpa using h') j hj
    simp only [flatA, List.zipWith_cons_cons, List.flatten_cons] at ih ⊢
    rw [List.getElem?_append_right (by simp [acL]; omega)]
    rw [show (i + 1) * 3 + j - (acL u q.1 q.2).length = i * 3 + j by simp [acL]; omega]
    exact ih
/-- a draft in memory: its block b, the rows above N, nothing that lay in w has turned -/
structure DX (w : World) (N b : Nat) (g : RC.Gr) (vs va : Value) (xs : List (Option Addr × Nat)) (W : World) : Prop where
  blk : W.heap[b]? = some (.cells #[vs, va] 59 (0, 0))
  s : W.ownsRow N 9 1 vs g.1.length (g.1.map encS)
  a : W.ownsRow N 42 3 va g.2.length (flatA g.2 xs)
  len : xs.length = g.2.length
  ins : ∀ (i : Nat) (t : RC.Ac) (x : Option Addr) (c : Nat), g.2[i]? = some t → xs[i]? = some (x, c) → W.ownsRow N 9 1 (.slice x t.2.1.length c) t.2.1.length (t.2.1.map encS)
  lt : b < N
  sz : N ≤ W.heap.size
  wb : w.heap.size ≤ b
  bl : Bl w W
theorem DX.step {w : World} {N b : Nat} {g : RC.Gr} {vs va : Value} {xs : List (Option Addr × Nat)} {W W' : World} (h : DX w N b g vs va xs W) (hb : Bl W W') : DX w N b g vs va xs W' :=
  ⟨by rw [Below.block hb b (TA.lt_heap h.blk)]; exact h.blk, ownsRow_belowT h.s hb, ownsRow_belowT h.a hb, h.len, fun i t x c h1 h2 => ownsRow_belowT (h.ins i t x c h1 h2) hb, h.lt, Nat.le_trans h.sz (Below.size hb), h.wb, h.bl.step hb⟩
theorem own_shape {N n k : Nat} {e : TypeId} {v : Value} {xs : List Value} {W : World} (h : W.ownsRow N e k v n xs) : ∃ a c, v = .slice a n c := by
  obtain ⟨_, ⟨rfl, rfl⟩ | ⟨g, cap, cur, rfl, _⟩⟩ := h
  · exact ⟨none, 0, rfl⟩
  · exact ⟨_, _, rfl⟩
theorem DX.cs {w : World} {N b : Nat} {g : RC.Gr} {vs va : Value} {xs : List (Option Addr × Nat)} {W : World} (h : DX w N b g vs va xs W) : W.cell? ⟨b, 0, none⟩ = some vs := by rw [Lib.cell_of_heap h.blk]; rfl
theorem DX.ca {w : World} {N b : Nat} {g : RC.Gr} {vs va : Value} {xs : List (Option Addr × Nat)} {W : World} (h : DX w N b g vs va xs W) : W.cell? ⟨b, 1, none⟩ = some va := by rw [Lib.cell_of_heap h.blk]; rfl
theorem DX.fz {w : World} {N b : Nat} {g : RC.Gr} {vs va : Value} {xs : List (Option Addr × Nat)} {W : World} (h : DX w N b g vs va xs W) (i : Nat) : W.frozen? ⟨b, i, none⟩ = false := by simp [World.frozen?, h.blk]
/-- a row grew, and the draft's field was set to it -/
theorem DX.appS {w : World} {N b : Nat} {S : List (List UInt8)} {vs va : Value} {W W1 w8 : World} (h : DX w N b (S, []) vs va [] W) (hb : Bl W W1) (n : List UInt8) (v' : Value) (ho : w8.ownsRow N 9 1 v' (S.length + 1) (S.map encS ++ [encS n])) (hg : W1.grownBy w8 vs.ownBlock) : DX w N b (S ++ [n], []) v' va [] (w8.setCell ⟨b, 0, none⟩ v') := by
  have h1 := h.step hb
  have hne : some b ≠ vs.ownBlock := fun e => by have := (TA.owns_ge h1.s e.symm).1; have := h.lt; omega
  have hblk : w8.heap[b]? = some (.cells #[vs, va] 59 (0, 0)) := by rw [hg.block b (TA.lt_heap h1.blk) hne]; exact h1.blk
  refine ⟨by rw [heap_setCell_rowR hblk]; rfl, ?_, ?_, rfl, fun i t x c h1 => by simp at h1, h.lt, ?_, h.wb, ?_⟩
  · have := ownsRow_setC (i := 0) ho h.lt v'
    simpa using this
  · have := ownsRow_grown h1.a h1.s (by decide) hg
    exact ownsRow_setC this h.lt v'
  · have h2 := hg.size; have h3 := h1.sz
    have e : (w8.setCell ⟨b, 0, none⟩ v').heap.size = w8.heap.size := by simp
    omega
  · have hz : w.heap.size ≤ W1.heap.size := Below.size h1.bl
    have : Below w.heap.size w w8 := Below.grown h1.bl hg hz (fun k hk => by have := (TA.owns_ge h1.s hk).1; have := h.lt; have := h.wb; omega)
    exact this.setCell h.wb _
theorem DX.appA {w : World} {N b : Nat} {S : List (List UInt8)} {A : List RC.Ac} {vs va : Value} {xs : List (Option Addr × Nat)} {W W1 w8 : World} (h : DX w N b (S, A) vs va xs W) (hb : Bl W W1) (t : RC.Ac) (x : Option Addr) (c : Nat) (hi : W.ownsRow N 9 1 (.slice x t.2.1.length c) t.2.1.length (t.2.1.map encS)) (v' : Value) (ho : w8.ownsRow N 42 3 v' (A.length + 1) (flatA A xs ++ acL t x c)) (hg : W1.grownBy w8 va.ownBlock) : DX w N b (S, A ++ [t]) vs v' (xs ++ [(x, c)]) (w8.setCell ⟨b, 1, none⟩ v') := by
  have h1 := h.step hb
  have hlen := h.len
  simp only [] at hlen
  have hne : some b ≠ va.ownBlock := fun e => by have := (TA.owns_ge h1.a e.symm).1; have := h.lt; omega
  have hblk : w8.heap[b]? = some (.cells #[vs, va] 59 (0, 0)) := by rw [hg.block b (TA.lt_heap h1.blk) hne]; exact h1.blk
  have hne2 : (9 : TypeId) ≠ 42 := by decide
  refine ⟨by rw [heap_setCell_rowR hblk]; rfl, ?_, ?_, by simp [hlen], fun i u y d h2 h3 => ?_, h.lt, ?_, h.wb, ?_⟩
  · exact ownsRow_setC (ownsRow_grown h1.s h1.a hne2 hg) h.lt v'
  · have := ownsRow_setC (i := 1) ho h.lt v'
    simp only []
    rw [flatA_snoc A xs t (x, c) hlen, List.length_append]
    exact this
  · simp only [] at h2
    refine ownsRow_setC (ownsRow_grown ?_ h1.a hne2 hg) h.lt v'
    rcases Nat.lt_trichotomy i A.length with hlt | heq | hgt
    · rw [List.getElem?_append_left hlt] at h2
      rw [List.getElem?_append_left (by omega)] at h3
      exact h1.ins i u y d h2 h3
    · subst heq
      rw [List.getElem?_append_right (Nat.le_refl _)] at h2
      rw [List.getElem?_append_right (by omega)] at h3
      simp [hlen] at h2 h3
      subst h2
      obtain ⟨rfl, rfl⟩ := h3
      exact ownsRow_belowT hi hb
    · rw [List.getElem?_eq_none (by simp; omega)] at h2; simp at h2
  · have h2 := hg.size; have h3 := h1.sz
    have e : (w8.setCell ⟨b, 1, none⟩ v').heap.size = w8.heap.size := by simp
    omega
  · have hz : w.heap.size ≤ W1.heap.size := Below.size h1.bl
    have : Below w.heap.size w w8 := Below.grown h1.bl hg hz (fun k hk => by have := (TA.owns_ge h1.a hk).1; have := h.lt; have := h.wb; omega)
    exact this.setCell h.wb _
end Go.Proofs.YtgjpcddjfmdobaaDoor
