/- What sap.Row answers, for every row of texts: its bytes (as long as they are at most 2^47). -/
import Derived.Test.YthpdmeoljdmncaaW3
namespace Go.Proofs.Ythpdmeoljdmncaa
open Go.RowKit
set_option linter.unusedVariables false

/-- a value that is the texts l, in memory below block B -/
def Strs (B : Nat) (w : World) (v : Value) (l : List (List UInt8)) : Prop :=
  (l = [] ∧ ∃ a c, v = .slice a 0 c) ∨
  ∃ b off cap, v = .slice (some ⟨b, off, none⟩) l.length cap ∧ b < B ∧ ∀ i t, l[i]? = some t → w.cell? ⟨b, off + i, none⟩ = some (.string (M.bs t))
theorem Strs.below {B B' : Nat} {w w' : World} {v : Value} {l : List (List UInt8)} (h : Strs B w v l) (hb : Below B w w') (hB : B ≤ B') : Strs B' w' v l := by
  rcases h with h | ⟨b, off, cap, h1, h2, h3⟩
  · exact Or.inl h
  · exact Or.inr ⟨b, off, cap, h1, by omega, fun i t ht => by rw [hb.cell (p := ⟨b, off + i, none⟩) h2]; exact h3 i t ht⟩

theorem ownsRow_below {B : Nat} {e : TypeId} {v : Value} {n : Nat} {xs : List Value} {w w' : World} (h : w.ownsRow B e 1 v n xs) (hb : Below w.heap.size w w') : w'.ownsRow B e 1 v n xs := by
  obtain ⟨h0, h1 | ⟨g, cap, cur, h1, h2, h3, h4⟩⟩ := h
  · exact ⟨h0, Or.inl h1⟩
  · have hg : g < w.heap.size := by
      rcases Nat.lt_or_ge g w.heap.size with h | h
      · exact h
      · rw [Array.getElem?_eq_none h] at h3; simp at h3
    exact ⟨h0, Or.inr ⟨g, cap, cur, h1, h2, by rw [hb.block g hg]; exact h3, h4⟩⟩
theorem builder_below {T e : TypeId} {B b : Nat} {bs : List Value} {w w' : World} (h : Lib.IsBuilder T e B b bs w) (hb : Below w.heap.size w w') : Lib.IsBuilder T e B b bs w' := by
  have go : ∀ p, Lib.BuilderAt T e B b p bs w → Lib.BuilderAt T e B b p bs w' := by
    intro p h
    have hlt := h.lt
    obtain ⟨h1, v, h2, h3, h4⟩ := h
    exact ⟨h1, v, by rw [hb.block b hlt]; exact h2, ownsRow_below h3 hb, h4⟩
  rcases h with h | h
  · exact Or.inl (go _ h)
  · exact Or.inr (go _ h)

theorem isB_lt {T e : TypeId} {B b : Nat} {bs : List Value} {w : World} (h : Lib.IsBuilder T e B b bs w) : b < w.heap.size := by
  rcases h with h | h
  · exact h.lt
  · exact h.lt

theorem writeString (B b : Nat) (pre : List UInt8) (t : List UInt8) (w : World) (h : Lib.IsBuilder 80 5 B b (Lib.byteCells pre) w) (hlen : pre.length + t.length ≤ 140737488355328) (hBw : B ≤ w.heap.size) :
    Calls Try.prog 52 #[.pointer (some ⟨b, 0, none⟩), .string (M.bs t)] w fun e w' => e = .returned (.tuple #[.int .i64 t.length, .nilIface]) ∧ Lib.IsBuilder 80 5 B b (Lib.byteCells (pre ++ t)) w' ∧ Below B w w' := by
  refine (Try.Builder_WriteString B b (Lib.byteCells pre) (M.bs t) w h (by rw [Lib.byteCells_length, M.bs_size]; exact hlen) hBw).mono ?_
  rintro e w' ⟨rfl, h1, h2⟩
  refine ⟨by rw [M.bs_size], Or.inr ?_, h2⟩
  rw [Lib.byteCells_append]
  exact h1

/-- the bytes that are written when k texts are -/
def pre (l : List (List UInt8)) (k : Nat) : List UInt8 := M.numB l.length ++ M.textsB (l.take k)
theorem pre_zero (l : List (List UInt8)) : pre l 0 = M.numB l.length := by simp [pre, M.textsB]
theorem pre_all (l : List (List UInt8)) : pre l l.length = M.rowB l := by simp [pre, M.rowB]
theorem pre_succ (l : List (List UInt8)) (k : Nat) (t : List UInt8) (h : l[k]? = some t) : pre l (k + 1) = (pre l k ++ M.numB t.length) ++ t := by
  unfold pre
  rw [List.take_add_one, h]
  simp [M.textsB, M.textB]
theorem pre_le (l : List (List UInt8)) (k : Nat) : (pre l k).length ≤ (M.rowB l).length := by
  have e : M.textsB l = M.textsB (l.take k) ++ M.textsB (l.drop k) := by
    unfold M.textsB
    rw [← List.flatten_append, ← List.map_append, List.take_append_drop]
  unfold pre M.rowB
  rw [e]
  simp only [List.length_append]
  omega

end Go.Proofs.Ythpdmeoljdmncaa
