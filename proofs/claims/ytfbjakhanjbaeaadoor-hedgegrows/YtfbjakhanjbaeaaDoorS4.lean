/- A press in memory: its block's cells; what copying a text into it, and clearing a part of it, leave. -/
import Derived.Test.YtfbjakhanjbaeaaDoorS3
import Derived.Test.YtfbjakhanjbaeaaDoorMath
import Derived.Lib.SliceRun
namespace Go.Proofs.YtfbjakhanjbaeaaDoor
open Go.RowKit
set_option linter.unusedVariables false

theorem setCells_row (b : Nat) (T : TypeId) (fr : Nat × Nat) : ∀ (vs : List Value) (o : Nat) (w : World) (C : Array Value), w.heap[b]? = some (.cells C T fr) →
    ∃ D, (w.setCells b o vs).heap[b]? = some (.cells D T fr) ∧ D.size = C.size ∧ (∀ j, (j < o ∨ o + vs.length ≤ j) → D[j]? = C[j]?) ∧ (∀ j, j < vs.length → o + j < C.size → D[o + j]? = vs[j]?) ∧ Off b w (w.setCells b o vs)
  | [], o, w, C, h => ⟨C, h, rfl, fun _ _ => rfl, fun j hj => by simp at hj, Off.refl _ _⟩
  | v :: r, o, w, C, h => by
    obtain ⟨D, h1, h2, h3, h4, h5⟩ := setCells_row b T fr r (o + 1) (w.setCell ⟨b, o, none⟩ v) _ (heap_setCell_row h)
    refine ⟨D, h1, by rw [h2]; simp, fun j hj => ?_, fun j hj hC => ?_, ((Off.refl b w).setCell o v).trans h5⟩
    · simp only [List.length_cons] at hj
      rw [h3 j (by omega), Array.getElem?_setIfInBounds_ne (by omega)]
    · rcases j with _ | j
      · rw [Nat.add_zero] at hC ⊢
        rw [h3 o (by omega), Array.getElem?_setIfInBounds_self_of_lt hC]; rfl
      · simp only [List.length_cons] at hj
        rw [show o + (j + 1) = o + 1 + j by omega, h4 j (by omega) (by simp; omega)]; rfl

theorem und40 : Tryd.prog.underlying 64 = some (.slice 5) := by kernel_rfl
theorem copy_str (W : World) (ty : TypeId) (b o dLen dCap n : Nat) (s : List UInt8) (hn : Nat.min s.length dLen = n) (ht : W.there b o n) :
    (Builtin.copy_ #[64, 9] ty #[.slice (some ⟨b, o, none⟩) dLen dCap, .string (M.bs s)]).run Tryd.prog W = .ok (.int .i64 n) (W.setCells b o ((s.take n).map vb)) := by
  have hlen : ((s.take n).map vb).length = n := by
    have : n ≤ s.length := by rw [← hn]; exact Nat.min_le_left _ _
    simp; omega
  have hs := run_storeCells_cells (P := Tryd.prog) b o ((s.take n).map vb) 0 W (fun j hj => by simpa using (ht j (by omega)).1) (fun j hj => by simpa using (ht j (by omega)).2)
    (fun v hv => by obtain ⟨x, _, rfl⟩ := List.mem_map.1 hv; rfl)
  simp only [Nat.add_zero] at hs
  have hn' : Nat.min (M.bs s).size dLen = n := by rw [M.bs_size]; exact hn
  simp [Builtin.copy_, Builtin.lenOf, Builtin.firstCells, run_underlying und40, Tryd.sizeOf5, hn', goInt, go_sem]
  rw [List.map_take] at hs
  show ((Sem.run Tryd.prog (storeCells ⟨b, o, none⟩ (List.take n (List.map vb (M.bs s).data.toList))) W).andThen _) = _
  rw [M.bs_toList, hs]
  rfl

/-- a press's block: the state s, the 64 bytes rest, held and size -/
structure PC (C : Array Value) (s : S.St) (rest : List UInt8) (h n : Nat) : Prop where
  size : C.size = 74
  st : AtSt C s
  rest : ∀ i, i < 64 → C[8 + i]? = some (vb (S.by8 rest i))
  held : C[72]? = some (.int .i64 (h : Int))
  all : C[73]? = some (.int .i64 (n : Int))
end Go.Proofs.YtfbjakhanjbaeaaDoor
