/- The walk of the law StampBlocks. -/
import Derived.Test.YtfghjadhpajmeaaDoorS15
namespace Go.Proofs.YtfghjadhpajmeaaDoor
open Go.RowKit
set_option linter.unusedVariables false
attribute [local go_sem ↓] zero27

theorem Add1_g (b : Nat) (m t : List UInt8) {w W : World} (T : TypeId) (h : GB w W) (hP : PrN b m m.length W) (hb : w.heap.size ≤ b) (hl : m.length + t.length ≤ 576460752303423488) (h2 : 2 ≤ b) :
    Calls Tryd.prog 41 #[.pointer (some ⟨b, 0, none⟩), .slice (some ⟨W.heap.size, 0, none⟩) 1 1] (W.alloc (.cells #[.string (M.bs t)] T)) fun e w' =>
      e = .returned (.pointer (some ⟨b, 0, none⟩)) ∧ PrN b (m ++ t) (m ++ t).length w' ∧ GB w w' := by
  have hlt := hP.lt
  have hg := h.alloc (.cells #[.string (M.bs t)] T)
  refine (Add_at b m [t] (some ⟨W.heap.size, 0, none⟩) 1 _ (hP.below ((Below.refl W.heap.size _).alloc (Nat.le_refl _) _) hlt) hg.g.k h2 (fun i v hv => ?_) (by simp; omega) (by simp)).mono ?_
  · refine ⟨W.heap.size, 0, rfl, by simp, by omega, ?_⟩
    rcases i with _ | i
    · simp at hv; subst hv; exact cell_new1 _ _ _
    · simp at hv
  · rintro e w' ⟨rfl, p1, p2⟩
    refine ⟨rfl, by simpa using p1, hg.g.off p2 h2, ?_⟩
    exact hg.b.trans (p2.below hb (hg.b.size))
theorem New_g {w W : World} (h : GB w W) : Calls Tryd.prog 40 #[] W fun e w' => e = .returned (.pointer (some ⟨W.heap.size, 0, none⟩)) ∧ PrN W.heap.size [] 0 w' ∧ GB w w' := by
  refine (New_at W h.g).mono ?_
  rintro e w' ⟨rfl, rfl⟩
  exact ⟨rfl, newC_pr W, h.alloc _⟩
/-- Sum leaves the press as it was -/
theorem Sum_p (b : Nat) (m : List UInt8) {w W : World} (h : GB w W) (hP : PrN b m m.length W) (hl : m.length ≤ 576460752303423488) :
    Calls Tryd.prog 42 #[.pointer (some ⟨b, 0, none⟩)] W fun e w' => e = .returned (.agg (dg (S.sha m))) ∧ PrN b m m.length w' ∧ GB w w' := by
  refine (Sum_at b m W hP h.g hl).mono ?_
  rintro e w' ⟨rfl, hb⟩
  exact ⟨rfl, hP.below hb hP.lt, h.step hb⟩
/-- Of leaves a press as it was -/
theorem Of_p (t : List UInt8) (b : Nat) (m : List UInt8) {w W : World} (T : TypeId) (h : GB w W) (hP : PrN b m m.length W) (hl : t.length ≤ 576460752303423488) :
    Calls Tryd.prog 28 #[.slice (some ⟨W.heap.size, 0, none⟩) 1 1] (W.alloc (.cells #[.string (M.bs t)] T)) fun e w' => e = .returned (.agg (dg (S.sha t))) ∧ PrN b m m.length w' ∧ GB w w' := by
  have hlt := hP.lt
  refine (Of_one t W.heap.size 1 _ (h.alloc _).g (by simp) (cell_new1 _ _ _) hl).mono ?_
  rintro e w' ⟨rfl, hb⟩
  exact ⟨rfl, (hP.below ((Below.refl W.heap.size _).alloc (Nat.le_refl _) _) hlt).below hb (by simp; omega), (h.alloc _).step hb⟩
theorem conv1B (W : World) (c : UInt8) (x : Int) (T : TypeId) (hx : x = (c.toNat : Int)) : (convert 45 9 (.slice (some ⟨W.heap.size, 0, none⟩) 1 1)).run Tryd.prog (W.alloc (.cells #[.int .u8 x] T)) = .ok (.string (M.bs [c])) (W.alloc (.cells #[.int .u8 x] T)) := by
  subst hx
  have := run_convert_bytes_back (P := Tryd.prog) (W.alloc (.cells #[.int .u8 (c.toNat : Int)] T)) 45 9 5 ⟨W.heap.size, 0, none⟩ 1 [c] Tryd.underlying45 Tryd.underlying5 Tryd.underlying9 (fun j hj => by
    obtain rfl : j = 0 := by simpa using hj
    rw [Addr.add_mid]; exact cell_new1 _ _ _)
  exact this
theorem bs_app (a b : List UInt8) : M.bs a ++ M.bs b = M.bs (a ++ b) := by
  apply ByteArray.ext
  simp [M.bs]

end Go.Proofs.YtfghjadhpajmeaaDoor
