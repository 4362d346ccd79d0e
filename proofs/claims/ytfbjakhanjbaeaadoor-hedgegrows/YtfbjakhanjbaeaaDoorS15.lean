/- The law's own 'awake' is true: the digest of "abc", a press, a row, the order. -/
import Derived.Test.YtfbjakhanjbaeaaDoorS14
namespace Go.Proofs.YtfbjakhanjbaeaaDoor
open Go.RowKit
set_option linter.unusedVariables false
attribute [local go_sem ↓] zero27

/-- the program's tables are there, and what lay in memory when the call began lies there still -/
structure GB (w W : World) : Prop where
  g : GW W
  b : Below w.heap.size w W
theorem GB.refl {w : World} (h : GW w) : GB w w := ⟨h, Below.refl _ _⟩
theorem GB.step {w W W' : World} (h : GB w W) (hb : Below W.heap.size W W') : GB w W' := ⟨h.g.below hb h.g.z, h.b.trans (hb.mono h.b.size)⟩
theorem GB.alloc {w W : World} (h : GB w W) (o : Obj) : GB w (W.alloc o) := h.step ((Below.refl _ W).alloc (Nat.le_refl _) _)
theorem GB.drewN {w W : World} (h : GB w W) (n : Nat) : GB w (W.drewN n) := h.step (below_drewN (Below.refl _ _) n)
theorem cell_new1 (W : World) (v : Value) (T : TypeId) : (W.alloc (.cells #[v] T)).cell? ⟨W.heap.size, 0, none⟩ = some v := by
  rw [cell_of_row _ _ 0 #[v] T (0, 0) (heap_alloc_new _ _)]; rfl

theorem Of_g (t : List UInt8) {w W : World} (T : TypeId) (h : GB w W) (hl : t.length ≤ 576460752303423488) :
    Calls Tryd.prog 24 #[.slice (some ⟨W.heap.size, 0, none⟩) 1 1] (W.alloc (.cells #[.string (M.bs t)] T)) fun e w' => e = .returned (.agg (dg (S.sha t))) ∧ GB w w' := by
  refine (Of_one t W.heap.size 1 _ (h.alloc _).g (by simp) (cell_new1 _ _ _) hl).mono ?_
  rintro e w' ⟨rfl, hb⟩
  exact ⟨rfl, (h.alloc _).step hb⟩
theorem Row_g (t : List UInt8) {w W : World} (T : TypeId) (h : GB w W) (hl : t.length ≤ 1048576) :
    Calls Tryd.prog 26 #[.slice (some ⟨W.heap.size, 0, none⟩) 1 1] (W.alloc (.cells #[.string (M.bs t)] T)) fun e w' => e = .returned (.agg (dg (S.sha (M.rowB [t])))) ∧ GB w w' := by
  have hr := rowB_le [t] t.length (by simp)
  refine (Row_at [t] _ _ (h.alloc _).g (Or.inr ⟨W.heap.size, 0, 1, rfl, by simp, fun i u hu => ?_⟩) (by simp at hr; omega) (by simp)).mono ?_
  · rcases i with _ | i
    · simp at hu; subst hu; exact cell_new1 _ _ _
    · simp at hu
  · rintro e w' ⟨rfl, hb⟩
    exact ⟨rfl, (h.alloc _).step hb⟩
theorem Add2_g (t u : List UInt8) {w W : World} (T : TypeId) (h : GB w W) (hl : t.length + u.length ≤ 1048576) :
    Calls Tryd.prog 43 #[.pointer (some ⟨W.heap.size, 0, none⟩), .slice (some ⟨W.heap.size + 1, 0, none⟩) 2 2] ((W.alloc (.cells newC 95)).alloc (.cells #[.string (M.bs t), .string (M.bs u)] T)) fun e w' =>
      e = .returned (.pointer (some ⟨W.heap.size, 0, none⟩)) ∧ PrN W.heap.size (t ++ u) (t ++ u).length w' ∧ GB w w' := by
  have hz := h.g.z
  have h1 : (W.alloc (.cells newC 95)).heap.size = W.heap.size + 1 := by simp
  have hrow : ((W.alloc (.cells newC 95)).alloc (.cells #[.string (M.bs t), .string (M.bs u)] T)).heap[W.heap.size + 1]? = some (.cells #[.string (M.bs t), .string (M.bs u)] T (0, 0)) := by
    have := heap_alloc_new (W.alloc (.cells newC 95)) (.cells #[.string (M.bs t), .string (M.bs u)] T)
    rwa [h1] at this
  have hg := (h.alloc (.cells newC 95)).alloc (.cells #[.string (M.bs t), .string (M.bs u)] T)
  refine (Add_at W.heap.size [] [t, u] (some ⟨W.heap.size + 1, 0, none⟩) 2 _ ((newC_pr W).below ((Below.refl (W.heap.size + 1) _).alloc (by omega) _) (by omega)) hg.g.k hz (fun i v hv => ?_) (by simp; omega) (by simp)).mono ?_
  · refine ⟨W.heap.size + 1, 0, rfl, by simp, by omega, ?_⟩
    rw [cell_of_row _ _ _ _ _ _ hrow]
    rcases i with _ | _ | i
    · simp at hv; subst hv; rfl
    · simp at hv; subst hv; rfl
    · simp at hv
  · rintro e w' ⟨rfl, p1, p2⟩
    refine ⟨rfl, by simpa using p1, hg.g.off p2 hz, ?_⟩
    have hb2 : Below W.heap.size W ((W.alloc (.cells newC 95)).alloc (.cells #[.string (M.bs t), .string (M.bs u)] T)) := ((Below.refl _ W).alloc (Nat.le_refl _) _).alloc (by simp) _
    exact h.b.trans ((hb2.trans (p2.below (Nat.le_refl _) (by simp; omega))).mono h.b.size)
theorem Sum_g (b : Nat) (m : List UInt8) {w W : World} (h : GB w W) (hP : PrN b m m.length W) (hl : m.length ≤ 576460752303423488) :
    Calls Tryd.prog 44 #[.pointer (some ⟨b, 0, none⟩)] W fun e w' => e = .returned (.agg (dg (S.sha m))) ∧ GB w w' := by
  refine (Sum_at b m W hP h.g hl).mono ?_
  rintro e w' ⟨rfl, hb⟩
  exact ⟨rfl, h.step hb⟩
theorem Less_g (a b : List UInt8) {w W : World} (h : GB w W) (ha : a.length = 32) (hb : b.length = 32) :
    Calls Tryd.prog 25 #[.agg (dg a), .agg (dg b)] W fun e w' => e = .returned (.bool (ltB a b)) ∧ GB w w' := by
  refine (Less_at a b ha hb W).mono ?_
  rintro e w' ⟨rfl, hb⟩
  exact ⟨rfl, h.step hb⟩

def abcH : List UInt8 := [98, 97, 55, 56, 49, 54, 98, 102, 56, 102, 48, 49, 99, 102, 101, 97, 52, 49, 52, 49, 52, 48, 100, 101, 53, 100, 97, 101, 50, 50, 50, 51, 98, 48, 48, 51, 54, 49, 97, 51, 57, 54, 49, 55, 55, 97, 57, 99, 98, 52, 49, 48, 102, 102, 54, 49, 102, 50, 48, 48, 49, 53, 97, 100]
theorem hexAbc : hexB (S.sha [97, 98, 99]) = abcH := by rw [S.abc]; decide +kernel

end Go.Proofs.YtfbjakhanjbaeaaDoor
