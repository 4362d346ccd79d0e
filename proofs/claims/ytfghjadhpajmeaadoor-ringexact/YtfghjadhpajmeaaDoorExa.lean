/- The reference's Row; the walk of the law StampExact. -/
import Derived.Test.YtfghjadhpajmeaaDoorX3
import Derived.Test.YtfghjadhpajmeaaDoorJoi
import Derived.Test.YtfghjadhpajmeaaDoorR1
import Derived.Test.YtfghjadhpajmeaaDoorS15
namespace Go.Proofs.YtfghjadhpajmeaaDoor
open Go.RowKit
set_option linter.unusedVariables false
attribute [local go_sem ↓] zero27

theorem TX.belowX {w w' : World} {a : Option Addr} {l : List (List UInt8)} (h : TX w a l) (hb : Below w.heap.size w w') : TX w' a l := fun i t ht => by
  obtain ⟨sb, off, h1, h2, h3⟩ := h i t ht
  exact ⟨sb, off, h1, Nat.lt_of_lt_of_le h2 hb.size, by rw [hb.cell (p := ⟨sb, off + i, none⟩) h2]; exact h3⟩
set_option maxHeartbeats 1000000 in
theorem rRow_at (l : List (List UInt8)) (a : Option Addr) (c : Nat) (w : World) (hv : Hid (TX w a l)) (hlen : (M.rowB l).length ≤ 1048576) (hl : l.length ≤ 140737488355328) :
    Calls Tryd.prog 20 #[.slice a l.length c] w fun e w' => e = .returned (.agg (dg (S.sha (M.rowB l)))) ∧ Below w.heap.size w w' := by
  have HB1 : Hid (Below w.heap.size w (w.alloc (.cells zero32 23))) := (Below.refl _ w).alloc (Nat.le_refl _) _
  have H10 : Hid ((w.alloc (.cells zero32 23)).heap.size = w.heap.size + 1) := by show _ = _; simp
  have HR0 : Hid ((w.alloc (.cells zero32 23)).heap[w.heap.size]? = some (.cells zero32 23 (0, 0))) := heap_alloc_new _ _
  have HC : Hid (Calls Tryd.prog 32 #[.slice a l.length c] (w.alloc (.cells zero32 23)) fun e w' => e = .returned (.string (M.bs (M.rowB l))) ∧ Below (w.heap.size + 1) (w.alloc (.cells zero32 23)) w') := by
    have := refRow_any a c l (w.alloc (.cells zero32 23)) (hv.out.belowX HB1.out) (by omega) hl
    rwa [H10.out] at this
  have CO : Hid (∀ W, Calls Tryd.prog 31 #[.string (M.bs (M.rowB l))] W fun e w' => e = .returned (.agg (dg (S.sha (M.rowB l)))) ∧ Below W.heap.size W w') := fun W => rOf _ hlen W
  go_enter Tryd.func20, Tryd.ntmps20
  go_wp2_with (first
    | (go_at_call 32; refine HC.out.mono ?_; clear HC hv; rintro e w1 ⟨rfl, g1⟩)
    | (go_at_call 31; refine (CO.out _).mono ?_; clear CO; rintro e w3 ⟨rfl, g4⟩)
    | refine wpList_store_row rfl 23 _ _ rfl w.heap.size _ rfl rfl 23 zero32 (by rw [g4.block _ (by have := g1.size; have := H10.out; omega), g1.block _ (by omega)]; exact HR0.out) (by rw [dg_size, S.sha_length]; exact info27) (by rw [dg_size, S.sha_length]; exact zero32_size) (dg_one _) ?_)
  have hsz1 : w.heap.size + 1 ≤ w1.heap.size := by have := g1.size; have := H10.out; omega
  have hf : w3.heap[w.heap.size]? = some (.cells zero32 23 (0, 0)) := by
    rw [g4.block _ (by omega), g1.block _ (by omega)]; exact HR0.out
  (try simp only [Exit.inBlock, Exit.then])
  refine bodyPost_ret (results_cell_row rfl _ _ _ 23 _ (0, 0) _ rfl (setRow_heap _ _ _ _ _ _ hf) und27 rfl (by rw [dg_size, S.sha_length]; exact info27)) rfl ?_
  refine ⟨rfl, below_setRow ?_ (Nat.le_refl _) _⟩
  exact HB1.out.trans ((g1.mono (by omega)).trans (g4.mono (by omega)))

end Go.Proofs.YtfghjadhpajmeaaDoor
