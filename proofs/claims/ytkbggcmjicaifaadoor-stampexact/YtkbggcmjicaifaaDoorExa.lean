/- The reference's Row; the walk of the law StampExact. -/
import Derived.Test.YtkbggcmjicaifaaDoorX3
import Derived.Test.YtkbggcmjicaifaaDoorJoi
import Derived.Test.YtkbggcmjicaifaaDoorR1
import Derived.Test.YtkbggcmjicaifaaDoorS15
namespace Go.Proofs.YtkbggcmjicaifaaDoor
open Go.RowKit
set_option linter.unusedVariables false
attribute [local go_sem ↓] zero27

theorem TX.belowX {w w' : World} {a : Option Addr} {l : List (List UInt8)} (h : TX w a l) (hb : Below w.heap.size w w') : TX w' a l := fun i t ht => by
  obtain ⟨sb, off, h1, h2, h3⟩ := h i t ht
  exact ⟨sb, off, h1, Nat.lt_of_lt_of_le h2 hb.size, by rw [hb.cell (p := ⟨sb, off + i, none⟩) h2]; exact h3⟩
set_option maxHeartbeats 1000000 in
theorem rRow_at (l : List (List UInt8)) (a : Option Addr) (c : Nat) (w : World) (hv : Hid (TX w a l)) (hlen : (M.rowB l).length ≤ 1048576) (hl : l.length ≤ 140737488355328) :
    Calls Tryd.prog 13 #[.slice a l.length c] w fun e w' => e = .returned (.agg (dg (S.sha (M.rowB l)))) ∧ Below w.heap.size w w' := by
  have HB1 : Hid (Below w.heap.size w (w.alloc (.cells zero32 27))) := (Below.refl _ w).alloc (Nat.le_refl _) _
  have H10 : Hid ((w.alloc (.cells zero32 27)).heap.size = w.heap.size + 1) := by show _ = _; simp
  have HR0 : Hid ((w.alloc (.cells zero32 27)).heap[w.heap.size]? = some (.cells zero32 27 (0, 0))) := heap_alloc_new _ _
  have HC : Hid (Calls Tryd.prog 41 #[.slice a l.length c] (w.alloc (.cells zero32 27)) fun e w' => e = .returned (.string (M.bs (M.rowB l))) ∧ Below (w.heap.size + 1) (w.alloc (.cells zero32 27)) w') := by
    have := refRow_any a c l (w.alloc (.cells zero32 27)) (hv.out.belowX HB1.out) (by omega) hl
    rwa [H10.out] at this
  have CO : Hid (∀ W, Calls Tryd.prog 11 #[.string (M.bs (M.rowB l))] W fun e w' => e = .returned (.agg (dg (S.sha (M.rowB l)))) ∧ Below W.heap.size W w') := fun W => rOf _ hlen W
  go_enter Tryd.func13, Tryd.ntmps13
  go_wp2_with (first
    | (go_at_call 41; refine HC.out.mono ?_; clear HC hv; rintro e w1 ⟨rfl, g1⟩)
    | (go_at_call 11; refine (CO.out _).mono ?_; clear CO; rintro e w3 ⟨rfl, g4⟩)
    | refine wpList_store_row rfl 27 _ _ rfl w.heap.size _ rfl rfl 27 zero32 (by rw [g4.block _ (by have := g1.size; have := H10.out; omega), g1.block _ (by omega)]; exact HR0.out) (by rw [dg_size, S.sha_length]; exact info27) (by rw [dg_size, S.sha_length]; exact zero32_size) (dg_one _) ?_)
  have hsz1 : w.heap.size + 1 ≤ w1.heap.size := by have := g1.size; have := H10.out; omega
  have hf : w3.heap[w.heap.size]? = some (.cells zero32 27 (0, 0)) := by
    rw [g4.block _ (by omega), g1.block _ (by omega)]; exact HR0.out
  (try simp only [Exit.inBlock, Exit.then])
  refine bodyPost_ret (results_cell_row rfl _ _ _ 27 _ (0, 0) _ rfl (setRow_heap _ _ _ _ _ _ hf) und27 rfl (by rw [dg_size, S.sha_length]; exact info27)) rfl ?_
  refine ⟨rfl, below_setRow ?_ (Nat.le_refl _) _⟩
  exact HB1.out.trans ((g1.mono (by omega)).trans (g4.mono (by omega)))

set_option maxHeartbeats 1000000 in
theorem stampExact_no (a : Option Addr) (n cap : Nat) (w : World) (hG : GW w) (C : ∀ W, GB w W → Calls Tryd.prog 9 #[.slice a n cap] W fun e w' => e = .returned (.tuple #[.string ⟨#[]⟩, .bool false]) ∧ w' = W) :
    Calls Tryd.prog 3 #[.slice a n cap] w fun e w' => e = .returned (.bool true) ∧ Below w.heap.size w w' := by
  have HG : Hid (GB w w) := GB.refl hG
  have CJ : Hid (∀ W, GB w W → Calls Tryd.prog 9 #[.slice a n cap] W fun e w' => e = .returned (.tuple #[.string ⟨#[]⟩, .bool false]) ∧ w' = W) := C
  clear hG C
  go_enter Tryd.func3, Tryd.ntmps3
  go_wp2_with (first
    | (go_at_call 8; refine (awake_g HG).mono ?_; clear HG; rintro e w1 ⟨rfl, HG⟩)
    | (go_at_call 9; refine (CJ.out _ HG).mono ?_; rintro e w1 ⟨rfl, rfl⟩))
  go_ret
  exact ⟨rfl, HG.b⟩
set_option maxRecDepth 8000 in
set_option maxHeartbeats 2000000 in
theorem stampExact_walk (l : List (List UInt8)) (a : Option Addr) (cap : Nat) (w : World) (hS : Hid (Strs w.heap.size w (.slice a l.length cap) l)) (hv : Hid (TX w a l)) (hn : l.length ≤ 100) (hall : Hid (∀ t ∈ l, t.length ≤ 4096)) (hG : GW w) :
    Calls Tryd.prog 3 #[.slice a l.length cap] w fun e w' => e = .returned (.bool true) ∧ Below w.heap.size w w' := by
  have HG : Hid (GB w w) := GB.refl hG
  have hfl : l.flatten.length ≤ 409600 := by
    have := cat_len l l.length hall.out
    rw [cat_all] at this; omega
  have hrl : (M.rowB l).length ≤ 410509 := by have := rowB_le l 4096 hall.out; omega
  have HTX : Hid (∀ W, GB w W → TX W a l) := fun W g => fun i t ht => by
    obtain ⟨sb, off, h1, h2, h3⟩ := hv.out i t ht
    exact ⟨sb, off, h1, Nat.lt_of_lt_of_le h2 g.b.size, by rw [g.b.cell (p := ⟨sb, off + i, none⟩) h2]; exact h3⟩
  have CJ : Hid (∀ W, GB w W → Calls Tryd.prog 9 #[.slice a l.length cap] W fun e w' => e = .returned (.tuple #[.string (M.bs l.flatten), .bool true]) ∧ w' = W) := fun W g =>
    joined_loop l a cap W (HTX.out W g) hn l.length (Nat.le_refl _) (fun i u hi hu => hall.out u (List.mem_of_getElem? hu)) (fun u hu => by rw [List.getElem?_eq_none (Nat.le_refl _)] at hu; cases hu) _ (by show if _ then _ else _; rw [if_pos rfl])
  have CO : Hid (∀ W, GB w W → Calls Tryd.prog 10 #[.slice a l.length cap] W fun e w' => e = .returned (.agg (dg (S.sha l.flatten))) ∧ GB w w') := fun W g => by
    refine (Of_at l a cap W g.g (HTX.out W g) (by omega) (by omega)).mono ?_
    rintro e w' ⟨rfl, hb⟩
    exact ⟨rfl, g.step hb⟩
  have CR : Hid (∀ W, GB w W → Calls Tryd.prog 12 #[.slice a l.length cap] W fun e w' => e = .returned (.agg (dg (S.sha (M.rowB l)))) ∧ GB w w') := fun W g => by
    refine (Row_at l _ W g.g (hS.out.below g.b g.b.size) (by omega) (by omega)).mono ?_
    rintro e w' ⟨rfl, hb⟩
    exact ⟨rfl, g.step hb⟩
  have RO : Hid (∀ W, GB w W → Calls Tryd.prog 11 #[.string (M.bs l.flatten)] W fun e w' => e = .returned (.agg (dg (S.sha l.flatten))) ∧ GB w w') := fun W g => by
    refine (rOf _ (by omega) W).mono ?_
    rintro e w' ⟨rfl, hb⟩
    exact ⟨rfl, g.step hb⟩
  have RR : Hid (∀ W, GB w W → Calls Tryd.prog 13 #[.slice a l.length cap] W fun e w' => e = .returned (.agg (dg (S.sha (M.rowB l)))) ∧ GB w w') := fun W g => by
    refine (rRow_at l a cap W (HTX.out W g) (by omega) (by omega)).mono ?_
    rintro e w' ⟨rfl, hb⟩
    exact ⟨rfl, g.step hb⟩
  have heq := eqDg (S.sha l.flatten) (S.sha l.flatten) (S.sha_length _) (S.sha_length _)
  have heq2 := eqDg (S.sha (M.rowB l)) (S.sha (M.rowB l)) (S.sha_length _) (S.sha_length _)
  rw [decide_eq_true rfl] at heq heq2
  generalize S.sha l.flatten = s1 at *
  generalize S.sha (M.rowB l) = s2 at *
  generalize M.bs l.flatten = F at *
  clear hG hS hv hall HTX hfl hrl
  go_enter Tryd.func3, Tryd.ntmps3
  go_wp2_with (first
    | (go_at_call 8; refine (awake_g HG).mono ?_; clear HG; rintro e w1 ⟨rfl, HG⟩)
    | (go_at_call 9; refine (CJ.out _ HG).mono ?_; rintro e w1 ⟨rfl, rfl⟩)
    | (go_at_call 10; refine (CO.out _ HG).mono ?_; clear HG; rintro e w2 ⟨rfl, HG⟩)
    | (go_at_call 11; refine (RO.out _ HG).mono ?_; clear HG; rintro e w3 ⟨rfl, HG⟩)
    | (go_at_call 12; refine (CR.out _ HG).mono ?_; clear HG; rintro e w4 ⟨rfl, HG⟩)
    | (go_at_call 13; refine (RR.out _ HG).mono ?_; clear HG; rintro e w5 ⟨rfl, HG⟩))
  go_ret
  exact ⟨rfl, HG.b⟩
end Go.Proofs.YtkbggcmjicaifaaDoor
