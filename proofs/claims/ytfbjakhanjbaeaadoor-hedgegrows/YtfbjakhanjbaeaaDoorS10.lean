/- What (*Press).Sum answers: the digest of all that came; the press stays as it was. -/
import Derived.Test.YtfbjakhanjbaeaaDoorS9
namespace Go.Proofs.YtfbjakhanjbaeaaDoor
open Go.RowKit
set_option linter.unusedVariables false
attribute [local go_sem ↓] zero27

theorem PC.one {C : Array Value} {s : S.St} {rest : List UInt8} {h N : Nat} (p : PC C s rest h N) : C.all (·.oneCell') = true := by
  rw [Array.all_eq_true]
  intro i hi
  have e : C[i]? = some C[i] := Array.getElem?_eq_getElem hi
  have hs := p.size
  by_cases h1 : i < 8
  · rw [p.st i h1] at e; rw [← Option.some.inj e]; rfl
  · by_cases h2 : i < 72
    · have e' := p.rest (i - 8) (by omega)
      rw [show 8 + (i - 8) = i by omega, e] at e'
      rw [Option.some.inj e']; rfl
    · by_cases h3 : i = 72
      · subst h3; rw [p.held] at e; rw [← Option.some.inj e]; rfl
      · obtain rfl : i = 73 := by omega
        rw [p.all] at e; rw [← Option.some.inj e]; rfl
theorem toL_get (s : S.St) (j : Nat) (hj : j < 8) : (s.toL.map vw)[j]? = some (vw (s.toL.getD j 0)) := by
  rcases j with _ | _ | _ | _ | _ | _ | _ | _ | j
  all_goals first | rfl | omega
theorem atSt_arr (s : S.St) : AtSt (s.toL.map vw).toArray s := fun i hi => by rw [List.getElem?_toArray]; exact toL_get s i hi
theorem atSt_range {w : World} {b : Nat} {D : Array Value} {T : TypeId} {s : S.St} (hD : w.heap[b]? = some (.cells D T (0, 0))) (hs : AtSt D s) : w.rangeAt b 0 (s.toL.map vw) := fun j v hv => by
  have hj : j < 8 := (List.getElem?_eq_some_iff.1 hv).1
  rw [Nat.zero_add, cell_of_row _ _ j D _ _ hD, hs j hj, ← hv, toL_get s j hj]
theorem und54 : ∃ fs, Tryd.prog.underlying 95 = some (.struct fs) := ⟨_, Tryd.underlying95⟩
theorem info54 : (Tryd.prog.info? 95).map (·.size) = some 74 := by kernel_rfl
theorem zero74_size : zero74.size = 74 := by simp [zero74]

set_option maxHeartbeats 1600000 in
theorem Sum_at (b : Nat) (m : List UInt8) (w : World) (hP : Hid (PrN b m m.length w)) (hG : Hid (GW w)) (hlen : m.length ≤ 576460752303423488) :
    Calls Tryd.prog 44 #[.pointer (some ⟨b, 0, none⟩)] w fun e w' => e = .returned (.agg (dg (S.sha m))) ∧ Below w.heap.size w w' := by
  obtain ⟨C, rest, hC, hPC, hrest, hr64⟩ := hP.out
  have hbw : b < w.heap.size := by
    rcases Nat.lt_or_ge b w.heap.size with h | h
    · exact h
    · rw [Array.getElem?_eq_none h] at hC; simp at hC
  have hz2 := hG.out.z
  obtain ⟨fs, hu54⟩ := und54
  have HL : Hid ((w.alloc (.cells zero32 24)).heap[b]? = some (.cells C 95 (0, 0))) := by show _ = _; rw [Below.heap_alloc _ _ _ hbw]; exact hC
  have hsz := hPC.size
  have hone := hPC.one
  have hz := zero54
  have hzs := zero74_size
  have h10 : (w.alloc (.cells zero32 24)).heap.size = w.heap.size + 1 := by simp
  have HR : Hid (((w.alloc (.cells zero32 24)).alloc (.cells zero74 95)).heap[w.heap.size + 1]? = some (.cells zero74 95 (0, 0))) := by
    have := heap_alloc_new (w.alloc (.cells zero32 24)) (.cells zero74 95)
    rw [h10] at this; exact this
  have hrow : ((w.alloc (.cells zero32 24)).alloc (.cells zero74 95)).setRow (w.heap.size + 1) C = (w.alloc (.cells zero32 24)).alloc (.cells C 95) := by
    rw [← h10]; exact World.setRow_alloc_new _ _ _ _
  have hB2 : Below w.heap.size w ((w.alloc (.cells zero32 24)).alloc (.cells C 95)) := ((Below.refl _ w).alloc (Nat.le_refl _) _).alloc (by simp) _
  have hP2 : PrN (w.heap.size + 1) m m.length ((w.alloc (.cells zero32 24)).alloc (.cells C 95)) := by
    refine ⟨C, rest, ?_, hPC, hrest, hr64⟩
    have := heap_alloc_new (w.alloc (.cells zero32 24)) (.cells C 95)
    rw [h10] at this; exact this
  have hR0 : ((w.alloc (.cells zero32 24)).alloc (.cells C 95)).heap[w.heap.size]? = some (.cells zero32 24 (0, 0)) := by
    rw [Below.heap_alloc _ _ _ (by simp)]; exact heap_alloc_new _ _
  have hsz2 : ((w.alloc (.cells zero32 24)).alloc (.cells C 95)).heap.size = w.heap.size + 2 := by simp
  have CF := fin (w.heap.size + 1) m _ hP2 (hG.out.below hB2 hz2).k (by omega) (by rw [hsz2]; omega) hlen
  generalize hW2 : (w.alloc (.cells zero32 24)).alloc (.cells C 95) = W2 at *
  have HCF : Hid (Calls Tryd.prog 59 #[.pointer (some ⟨w.heap.size + 1, 0, none⟩)] W2 fun e w' => e = .returned (.tuple #[]) ∧
      (∃ D, w'.heap[w.heap.size + 1]? = some (.cells D 95 (0, 0)) ∧ D.size = 74 ∧ AtSt D (S.stN (S.pad m) ((S.pad m).length / 64))) ∧ Off (w.heap.size + 1) W2 w') := CF
  have HB2 : Hid (Below w.heap.size w W2) := hB2
  have HR0 : Hid (W2.heap[w.heap.size]? = some (.cells zero32 24 (0, 0))) := hR0
  have HS2 : Hid (W2.heap.size = w.heap.size + 2) := hsz2
  clear CF hB2 hP2 hR0 hsz2 hW2 hrest hr64 hPC hC h10
  go_enter Tryd.func44, Tryd.ntmps44
  go_wp2_with (first
    | refine wpList_load_row rfl 95 _ rfl _ rfl 95 C (0, 0) _ HL.out hu54 rfl (by rw [hsz]; exact info54) ?_
    | (refine wpList_store_row rfl 95 _ _ rfl _ C rfl rfl 95 zero74 HR.out (by rw [hsz]; exact info54) (by rw [hzs, hsz]) hone ?_; rw [hrow])
    | (go_at_call 59; refine HCF.out.mono ?_; clear HCF HR HL hrow; rintro e w3 ⟨rfl, ⟨D, g1, g2, g3⟩, g4⟩)
    | refine wpList_load_mid rfl 92 _ rfl (w.heap.size + 1) 0 rfl _ _ (atSt_range g1 g3) und52 rfl info52 ?_
    | (go_at_call 60; refine (digest (S.stN (S.pad m) ((S.pad m).length / 64)) _ rfl (atSt_arr _) _).mono ?_; rintro e w4 ⟨rfl, HB4⟩)
    | refine wpList_store_row rfl 24 _ _ rfl w.heap.size _ rfl rfl 24 zero32 (by rw [HB4.block _ (by have := g4.size; have := HS2.out; omega), g4.block _ (by have := HS2.out; omega) (by omega)]; exact HR0.out) (by rw [dg_size, S.digB_length]; exact info27) (by rw [dg_size, S.digB_length]; exact zero32_size) (dg_one _) ?_)
  have hf : w4.heap[w.heap.size]? = some (.cells zero32 24 (0, 0)) := by
    rw [HB4.block _ (by have := g4.size; have := HS2.out; omega), g4.block _ (by have := HS2.out; omega) (by omega)]; exact HR0.out
  (try simp only [Exit.inBlock, Exit.then])
  refine bodyPost_ret (results_cell_row rfl _ _ _ 24 _ (0, 0) _ rfl (setRow_heap _ _ _ _ _ _ hf) und27 rfl (by rw [dg_size, S.digB_length]; exact info27)) rfl ?_
  refine ⟨rfl, below_setRow ?_ (Nat.le_refl _) _⟩
  exact HB2.out.trans ((g4.below (by omega) (by have := HS2.out; omega)).trans (HB4.mono (by have := g4.size; have := HS2.out; omega)))
end Go.Proofs.YtfbjakhanjbaeaaDoor
