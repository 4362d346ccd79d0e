/- The walk of the law CombWrites. -/
import Derived.Test.YtahdmhenkjbimaaDoorK1
import Derived.Test.YtahdmhenkjbimaaDoorK5
import Derived.Test.YtahdmhenkjbimaaDoorKd3
import Derived.Test.YtahdmhenkjbimaaDoorJ3
import Derived.Test.YtahdmhenkjbimaaDoorCex
namespace Go.Proofs.YtahdmhenkjbimaaDoor
open Go.RowKit
set_option linter.unusedVariables false
set_option linter.unusedSimpArgs false

set_option maxRecDepth 8000 in
set_option maxHeartbeats 1000000 in
theorem cw_g1 (C1 C2 : Array Value) (s : List UInt8) (w : World) (hG : GW w) (s1 : C1.size = 34) (s2 : C2.size = 34)
    (T1 : Hid (∀ W, GB ((w.alloc (.cells C1 26)).alloc (.cells C2 26)) W → Calls Tryd.prog 5 #[.agg C1, .slice none 0 0] W fun e w' => e = .returned (.bool true) ∧ Below W.heap.size W w')) :
    Calls Tryd.prog 3 #[.agg C1, .agg C2, .string (M.bs s)] w fun e w' => e = .returned (.bool true) ∧ Below w.heap.size w w' := by
  have hB0 : Below w.heap.size w ((w.alloc (.cells C1 26)).alloc (.cells C2 26)) := ((Below.refl _ w).alloc (Nat.le_refl _) _).alloc (by simp) _
  have HG : GB ((w.alloc (.cells C1 26)).alloc (.cells C2 26)) ((w.alloc (.cells C1 26)).alloc (.cells C2 26)) := GB.refl (hG.below hB0 hG.z)
  have r1 : ((w.alloc (.cells C1 26)).alloc (.cells C2 26)).heap[w.heap.size]? = some (.cells C1 26 (0, 0)) := by rw [Below.heap_alloc _ _ _ (by simp)]; exact heap_alloc_new _ _
  have r2 : ((w.alloc (.cells C1 26)).alloc (.cells C2 26)).heap[w.heap.size + 1]? = some (.cells C2 26 (0, 0)) := alloc_at _ _ (by simp) _
  have HRW : Hid (∀ W, GB ((w.alloc (.cells C1 26)).alloc (.cells C2 26)) W → W.heap[w.heap.size]? = some (.cells C1 26 (0, 0)) ∧ W.heap[w.heap.size + 1]? = some (.cells C2 26 (0, 0))) := fun W g =>
    ⟨by rw [g.b.block _ (by simp; omega)]; exact r1, by rw [g.b.block _ (by simp)]; exact r2⟩
  have HFI : Hid (∀ W, GB ((w.alloc (.cells C1 26)).alloc (.cells C2 26)) W → Below w.heap.size w W) := fun W g => hB0.trans (g.b.mono hB0.size)
  obtain ⟨fs, hum⟩ := und27m
  clear hG hB0 r1 r2
  go_enter Tryd.func3, Tryd.ntmps3
  go_wp2_with (first
    | (go_at_call 4; refine (awake3_g HG).mono ?_; clear HG; rintro e w0 ⟨rfl, HG⟩; obtain ⟨f1, f2⟩ := HRW.out _ HG)
    | (refine wl_rowX (by rfl) 26 (.tmp 3) rfl w.heap.size rfl 26 C1 (0, 0) _ f1 hum rfl (by rw [s1]; exact info27m) ?_)
    | (refine wl_rowX (by rfl) 26 (.tmp 4) rfl (w.heap.size + 1) rfl 26 C2 (0, 0) _ f2 hum rfl (by rw [s2]; exact info27m) ?_)
    | (go_at_call 5; refine (T1.out _ HG).mono ?_; clear T1 f1 f2; rintro r w1 ⟨rfl, HBx⟩; replace HG := HG.step HBx; clear HBx; obtain ⟨f1, f2⟩ := HRW.out _ HG)
    | (go_at_call 5; refine (T2.out _ HG).mono ?_; clear T2 f1 f2; rintro r w2 ⟨rfl, HBx⟩; replace HG := HG.step HBx; clear HBx; obtain ⟨f1, f2⟩ := HRW.out _ HG))
  go_ret
  exact ⟨rfl, HFI.out _ HG⟩

set_option maxRecDepth 8000 in
set_option maxHeartbeats 1000000 in
theorem cw_g2 (C1 C2 : Array Value) (s : List UInt8) (w : World) (hG : GW w) (s1 : C1.size = 34) (s2 : C2.size = 34)
    (T1 : Hid (∀ W, GB ((w.alloc (.cells C1 26)).alloc (.cells C2 26)) W → Calls Tryd.prog 5 #[.agg C1, .slice none 0 0] W fun e w' => e = .returned (.bool false) ∧ Below W.heap.size W w'))
    (T2 : Hid (∀ W, GB ((w.alloc (.cells C1 26)).alloc (.cells C2 26)) W → Calls Tryd.prog 5 #[.agg C2, .slice none 0 0] W fun e w' => e = .returned (.bool true) ∧ Below W.heap.size W w')) :
    Calls Tryd.prog 3 #[.agg C1, .agg C2, .string (M.bs s)] w fun e w' => e = .returned (.bool true) ∧ Below w.heap.size w w' := by
  have hB0 : Below w.heap.size w ((w.alloc (.cells C1 26)).alloc (.cells C2 26)) := ((Below.refl _ w).alloc (Nat.le_refl _) _).alloc (by simp) _
  have HG : GB ((w.alloc (.cells C1 26)).alloc (.cells C2 26)) ((w.alloc (.cells C1 26)).alloc (.cells C2 26)) := GB.refl (hG.below hB0 hG.z)
  have r1 : ((w.alloc (.cells C1 26)).alloc (.cells C2 26)).heap[w.heap.size]? = some (.cells C1 26 (0, 0)) := by rw [Below.heap_alloc _ _ _ (by simp)]; exact heap_alloc_new _ _
  have r2 : ((w.alloc (.cells C1 26)).alloc (.cells C2 26)).heap[w.heap.size + 1]? = some (.cells C2 26 (0, 0)) := alloc_at _ _ (by simp) _
  have HRW : Hid (∀ W, GB ((w.alloc (.cells C1 26)).alloc (.cells C2 26)) W → W.heap[w.heap.size]? = some (.cells C1 26 (0, 0)) ∧ W.heap[w.heap.size + 1]? = some (.cells C2 26 (0, 0))) := fun W g =>
    ⟨by rw [g.b.block _ (by simp; omega)]; exact r1, by rw [g.b.block _ (by simp)]; exact r2⟩
  have HFI : Hid (∀ W, GB ((w.alloc (.cells C1 26)).alloc (.cells C2 26)) W → Below w.heap.size w W) := fun W g => hB0.trans (g.b.mono hB0.size)
  obtain ⟨fs, hum⟩ := und27m
  clear hG hB0 r1 r2
  go_enter Tryd.func3, Tryd.ntmps3
  go_wp2_with (first
    | (go_at_call 4; refine (awake3_g HG).mono ?_; clear HG; rintro e w0 ⟨rfl, HG⟩; obtain ⟨f1, f2⟩ := HRW.out _ HG)
    | (refine wl_rowX (by rfl) 26 (.tmp 3) rfl w.heap.size rfl 26 C1 (0, 0) _ f1 hum rfl (by rw [s1]; exact info27m) ?_)
    | (refine wl_rowX (by rfl) 26 (.tmp 4) rfl (w.heap.size + 1) rfl 26 C2 (0, 0) _ f2 hum rfl (by rw [s2]; exact info27m) ?_)
    | (go_at_call 5; refine (T1.out _ HG).mono ?_; clear T1 f1 f2; rintro r w1 ⟨rfl, HBx⟩; replace HG := HG.step HBx; clear HBx; obtain ⟨f1, f2⟩ := HRW.out _ HG)
    | (go_at_call 5; refine (T2.out _ HG).mono ?_; clear T2 f1 f2; rintro r w2 ⟨rfl, HBx⟩; replace HG := HG.step HBx; clear HBx; obtain ⟨f1, f2⟩ := HRW.out _ HG))
  go_ret
  exact ⟨rfl, HFI.out _ HG⟩

set_option maxRecDepth 8000 in
set_option maxHeartbeats 4000000 in
theorem cw_all (C1 C2 : Array Value) (s : List UInt8) (w : World) (hG : GW w) (s1 : C1.size = 34) (s2 : C2.size = 34) (X : ByteArray) (E V : Int) (q : Bool)
    (T1 : Hid (∀ W, GB ((w.alloc (.cells C1 26)).alloc (.cells C2 26)) W → Calls Tryd.prog 5 #[.agg C1, .slice none 0 0] W fun e w' => e = .returned (.bool false) ∧ Below W.heap.size W w'))
    (T2 : Hid (∀ W, GB ((w.alloc (.cells C1 26)).alloc (.cells C2 26)) W → Calls Tryd.prog 5 #[.agg C2, .slice none 0 0] W fun e w' => e = .returned (.bool false) ∧ Below W.heap.size W w'))
    (E1 : Hid (∀ W, GB ((w.alloc (.cells C1 26)).alloc (.cells C2 26)) W → Calls Tryd.prog 6 #[.agg C1] W fun r w' => r = .returned (.tuple #[.string X, .int .i64 E]) ∧ Below W.heap.size W w'))
    (E2 : Hid (∀ W, GB ((w.alloc (.cells C1 26)).alloc (.cells C2 26)) W → Calls Tryd.prog 7 #[.agg C1] W fun r w' => r = .returned (.tuple #[.string X, .int .i64 E]) ∧ Below W.heap.size W w'))
    (S1 : Hid (∀ W, GB ((w.alloc (.cells C1 26)).alloc (.cells C2 26)) W → Calls Tryd.prog 11 #[.agg C1, .agg C2] W fun r w' => r = .returned (.bool q) ∧ Below W.heap.size W w'))
    (S2 : Hid (∀ W, GB ((w.alloc (.cells C1 26)).alloc (.cells C2 26)) W → Calls Tryd.prog 10 #[.agg C1, .agg C2] W fun r w' => r = .returned (.bool q) ∧ Below W.heap.size W w'))
    (D1 : Hid (∀ W, GB ((w.alloc (.cells C1 26)).alloc (.cells C2 26)) W → Calls Tryd.prog 8 #[.string (M.bs s)] W fun r w' => ∃ CK, CK.size = 34 ∧ CK.all (·.oneCell') = true ∧ r = .returned (.tuple #[.agg CK, .int .i64 V]) ∧ Below W.heap.size W w' ∧
      (∀ W', Below w'.heap.size w' W' → Calls Tryd.prog 9 #[.string (M.bs s)] W' fun r w'' => ∃ CL, CL.size = 34 ∧ CL.all (·.oneCell') = true ∧ r = .returned (.tuple #[.agg CL, .int .i64 V]) ∧ Below W'.heap.size W' w'' ∧
        (∀ W3, Below w''.heap.size w'' W3 → Calls Tryd.prog 10 #[.agg CK, .agg CL] W3 fun r w3 => r = .returned (.bool true) ∧ Below W3.heap.size W3 w3)))) :
    Calls Tryd.prog 3 #[.agg C1, .agg C2, .string (M.bs s)] w fun e w' => e = .returned (.bool true) ∧ Below w.heap.size w w' := by
  have hB0 : Below w.heap.size w ((w.alloc (.cells C1 26)).alloc (.cells C2 26)) := ((Below.refl _ w).alloc (Nat.le_refl _) _).alloc (by simp) _
  have HG : GB ((w.alloc (.cells C1 26)).alloc (.cells C2 26)) ((w.alloc (.cells C1 26)).alloc (.cells C2 26)) := GB.refl (hG.below hB0 hG.z)
  have r1 : ((w.alloc (.cells C1 26)).alloc (.cells C2 26)).heap[w.heap.size]? = some (.cells C1 26 (0, 0)) := by rw [Below.heap_alloc _ _ _ (by simp)]; exact heap_alloc_new _ _
  have r2 : ((w.alloc (.cells C1 26)).alloc (.cells C2 26)).heap[w.heap.size + 1]? = some (.cells C2 26 (0, 0)) := alloc_at _ _ (by simp) _
  have HRW : Hid (∀ W, GB ((w.alloc (.cells C1 26)).alloc (.cells C2 26)) W → W.heap[w.heap.size]? = some (.cells C1 26 (0, 0)) ∧ W.heap[w.heap.size + 1]? = some (.cells C2 26 (0, 0))) := fun W g =>
    ⟨by rw [g.b.block _ (by simp; omega)]; exact r1, by rw [g.b.block _ (by simp)]; exact r2⟩
  have HFI : Hid (∀ W, GB ((w.alloc (.cells C1 26)).alloc (.cells C2 26)) W → Below w.heap.size w W) := fun W g => hB0.trans (g.b.mono hB0.size)
  obtain ⟨fs, hum⟩ := und27m
  have hz := zero34_size
  have hzz : ∀ W, (zeroValue 26).run Tryd.prog W = .ok (.agg zero34) W := zero27m
  generalize zero34 = Z at *
  have HST : Hid (∀ W : World, (W.alloc (.cells Z 26)).heap[W.heap.size]? = some (.cells Z 26 (0, 0))) := fun W => heap_alloc_new W _
  clear hG hB0 r1 r2
  have z1 : (X == X) = true := by show (X.data == X.data) = true; simp
  have z2 : (X.toList == X.toList) = true := by simp
  have z3 : (E == E) = true := by simp
  have z4 : (V == V) = true := by simp
  have z5 : (q == q) = true := by simp
  go_enter Tryd.func3, Tryd.ntmps3
  go_wp2_with (first
    | (go_at_call 4; refine (awake3_g HG).mono ?_; clear HG; rintro e w0 ⟨rfl, HG⟩; obtain ⟨f1, f2⟩ := HRW.out _ HG)
    | (refine wl_rowX (by rfl) 26 (.tmp 3) rfl w.heap.size rfl 26 C1 (0, 0) _ f1 hum rfl (by rw [s1]; exact info27m) ?_)
    | (refine wl_rowX (by rfl) 26 (.tmp 4) rfl (w.heap.size + 1) rfl 26 C2 (0, 0) _ f2 hum rfl (by rw [s2]; exact info27m) ?_)
    | (go_at_call 5; refine (T1.out _ HG).mono ?_; clear T1 f1 f2; rintro r w1 ⟨rfl, HBx⟩; replace HG := HG.step HBx; clear HBx; obtain ⟨f1, f2⟩ := HRW.out _ HG)
    | (go_at_call 5; refine (T2.out _ HG).mono ?_; clear T2 f1 f2; rintro r w2 ⟨rfl, HBx⟩; replace HG := HG.step HBx; clear HBx; obtain ⟨f1, f2⟩ := HRW.out _ HG)
    | (go_at_call 6; refine (E1.out _ HG).mono ?_; clear E1 f1 f2; rintro r w3 ⟨rfl, HBx⟩; replace HG := HG.step HBx; clear HBx; obtain ⟨f1, f2⟩ := HRW.out _ HG)
    | (go_at_call 7; refine (E2.out _ HG).mono ?_; clear E2 f1 f2; rintro r w4 ⟨rfl, HBx⟩; replace HG := HG.step HBx; clear HBx; obtain ⟨f1, f2⟩ := HRW.out _ HG)
    | (go_at_call 8; refine (D1.out _ HG).mono ?_; clear D1 f1 f2; rintro r w5 ⟨CK, k1, k2, rfl, HBx, SK⟩; replace HG := HG.step HBx; clear HBx; have SK : Hid _ := SK)
    | (refine wpList_store_row rfl 26 _ _ rfl w5.heap.size CK rfl rfl 26 Z (HST.out w5) (by rw [k1]; exact info27m) (by rw [hz, k1]) k2 ?_; rw [World.setRow_alloc_new]; clear k2; replace HG := HG.alloc (.cells CK 26); have f3 : (w5.alloc (.cells CK 26)).heap[w5.heap.size]? = some (.cells CK 26 (0, 0)) := heap_alloc_new _ _)
    | (go_at_call 9; refine (SK.out _ ((Below.refl _ w5).alloc (Nat.le_refl _) _)).mono ?_; clear SK; rintro r w6 ⟨CL, l1, l2, rfl, HBx, SY⟩; replace HG := HG.step HBx; have f3' : w6.heap[w5.heap.size]? = some (.cells CK 26 (0, 0)) := (HBx.block _ (by simp)).trans f3; clear HBx f3; have SY : Hid _ := SY)
    | (refine wpList_store_row rfl 26 _ _ rfl w6.heap.size CL rfl rfl 26 Z (HST.out w6) (by rw [l1]; exact info27m) (by rw [hz, l1]) l2 ?_; rw [World.setRow_alloc_new]; clear l2; replace HG := HG.alloc (.cells CL 26); have f4 : (w6.alloc (.cells CL 26)).heap[w6.heap.size]? = some (.cells CL 26 (0, 0)) := heap_alloc_new _ _; have f5 : (w6.alloc (.cells CL 26)).heap[w5.heap.size]? = some (.cells CK 26 (0, 0)) := (Below.heap_alloc _ _ _ (Array.getElem?_eq_some_iff.1 f3').1).trans f3'; clear f3'))
  obtain ⟨U, hU⟩ : ∃ U, U = w6.alloc (.cells CL 26) := ⟨_, rfl⟩
  obtain ⟨f1, f2⟩ := HRW.out _ HG
  have hBU : Below w.heap.size w (w6.alloc (.cells CL 26)) := HFI.out _ HG
  have HGU : Hid (GB ((w.alloc (.cells C1 26)).alloc (.cells C2 26)) U) := by rw [hU]; exact HG
  have HYB : Hid (∀ W, Below U.heap.size U W → Below w6.heap.size w6 W) := fun W h => by
    rw [hU] at h; exact ((Below.refl _ w6).alloc (Nat.le_refl _) (.cells CL 26)).trans (h.mono (by simp))
  rw [← hU] at f1 f2 f4 f5 hBU ⊢
  clear hU HG
  obtain ⟨c1, rfl⟩ : ∃ c1, C1 = List.toArray c1 := ⟨C1.toList, by simp⟩
  obtain ⟨c2, rfl⟩ : ∃ c2, C2 = List.toArray c2 := ⟨C2.toList, by simp⟩
  obtain ⟨ck, rfl⟩ : ∃ ck, CK = List.toArray ck := ⟨CK.toList, by simp⟩
  obtain ⟨cl, rfl⟩ : ∃ cl, CL = List.toArray cl := ⟨CL.toList, by simp⟩
  have Y1 : Hid (∀ W, Below U.heap.size U W → Calls Tryd.prog 10 #[.agg (List.toArray ck), .agg (List.toArray cl)] W fun r w3 => r = .returned (.bool true) ∧ Below U.heap.size U w3) := fun W h => by
    refine (SY.out W (HYB.out W h)).mono ?_
    rintro r w3 ⟨rfl, hb⟩
    exact ⟨rfl, h.trans (hb.mono h.size)⟩
  have Y2 : Hid (∀ W, Below U.heap.size U W → Calls Tryd.prog 11 #[.agg (List.toArray c1), .agg (List.toArray c2)] W fun r w3 => r = .returned (.bool q) ∧ Below U.heap.size U w3) := fun W h => by
    refine (S1.out W (HGU.out.step h)).mono ?_
    rintro r w3 ⟨rfl, hb⟩
    exact ⟨rfl, h.trans (hb.mono h.size)⟩
  have Y3 : Hid (∀ W, Below U.heap.size U W → Calls Tryd.prog 10 #[.agg (List.toArray c1), .agg (List.toArray c2)] W fun r w3 => r = .returned (.bool q) ∧ Below U.heap.size U w3) := fun W h => by
    refine (S2.out W (HGU.out.step h)).mono ?_
    rintro r w3 ⟨rfl, hb⟩
    exact ⟨rfl, h.trans (hb.mono h.size)⟩
  have HFU : Hid (∀ W, Below U.heap.size U W → Below w.heap.size w W) := fun W h => hBU.trans (h.mono hBU.size)
  have row : ∀ (W : World) (g : Nat) (c : List Value), W.heap[g]? = some (.cells (List.toArray c) 26 (0, 0)) → W.rangeAt g 0 c := fun W g c h j v hv => by
    rw [Nat.zero_add, cell_of_row _ _ j _ _ _ h]; simpa using hv
  have KP : Hid (∀ W, Below U.heap.size U W → W.rangeAt w.heap.size 0 c1 ∧ W.rangeAt (w.heap.size + 1) 0 c2 ∧ W.rangeAt w5.heap.size 0 ck ∧ W.rangeAt w6.heap.size 0 cl) := fun W h =>
    ⟨row _ _ _ ((h.block _ (Array.getElem?_eq_some_iff.1 f1).1).trans f1), row _ _ _ ((h.block _ (Array.getElem?_eq_some_iff.1 f2).1).trans f2), row _ _ _ ((h.block _ (Array.getElem?_eq_some_iff.1 f5).1).trans f5), row _ _ _ ((h.block _ (Array.getElem?_eq_some_iff.1 f4).1).trans f4)⟩
  have hi1 : (Tryd.prog.info? 26).map (·.size) = some c1.length := by rw [info27m]; simpa using s1.symm
  have hi2 : (Tryd.prog.info? 26).map (·.size) = some c2.length := by rw [info27m]; simpa using s2.symm
  have hi3 : (Tryd.prog.info? 26).map (·.size) = some ck.length := by rw [info27m]; simpa using k1.symm
  have hi4 : (Tryd.prog.info? 26).map (·.size) = some cl.length := by rw [info27m]; simpa using l1.symm
  have XD : Below U.heap.size U U.drew := (Below.refl _ _).drew
  clear f1 f2 f4 f5 row hBU SY HYB S1 S2 HRW HFI HST HGU hz hzz s1 s2 k1 l1
  generalize hr0 : w.heap.size = r0 at *
  generalize hr5 : w5.heap.size = r5 at *
  generalize hr6 : w6.heap.size = r6 at *
  clear hr5 hr6
  have HR0 : Hid (w.heap.size = r0) := hr0
  clear hr0
  refine wp_region_noPanic ?_
  refine wp_region_held_drew (S := (fun W => W.rangeAt r0 0 c1 ∧ W.rangeAt (r0 + 1) 0 c2 ∧ W.rangeAt r5 0 ck ∧ W.rangeAt r6 0 cl)) (by kernel_rfl) (KP.out _ XD) (fun hHeld => ?_)
  refine wpAnyH_take (i := 0) rfl (by kernel_rfl) (by kernel_rfl) (by kernel_rfl) (fun _ _ _ h => h) (yi_move (by kernel_rfl) rfl rfl) (by assumption) ?_
  simp only [Act.put, List.getElem_toArray, List.getElem_cons_succ, List.getElem_cons_zero, List.setIfInBounds_toArray, List.set_cons_zero, List.set_cons_succ]
  refine wpAnyH_take (i := 1) rfl (by kernel_rfl) (by kernel_rfl) (by kernel_rfl) (fun _ _ _ h => h) (yi_move (by kernel_rfl) rfl rfl) (by assumption) ?_
  simp only [Act.put, List.getElem_toArray, List.getElem_cons_succ, List.getElem_cons_zero, List.setIfInBounds_toArray, List.set_cons_zero, List.set_cons_succ]
  refine wpAnyH_take (i := 2) (v := ?_) rfl (by kernel_rfl) (by kernel_rfl) (by kernel_rfl) (fun _ _ _ h => h) (Or.inl ⟨by kernel_rfl, ?_⟩) (by assumption) ?_
  rotate_left
  · (intro w hSw; (try dsimp only at hSw); go_simp; (try with_reducible rfl))
  simp only [Act.put, List.getElem_toArray, List.getElem_cons_succ, List.getElem_cons_zero, List.setIfInBounds_toArray, List.set_cons_zero, List.set_cons_succ]
  refine wpAnyH_take (i := 3) rfl (by kernel_rfl) (by kernel_rfl) (by kernel_rfl) (fun _ _ _ h => h) (yi_move (by kernel_rfl) rfl rfl) (by assumption) ?_
  simp only [Act.put, List.getElem_toArray, List.getElem_cons_succ, List.getElem_cons_zero, List.setIfInBounds_toArray, List.set_cons_zero, List.set_cons_succ]
  refine wpAnyH_take (i := 4) rfl (by kernel_rfl) (by kernel_rfl) (by kernel_rfl) (fun _ _ _ h => h) (yi_move (by kernel_rfl) rfl rfl) (by assumption) ?_
  simp only [Act.put, List.getElem_toArray, List.getElem_cons_succ, List.getElem_cons_zero, List.setIfInBounds_toArray, List.set_cons_zero, List.set_cons_succ]
  refine wpAnyH_take (i := 5) rfl (by kernel_rfl) (by kernel_rfl) (by kernel_rfl) (fun _ _ _ h => h) (yi_move (by kernel_rfl) rfl rfl) (by assumption) ?_
  simp only [Act.put, List.getElem_toArray, List.getElem_cons_succ, List.getElem_cons_zero, List.setIfInBounds_toArray, List.set_cons_zero, List.set_cons_succ]
  refine wpAnyH_take (i := 6) (v := ?_) rfl (by kernel_rfl) (by kernel_rfl) (by kernel_rfl) (fun _ _ _ h => h) (Or.inl ⟨by kernel_rfl, ?_⟩) (by assumption) ?_
  rotate_left
  · (intro w hSw; (try dsimp only at hSw); go_simp; (try with_reducible rfl))
  simp only [Act.put, List.getElem_toArray, List.getElem_cons_succ, List.getElem_cons_zero, List.setIfInBounds_toArray, List.set_cons_zero, List.set_cons_succ]
  refine wpAnyH_take (i := 7) (v := ?_) rfl (by kernel_rfl) (by kernel_rfl) (by kernel_rfl) (fun _ _ _ h => h) (Or.inl ⟨by kernel_rfl, ?_⟩) (by assumption) ?_
  rotate_left
  · (intro w hSw; (try dsimp only at hSw); go_simp; (try with_reducible rfl))
  simp only [Act.put, List.getElem_toArray, List.getElem_cons_succ, List.getElem_cons_zero, List.setIfInBounds_toArray, List.set_cons_zero, List.set_cons_succ]
  refine wpAnyH_take (i := 8) rfl (by kernel_rfl) (by kernel_rfl) (by kernel_rfl) (fun _ _ _ h => h) (yi_move (by kernel_rfl) rfl rfl) (by assumption) ?_
  simp only [Act.put, List.getElem_toArray, List.getElem_cons_succ, List.getElem_cons_zero, List.setIfInBounds_toArray, List.set_cons_zero, List.set_cons_succ]
  refine wpAnyH_take (i := 9) (v := .agg (List.toArray ck)) rfl (by kernel_rfl) (by kernel_rfl) (by kernel_rfl) (fun _ _ _ h => h) (yieldsIf_load_mid (by kernel_rfl) _ (.tmp 11) (by kernel_rfl) r5 0 (by kernel_rfl) ck _ (fun W hW => hW.2.2.1) hum rfl hi3) (by assumption) ?_
  simp only [Act.put, List.getElem_toArray, List.getElem_cons_succ, List.getElem_cons_zero, List.setIfInBounds_toArray, List.set_cons_zero, List.set_cons_succ]
  refine wpAnyH_take (i := 10) (v := .agg (List.toArray cl)) rfl (by kernel_rfl) (by kernel_rfl) (by kernel_rfl) (fun _ _ _ h => h) (yieldsIf_load_mid (by kernel_rfl) _ (.tmp 13) (by kernel_rfl) r6 0 (by kernel_rfl) cl _ (fun W hW => hW.2.2.2) hum rfl hi4) (by assumption) ?_
  simp only [Act.put, List.getElem_toArray, List.getElem_cons_succ, List.getElem_cons_zero, List.setIfInBounds_toArray, List.set_cons_zero, List.set_cons_succ]
  refine wpAnyH_ready (rs := [11]) (by kernel_rfl) (by simp) ?_
  refine AllReadyH.cons (o := _) rfl (fun K hK => ?_) AllReadyH.nil
  go_simp
  (refine (Y1.out _ XD).mono ?_; rintro e x12 ⟨rfl, HB12⟩; dsimp only)
  refine hK.out _ _ (KP.out _ HB12) (fun hHeld => ?_)
  clear hK K
  (try simp only [Act.put, List.getElem_toArray, List.getElem_cons_succ, List.getElem_cons_zero, List.setIfInBounds_toArray, List.set_cons_zero, List.set_cons_succ])
  refine wpAnyH_take (i := 12) (v := ?_) rfl (by kernel_rfl) (by kernel_rfl) (by kernel_rfl) (fun _ _ _ h => h) (Or.inl ⟨by kernel_rfl, ?_⟩) (by assumption) ?_
  rotate_left
  · (intro w hSw; (try dsimp only at hSw); go_simp; (try with_reducible rfl))
  simp only [Act.put, List.getElem_toArray, List.getElem_cons_succ, List.getElem_cons_zero, List.setIfInBounds_toArray, List.set_cons_zero, List.set_cons_succ]
  refine wpAnyH_take (i := 13) rfl (by kernel_rfl) (by kernel_rfl) (by kernel_rfl) (fun _ _ _ h => h) (yi_move (by kernel_rfl) rfl rfl) (by assumption) ?_
  simp only [Act.put, List.getElem_toArray, List.getElem_cons_succ, List.getElem_cons_zero, List.setIfInBounds_toArray, List.set_cons_zero, List.set_cons_succ]
  refine wpAnyH_take (i := 14) rfl (by kernel_rfl) (by kernel_rfl) (by kernel_rfl) (fun _ _ _ h => h) (yi_move (by kernel_rfl) rfl rfl) (by assumption) ?_
  simp only [Act.put, List.getElem_toArray, List.getElem_cons_succ, List.getElem_cons_zero, List.setIfInBounds_toArray, List.set_cons_zero, List.set_cons_succ]
  refine wpAnyH_take (i := 15) rfl (by kernel_rfl) (by kernel_rfl) (by kernel_rfl) (fun _ _ _ h => h) (yi_move (by kernel_rfl) rfl rfl) (by assumption) ?_
  simp only [Act.put, List.getElem_toArray, List.getElem_cons_succ, List.getElem_cons_zero, List.setIfInBounds_toArray, List.set_cons_zero, List.set_cons_succ]
  refine wpAnyH_take (i := 16) (v := ?_) rfl (by kernel_rfl) (by kernel_rfl) (by kernel_rfl) (fun _ _ _ h => h) (Or.inl ⟨by kernel_rfl, ?_⟩) (by assumption) ?_
  rotate_left
  · (intro w hSw; (try dsimp only at hSw); go_simp; (try with_reducible rfl))
  simp only [Act.put, List.getElem_toArray, List.getElem_cons_succ, List.getElem_cons_zero, List.setIfInBounds_toArray, List.set_cons_zero, List.set_cons_succ]
  refine wpAnyH_take (i := 17) (v := ?_) rfl (by kernel_rfl) (by kernel_rfl) (by kernel_rfl) (fun _ _ _ h => h) (Or.inl ⟨by kernel_rfl, ?_⟩) (by assumption) ?_
  rotate_left
  · (intro w hSw; (try dsimp only at hSw); go_simp; (try with_reducible rfl))
  simp only [Act.put, List.getElem_toArray, List.getElem_cons_succ, List.getElem_cons_zero, List.setIfInBounds_toArray, List.set_cons_zero, List.set_cons_succ]
  refine wpAnyH_take (i := 18) rfl (by kernel_rfl) (by kernel_rfl) (by kernel_rfl) (fun _ _ _ h => h) (yi_move (by kernel_rfl) rfl rfl) (by assumption) ?_
  simp only [Act.put, List.getElem_toArray, List.getElem_cons_succ, List.getElem_cons_zero, List.setIfInBounds_toArray, List.set_cons_zero, List.set_cons_succ]
  refine wpAnyH_take (i := 19) (v := .agg (List.toArray c1)) rfl (by kernel_rfl) (by kernel_rfl) (by kernel_rfl) (fun _ _ _ h => h) (yieldsIf_load_mid (by kernel_rfl) _ (.tmp 3) (by kernel_rfl) r0 0 (by kernel_rfl) c1 _ (fun W hW => hW.1) hum rfl hi1) (by assumption) ?_
  simp only [Act.put, List.getElem_toArray, List.getElem_cons_succ, List.getElem_cons_zero, List.setIfInBounds_toArray, List.set_cons_zero, List.set_cons_succ]
  refine wpAnyH_take (i := 20) (v := .agg (List.toArray c2)) rfl (by kernel_rfl) (by kernel_rfl) (by kernel_rfl) (fun _ _ _ h => h) (yieldsIf_load_mid (by kernel_rfl) _ (.tmp 4) (by kernel_rfl) (r0 + 1) 0 (by kernel_rfl) c2 _ (fun W hW => hW.2.1) hum rfl hi2) (by assumption) ?_
  simp only [Act.put, List.getElem_toArray, List.getElem_cons_succ, List.getElem_cons_zero, List.setIfInBounds_toArray, List.set_cons_zero, List.set_cons_succ]
  refine wpAnyH_take (i := 22) (v := .agg (List.toArray c1)) rfl (by kernel_rfl) (by kernel_rfl) (by kernel_rfl) (fun _ _ _ h => h) (yieldsIf_load_mid (by kernel_rfl) _ (.tmp 3) (by kernel_rfl) r0 0 (by kernel_rfl) c1 _ (fun W hW => hW.1) hum rfl hi1) (by assumption) ?_
  simp only [Act.put, List.getElem_toArray, List.getElem_cons_succ, List.getElem_cons_zero, List.setIfInBounds_toArray, List.set_cons_zero, List.set_cons_succ]
  refine wpAnyH_take (i := 23) (v := .agg (List.toArray c2)) rfl (by kernel_rfl) (by kernel_rfl) (by kernel_rfl) (fun _ _ _ h => h) (yieldsIf_load_mid (by kernel_rfl) _ (.tmp 4) (by kernel_rfl) (r0 + 1) 0 (by kernel_rfl) c2 _ (fun W hW => hW.2.1) hum rfl hi2) (by assumption) ?_
  simp only [Act.put, List.getElem_toArray, List.getElem_cons_succ, List.getElem_cons_zero, List.setIfInBounds_toArray, List.set_cons_zero, List.set_cons_succ]
  refine wpAnyH_ready (rs := [21]) (by kernel_rfl) (by simp) ?_
  refine AllReadyH.cons (o := _) rfl (fun K hK => ?_) AllReadyH.nil
  go_simp
  (refine (Y2.out _ HB12).mono ?_; rintro e x24 ⟨rfl, HB24⟩; dsimp only)
  refine hK.out _ _ (KP.out _ HB24) (fun hHeld => ?_)
  clear hK K
  (try simp only [Act.put, List.getElem_toArray, List.getElem_cons_succ, List.getElem_cons_zero, List.setIfInBounds_toArray, List.set_cons_zero, List.set_cons_succ])
  refine wpAnyH_ready (rs := [24]) (by kernel_rfl) (by simp) ?_
  refine AllReadyH.cons (o := _) rfl (fun K hK => ?_) AllReadyH.nil
  go_simp
  (refine (Y3.out _ HB24).mono ?_; rintro e x25 ⟨rfl, HB25⟩; dsimp only)
  refine hK.out _ _ (KP.out _ HB25) (fun hHeld => ?_)
  clear hK K
  (try simp only [Act.put, List.getElem_toArray, List.getElem_cons_succ, List.getElem_cons_zero, List.setIfInBounds_toArray, List.set_cons_zero, List.set_cons_succ])
  refine wpAnyH_take (i := 25) (v := ?_) rfl (by kernel_rfl) (by kernel_rfl) (by kernel_rfl) (fun _ _ _ h => h) (Or.inl ⟨by kernel_rfl, ?_⟩) (by assumption) ?_
  rotate_left
  · (intro w hSw; (try dsimp only at hSw); go_simp; (try with_reducible rfl))
  simp only [Act.put, List.getElem_toArray, List.getElem_cons_succ, List.getElem_cons_zero, List.setIfInBounds_toArray, List.set_cons_zero, List.set_cons_succ]
  refine wpAnyH_take (i := 26) (v := ?_) rfl (by kernel_rfl) (by kernel_rfl) (by kernel_rfl) (fun _ _ _ h => h) (Or.inl ⟨by kernel_rfl, ?_⟩) (by assumption) ?_
  rotate_left
  · (intro w hSw; (try dsimp only at hSw); go_simp; (try with_reducible rfl))
  simp only [Act.put, List.getElem_toArray, List.getElem_cons_succ, List.getElem_cons_zero, List.setIfInBounds_toArray, List.set_cons_zero, List.set_cons_succ]
  refine wpAnyH_take (i := 27) rfl (by kernel_rfl) (by kernel_rfl) (by kernel_rfl) (fun _ _ _ h => h) (yi_assign (by kernel_rfl) rfl rfl) (by assumption) ?_
  simp only [Act.put, List.getElem_toArray, List.getElem_cons_succ, List.getElem_cons_zero, List.setIfInBounds_toArray, List.set_cons_zero, List.set_cons_succ]
  refine wpAnyH_done (by kernel_rfl) ?_ _
  refine NoPanic.normal ?_
  go_wp2_with fail
  go_ret
  exact ⟨rfl, by rw [HR0.out]; exact HFU.out _ HB25⟩
end Go.Proofs.YtahdmhenkjbimaaDoor
