/- The walk of the law CombForms. -/
import Derived.Test.YtaceemaedpkigaaDoorK1
import Derived.Test.YtaceemaedpkigaaDoorK5
import Derived.Test.YtaceemaedpkigaaDoorK9
import Derived.Test.YtaceemaedpkigaaDoorJ3
import Derived.Test.YtaceemaedpkigaaDoorCex
namespace Go.Proofs.YtaceemaedpkigaaDoor
open Go.RowKit
set_option linter.unusedVariables false
set_option linter.unusedSimpArgs false

set_option maxRecDepth 8000 in
set_option maxHeartbeats 1000000 in
theorem frm_g1 (C1 C2 : Array Value) (s : List UInt8) (w : World) (hG : GW w) (s1 : C1.size = 34) (s2 : C2.size = 34)
    (T1 : Hid (∀ W, GB ((w.alloc (.cells C1 26)).alloc (.cells C2 26)) W → Calls Tryd.prog 6 #[.agg C1, .slice none 0 0] W fun e w' => e = .returned (.bool true) ∧ Below W.heap.size W w')) :
    Calls Tryd.prog 3 #[.agg C1, .agg C2, .string (M.bs s)] w fun e w' => e = .returned (.bool true) ∧ Below w.heap.size w w' := by
  have hB0 : Below w.heap.size w ((w.alloc (.cells C1 26)).alloc (.cells C2 26)) := ((Below.refl _ w).alloc (Nat.le_refl _) _).alloc (by simp) _
  have HG : GB ((w.alloc (.cells C1 26)).alloc (.cells C2 26)) ((w.alloc (.cells C1 26)).alloc (.cells C2 26)) := GB.refl (hG.below hB0 hG.z)
  have r1 : ((w.alloc (.cells C1 26)).alloc (.cells C2 26)).heap[w.heap.size]? = some (.cells C1 26 (0, 0)) := by rw [Below.heap_alloc _ _ _ (by simp)]; exact heap_alloc_new _ _
  have r2 : ((w.alloc (.cells C1 26)).alloc (.cells C2 26)).heap[w.heap.size + 1]? = some (.cells C2 26 (0, 0)) := alloc_at _ _ (by simp) _
  have HRW : Hid (∀ W, GB ((w.alloc (.cells C1 26)).alloc (.cells C2 26)) W → W.heap[w.heap.size]? = some (.cells C1 26 (0, 0)) ∧ W.heap[w.heap.size + 1]? = some (.cells C2 26 (0, 0))) := fun W g =>
    ⟨by rw [g.b.block _ (by simp; omega)]; exact r1, by rw [g.b.block _ (by simp)]; exact r2⟩
  have HFI : Hid (∀ W, GB ((w.alloc (.cells C1 26)).alloc (.cells C2 26)) W → Below w.heap.size w W) := fun W g => hB0.trans (g.b.mono hB0.size)
  obtain ⟨fs, hum⟩ := und27m
  clear hG hB0 r1 r2
  go_enter Tryd.func3, Tryd.ntmps3
  go_wp2_with (first
    | (go_at_call 5; refine (awake3_g HG).mono ?_; clear HG; rintro e w0 ⟨rfl, HG⟩; obtain ⟨f1, f2⟩ := HRW.out _ HG)
    | (refine wl_rowX (by rfl) 26 (.tmp 3) rfl w.heap.size rfl 26 C1 (0, 0) _ f1 hum rfl (by rw [s1]; exact info27m) ?_)
    | (refine wl_rowX (by rfl) 26 (.tmp 4) rfl (w.heap.size + 1) rfl 26 C2 (0, 0) _ f2 hum rfl (by rw [s2]; exact info27m) ?_)
    | (go_at_call 6; refine (T1.out _ HG).mono ?_; clear T1 f1 f2; rintro r w1 ⟨rfl, HBx⟩; replace HG := HG.step HBx; clear HBx; obtain ⟨f1, f2⟩ := HRW.out _ HG)
    | (go_at_call 6; refine (T2.out _ HG).mono ?_; clear T2 f1 f2; rintro r w2 ⟨rfl, HBx⟩; replace HG := HG.step HBx; clear HBx; obtain ⟨f1, f2⟩ := HRW.out _ HG))
  go_ret
  exact ⟨rfl, HFI.out _ HG⟩

set_option maxRecDepth 8000 in
set_option maxHeartbeats 1000000 in
theorem frm_g2 (C1 C2 : Array Value) (s : List UInt8) (w : World) (hG : GW w) (s1 : C1.size = 34) (s2 : C2.size = 34)
    (T1 : Hid (∀ W, GB ((w.alloc (.cells C1 26)).alloc (.cells C2 26)) W → Calls Tryd.prog 6 #[.agg C1, .slice none 0 0] W fun e w' => e = .returned (.bool false) ∧ Below W.heap.size W w'))
    (T2 : Hid (∀ W, GB ((w.alloc (.cells C1 26)).alloc (.cells C2 26)) W → Calls Tryd.prog 6 #[.agg C2, .slice none 0 0] W fun e w' => e = .returned (.bool true) ∧ Below W.heap.size W w')) :
    Calls Tryd.prog 3 #[.agg C1, .agg C2, .string (M.bs s)] w fun e w' => e = .returned (.bool true) ∧ Below w.heap.size w w' := by
  have hB0 : Below w.heap.size w ((w.alloc (.cells C1 26)).alloc (.cells C2 26)) := ((Below.refl _ w).alloc (Nat.le_refl _) _).alloc (by simp) _
  have HG : GB ((w.alloc (.cells C1 26)).alloc (.cells C2 26)) ((w.alloc (.cells C1 26)).alloc (.cells C2 26)) := GB.refl (hG.below hB0 hG.z)
  have r1 : ((w.alloc (.cells C1 26)).alloc (.cells C2 26)).heap[w.heap.size]? = some (.cells C1 26 (0, 0)) := by rw [Below.heap_alloc _ _ _ (by simp)]; exact heap_alloc_new _ _
  have r2 : ((w.alloc (.cells C1 26)).alloc (.cells C2 26)).heap[w.heap.size + 1]? = some (.cells C2 26 (0, 0)) := alloc_at _ _ (by simp) _
  have HRW : Hid (∀ W, GB ((w.alloc (.cells C1 26)).alloc (.cells C2 26)) W → W.heap[w.heap.size]? = some (.cells C1 26 (0, 0)) ∧ W.heap[w.heap.size + 1]? = some (.cells C2 26 (0, 0))) := fun W g =>
    ⟨by rw [g.b.block _ (by simp; omega)]; exact r1, by rw [g.b.block _ (by simp)]; exact r2⟩
  have HFI : Hid (∀ W, GB ((w.alloc (.cells C1 26)).alloc (.cells C2 26)) W → Below w.heap.size w W) := fun W g => hB0.trans (g.b.mono hB0.size)
  obtain ⟨fs, hum⟩ := und27m
  clear hG hB0 r1 r2
  go_enter Tryd.func3, Tryd.ntmps3
  go_wp2_with (first
    | (go_at_call 5; refine (awake3_g HG).mono ?_; clear HG; rintro e w0 ⟨rfl, HG⟩; obtain ⟨f1, f2⟩ := HRW.out _ HG)
    | (refine wl_rowX (by rfl) 26 (.tmp 3) rfl w.heap.size rfl 26 C1 (0, 0) _ f1 hum rfl (by rw [s1]; exact info27m) ?_)
    | (refine wl_rowX (by rfl) 26 (.tmp 4) rfl (w.heap.size + 1) rfl 26 C2 (0, 0) _ f2 hum rfl (by rw [s2]; exact info27m) ?_)
    | (go_at_call 6; refine (T1.out _ HG).mono ?_; clear T1 f1 f2; rintro r w1 ⟨rfl, HBx⟩; replace HG := HG.step HBx; clear HBx; obtain ⟨f1, f2⟩ := HRW.out _ HG)
    | (go_at_call 6; refine (T2.out _ HG).mono ?_; clear T2 f1 f2; rintro r w2 ⟨rfl, HBx⟩; replace HG := HG.step HBx; clear HBx; obtain ⟨f1, f2⟩ := HRW.out _ HG))
  go_ret
  exact ⟨rfl, HFI.out _ HG⟩

set_option maxRecDepth 8000 in
set_option maxHeartbeats 4000000 in
theorem frm_nn3 (C1 C2 : Array Value) (s : List UInt8) (w : World) (hG : GW w) (s1 : C1.size = 34) (s2 : C2.size = 34) (X Y : ByteArray)
    (T1 : Hid (∀ W, GB ((w.alloc (.cells C1 26)).alloc (.cells C2 26)) W → Calls Tryd.prog 6 #[.agg C1, .slice none 0 0] W fun e w' => e = .returned (.bool false) ∧ Below W.heap.size W w'))
    (T2 : Hid (∀ W, GB ((w.alloc (.cells C1 26)).alloc (.cells C2 26)) W → Calls Tryd.prog 6 #[.agg C2, .slice none 0 0] W fun e w' => e = .returned (.bool false) ∧ Below W.heap.size W w'))
    (E1 : Hid (∀ W, GB ((w.alloc (.cells C1 26)).alloc (.cells C2 26)) W → Calls Tryd.prog 7 #[.agg C1] W fun r w' => r = .returned (.tuple #[.string X, .int .i64 1]) ∧ Below W.heap.size W w'))
    (E2 : Hid (∀ W, GB ((w.alloc (.cells C1 26)).alloc (.cells C2 26)) W → Calls Tryd.prog 7 #[.agg C2] W fun r w' => r = .returned (.tuple #[.string Y, .int .i64 1]) ∧ Below W.heap.size W w'))
    (G1 : Hid (∀ W, GB ((w.alloc (.cells C1 26)).alloc (.cells C2 26)) W → Calls Tryd.prog 8 #[.agg C1] W fun r w' => r = .returned (.bool false) ∧ Below W.heap.size W w'))
    (D2 : Hid (∀ W, GB ((w.alloc (.cells C1 26)).alloc (.cells C2 26)) W → Calls Tryd.prog 10 #[.string (M.bs s)] W fun r w' => ∃ CK, CK.size = 34 ∧ CK.all (·.oneCell') = true ∧ r = .returned (.tuple #[.agg CK, .int .i64 3]) ∧ Below W.heap.size W w' ∧
      (∀ W', Below w'.heap.size w' W' → Calls Tryd.prog 9 #[.agg CK, .agg zero34] W' fun r w'' => r = .returned (.bool true) ∧ Below W'.heap.size W' w''))) :
    Calls Tryd.prog 3 #[.agg C1, .agg C2, .string (M.bs s)] w fun e w' => e = .returned (.bool true) ∧ Below w.heap.size w w' := by
  have hB0 : Below w.heap.size w ((w.alloc (.cells C1 26)).alloc (.cells C2 26)) := ((Below.refl _ w).alloc (Nat.le_refl _) _).alloc (by simp) _
  have HG : GB ((w.alloc (.cells C1 26)).alloc (.cells C2 26)) ((w.alloc (.cells C1 26)).alloc (.cells C2 26)) := GB.refl (hG.below hB0 hG.z)
  have r1 : ((w.alloc (.cells C1 26)).alloc (.cells C2 26)).heap[w.heap.size]? = some (.cells C1 26 (0, 0)) := by rw [Below.heap_alloc _ _ _ (by simp)]; exact heap_alloc_new _ _
  have r2 : ((w.alloc (.cells C1 26)).alloc (.cells C2 26)).heap[w.heap.size + 1]? = some (.cells C2 26 (0, 0)) := alloc_at _ _ (by simp) _
  have HRW : Hid (∀ W, GB ((w.alloc (.cells C1 26)).alloc (.cells C2 26)) W → W.heap[w.heap.size]? = some (.cells C1 26 (0, 0)) ∧ W.heap[w.heap.size + 1]? = some (.cells C2 26 (0, 0))) := fun W g =>
    ⟨by rw [g.b.block _ (by simp; omega)]; exact r1, by rw [g.b.block _ (by simp)]; exact r2⟩
  have HFI : Hid (∀ W, GB ((w.alloc (.cells C1 26)).alloc (.cells C2 26)) W → Below w.heap.size w W) := fun W g => hB0.trans (g.b.mono hB0.size)
  obtain ⟨fs, hum⟩ := und27m
  have hz := zero34_size
  have hzz : ∀ W, (zeroValue 26).run Tryd.prog W = .ok (.agg zero34) W := zero27m
  generalize zero34 = Z at *
  have HST : Hid (∀ W : World, (W.alloc (.cells Z 26)).heap[W.heap.size]? = some (.cells Z 26 (0, 0))) := fun W => heap_alloc_new W _
  clear hG hB0 r1 r2
  go_enter Tryd.func3, Tryd.ntmps3
  go_wp2_with (first
    | (go_at_call 5; refine (awake3_g HG).mono ?_; clear HG; rintro e w0 ⟨rfl, HG⟩; obtain ⟨f1, f2⟩ := HRW.out _ HG)
    | (refine wl_rowX (by rfl) 26 (.tmp 3) rfl w.heap.size rfl 26 C1 (0, 0) _ f1 hum rfl (by rw [s1]; exact info27m) ?_)
    | (refine wl_rowX (by rfl) 26 (.tmp 4) rfl (w.heap.size + 1) rfl 26 C2 (0, 0) _ f2 hum rfl (by rw [s2]; exact info27m) ?_)
    | (go_at_call 6; refine (T1.out _ HG).mono ?_; clear T1 f1 f2; rintro r w1 ⟨rfl, HBx⟩; replace HG := HG.step HBx; clear HBx; obtain ⟨f1, f2⟩ := HRW.out _ HG)
    | (go_at_call 6; refine (T2.out _ HG).mono ?_; clear T2 f1 f2; rintro r w2 ⟨rfl, HBx⟩; replace HG := HG.step HBx; clear HBx; obtain ⟨f1, f2⟩ := HRW.out _ HG)
    | (go_at_call 7; refine (E1.out _ HG).mono ?_; clear E1 f1 f2; rintro r w3 ⟨rfl, HBx⟩; replace HG := HG.step HBx; clear HBx; obtain ⟨f1, f2⟩ := HRW.out _ HG)
    | (go_at_call 7; refine (E2.out _ HG).mono ?_; clear E2 f1 f2; rintro r w4 ⟨rfl, HBx⟩; replace HG := HG.step HBx; clear HBx; obtain ⟨f1, f2⟩ := HRW.out _ HG)
    | (go_at_call 8; refine (G1.out _ HG).mono ?_; clear G1 f1 f2; rintro r w5 ⟨rfl, HBx⟩; replace HG := HG.step HBx; clear HBx; obtain ⟨f1, f2⟩ := HRW.out _ HG)
    | (go_at_call 10; refine (D2.out _ HG).mono ?_; clear D2 f1 f2; rintro r w9 ⟨CL, l1, l2, rfl, HBx, SZ⟩; replace HG := HG.step HBx; clear HBx; have SZ : Hid _ := SZ)
    | (refine wpList_store_row rfl 26 _ _ rfl w9.heap.size CL rfl rfl 26 Z (HST.out w9) (by rw [l1]; exact info27m) (by rw [hz, l1]) l2 ?_; rw [World.setRow_alloc_new]; clear l2; replace HG := HG.alloc (.cells CL 26); have f4 : (w9.alloc (.cells CL 26)).heap[w9.heap.size]? = some (.cells CL 26 (0, 0)) := heap_alloc_new _ _)
    | (refine wl_rowX (by rfl) 26 (.tmp 13) rfl w9.heap.size rfl 26 CL (0, 0) _ f4 hum rfl (by rw [l1]; exact info27m) ?_)
    | (go_at_call 9; refine (SZ.out _ ((Below.refl _ w9).alloc (Nat.le_refl _) _)).mono ?_; clear SZ f4; rintro r w10 ⟨rfl, HBx⟩; replace HG := HG.step HBx; clear HBx))
  go_ret
  exact ⟨rfl, HFI.out _ HG⟩

set_option maxRecDepth 8000 in
set_option maxHeartbeats 4000000 in
theorem frm_nn0 (C1 C2 : Array Value) (s : List UInt8) (w : World) (hG : GW w) (s1 : C1.size = 34) (s2 : C2.size = 34) (X Y : ByteArray)
    (T1 : Hid (∀ W, GB ((w.alloc (.cells C1 26)).alloc (.cells C2 26)) W → Calls Tryd.prog 6 #[.agg C1, .slice none 0 0] W fun e w' => e = .returned (.bool false) ∧ Below W.heap.size W w'))
    (T2 : Hid (∀ W, GB ((w.alloc (.cells C1 26)).alloc (.cells C2 26)) W → Calls Tryd.prog 6 #[.agg C2, .slice none 0 0] W fun e w' => e = .returned (.bool false) ∧ Below W.heap.size W w'))
    (E1 : Hid (∀ W, GB ((w.alloc (.cells C1 26)).alloc (.cells C2 26)) W → Calls Tryd.prog 7 #[.agg C1] W fun r w' => r = .returned (.tuple #[.string X, .int .i64 1]) ∧ Below W.heap.size W w'))
    (E2 : Hid (∀ W, GB ((w.alloc (.cells C1 26)).alloc (.cells C2 26)) W → Calls Tryd.prog 7 #[.agg C2] W fun r w' => r = .returned (.tuple #[.string Y, .int .i64 1]) ∧ Below W.heap.size W w'))
    (G1 : Hid (∀ W, GB ((w.alloc (.cells C1 26)).alloc (.cells C2 26)) W → Calls Tryd.prog 8 #[.agg C1] W fun r w' => r = .returned (.bool false) ∧ Below W.heap.size W w'))
    (D2 : Hid (∀ W, GB ((w.alloc (.cells C1 26)).alloc (.cells C2 26)) W → Calls Tryd.prog 10 #[.string (M.bs s)] W fun r w' => ∃ CK, CK.size = 34 ∧ CK.all (·.oneCell') = true ∧ r = .returned (.tuple #[.agg CK, .int .i64 0]) ∧ Below W.heap.size W w' ∧
      (∀ W', Below w'.heap.size w' W' → Calls Tryd.prog 7 #[.agg CK] W' fun r w'' => r = .returned (.tuple #[.string (M.bs s), .int .i64 0]) ∧ Below W'.heap.size W' w''))) :
    Calls Tryd.prog 3 #[.agg C1, .agg C2, .string (M.bs s)] w fun e w' => e = .returned (.bool true) ∧ Below w.heap.size w w' := by
  have hB0 : Below w.heap.size w ((w.alloc (.cells C1 26)).alloc (.cells C2 26)) := ((Below.refl _ w).alloc (Nat.le_refl _) _).alloc (by simp) _
  have HG : GB ((w.alloc (.cells C1 26)).alloc (.cells C2 26)) ((w.alloc (.cells C1 26)).alloc (.cells C2 26)) := GB.refl (hG.below hB0 hG.z)
  have r1 : ((w.alloc (.cells C1 26)).alloc (.cells C2 26)).heap[w.heap.size]? = some (.cells C1 26 (0, 0)) := by rw [Below.heap_alloc _ _ _ (by simp)]; exact heap_alloc_new _ _
  have r2 : ((w.alloc (.cells C1 26)).alloc (.cells C2 26)).heap[w.heap.size + 1]? = some (.cells C2 26 (0, 0)) := alloc_at _ _ (by simp) _
  have HRW : Hid (∀ W, GB ((w.alloc (.cells C1 26)).alloc (.cells C2 26)) W → W.heap[w.heap.size]? = some (.cells C1 26 (0, 0)) ∧ W.heap[w.heap.size + 1]? = some (.cells C2 26 (0, 0))) := fun W g =>
    ⟨by rw [g.b.block _ (by simp; omega)]; exact r1, by rw [g.b.block _ (by simp)]; exact r2⟩
  have HFI : Hid (∀ W, GB ((w.alloc (.cells C1 26)).alloc (.cells C2 26)) W → Below w.heap.size w W) := fun W g => hB0.trans (g.b.mono hB0.size)
  obtain ⟨fs, hum⟩ := und27m
  have hz := zero34_size
  have hzz : ∀ W, (zeroValue 26).run Tryd.prog W = .ok (.agg zero34) W := zero27m
  generalize zero34 = Z at *
  have HST : Hid (∀ W : World, (W.alloc (.cells Z 26)).heap[W.heap.size]? = some (.cells Z 26 (0, 0))) := fun W => heap_alloc_new W _
  clear hG hB0 r1 r2
  have z1 : (M.bs s == M.bs s) = true := by show ((M.bs s).data == (M.bs s).data) = true; simp
  have z2 : ((M.bs s).toList == (M.bs s).toList) = true := by simp
  go_enter Tryd.func3, Tryd.ntmps3
  go_wp2_with (first
    | (go_at_call 5; refine (awake3_g HG).mono ?_; clear HG; rintro e w0 ⟨rfl, HG⟩; obtain ⟨f1, f2⟩ := HRW.out _ HG)
    | (refine wl_rowX (by rfl) 26 (.tmp 3) rfl w.heap.size rfl 26 C1 (0, 0) _ f1 hum rfl (by rw [s1]; exact info27m) ?_)
    | (refine wl_rowX (by rfl) 26 (.tmp 4) rfl (w.heap.size + 1) rfl 26 C2 (0, 0) _ f2 hum rfl (by rw [s2]; exact info27m) ?_)
    | (go_at_call 6; refine (T1.out _ HG).mono ?_; clear T1 f1 f2; rintro r w1 ⟨rfl, HBx⟩; replace HG := HG.step HBx; clear HBx; obtain ⟨f1, f2⟩ := HRW.out _ HG)
    | (go_at_call 6; refine (T2.out _ HG).mono ?_; clear T2 f1 f2; rintro r w2 ⟨rfl, HBx⟩; replace HG := HG.step HBx; clear HBx; obtain ⟨f1, f2⟩ := HRW.out _ HG)
    | (go_at_call 7; refine (E1.out _ HG).mono ?_; clear E1 f1 f2; rintro r w3 ⟨rfl, HBx⟩; replace HG := HG.step HBx; clear HBx; obtain ⟨f1, f2⟩ := HRW.out _ HG)
    | (go_at_call 7; refine (E2.out _ HG).mono ?_; clear E2 f1 f2; rintro r w4 ⟨rfl, HBx⟩; replace HG := HG.step HBx; clear HBx; obtain ⟨f1, f2⟩ := HRW.out _ HG)
    | (go_at_call 8; refine (G1.out _ HG).mono ?_; clear G1 f1 f2; rintro r w5 ⟨rfl, HBx⟩; replace HG := HG.step HBx; clear HBx; obtain ⟨f1, f2⟩ := HRW.out _ HG)
    | (go_at_call 10; refine (D2.out _ HG).mono ?_; clear D2 f1 f2; rintro r w9 ⟨CL, l1, l2, rfl, HBx, SZ⟩; replace HG := HG.step HBx; clear HBx; have SZ : Hid _ := SZ)
    | (refine wpList_store_row rfl 26 _ _ rfl w9.heap.size CL rfl rfl 26 Z (HST.out w9) (by rw [l1]; exact info27m) (by rw [hz, l1]) l2 ?_; rw [World.setRow_alloc_new]; clear l2; replace HG := HG.alloc (.cells CL 26); have f4 : (w9.alloc (.cells CL 26)).heap[w9.heap.size]? = some (.cells CL 26 (0, 0)) := heap_alloc_new _ _)
    | (refine wl_rowX (by rfl) 26 (.tmp 13) rfl w9.heap.size rfl 26 CL (0, 0) _ f4 hum rfl (by rw [l1]; exact info27m) ?_)
    | (go_at_call 7; refine (SZ.out _ ((Below.refl _ w9).alloc (Nat.le_refl _) _)).mono ?_; clear SZ f4; rintro r w10 ⟨rfl, HBx⟩; replace HG := HG.step HBx; clear HBx))
  go_ret
  exact ⟨rfl, HFI.out _ HG⟩

set_option maxRecDepth 8000 in
set_option maxHeartbeats 4000000 in
theorem frm_ny3 (C1 C2 : Array Value) (s : List UInt8) (w : World) (hG : GW w) (s1 : C1.size = 34) (s2 : C2.size = 34) (X Y : ByteArray)
    (T1 : Hid (∀ W, GB ((w.alloc (.cells C1 26)).alloc (.cells C2 26)) W → Calls Tryd.prog 6 #[.agg C1, .slice none 0 0] W fun e w' => e = .returned (.bool false) ∧ Below W.heap.size W w'))
    (T2 : Hid (∀ W, GB ((w.alloc (.cells C1 26)).alloc (.cells C2 26)) W → Calls Tryd.prog 6 #[.agg C2, .slice none 0 0] W fun e w' => e = .returned (.bool false) ∧ Below W.heap.size W w'))
    (E1 : Hid (∀ W, GB ((w.alloc (.cells C1 26)).alloc (.cells C2 26)) W → Calls Tryd.prog 7 #[.agg C1] W fun r w' => r = .returned (.tuple #[.string X, .int .i64 1]) ∧ Below W.heap.size W w'))
    (E2 : Hid (∀ W, GB ((w.alloc (.cells C1 26)).alloc (.cells C2 26)) W → Calls Tryd.prog 7 #[.agg C2] W fun r w' => r = .returned (.tuple #[.string Y, .int .i64 0]) ∧ Below W.heap.size W w'))
    (G1 : Hid (∀ W, GB ((w.alloc (.cells C1 26)).alloc (.cells C2 26)) W → Calls Tryd.prog 8 #[.agg C1] W fun r w' => r = .returned (.bool false) ∧ Below W.heap.size W w'))
    (D2 : Hid (∀ W, GB ((w.alloc (.cells C1 26)).alloc (.cells C2 26)) W → Calls Tryd.prog 10 #[.string (M.bs s)] W fun r w' => ∃ CK, CK.size = 34 ∧ CK.all (·.oneCell') = true ∧ r = .returned (.tuple #[.agg CK, .int .i64 3]) ∧ Below W.heap.size W w' ∧
      (∀ W', Below w'.heap.size w' W' → Calls Tryd.prog 9 #[.agg CK, .agg zero34] W' fun r w'' => r = .returned (.bool true) ∧ Below W'.heap.size W' w''))) :
    Calls Tryd.prog 3 #[.agg C1, .agg C2, .string (M.bs s)] w fun e w' => e = .returned (.bool true) ∧ Below w.heap.size w w' := by
  have hB0 : Below w.heap.size w ((w.alloc (.cells C1 26)).alloc (.cells C2 26)) := ((Below.refl _ w).alloc (Nat.le_refl _) _).alloc (by simp) _
  have HG : GB ((w.alloc (.cells C1 26)).alloc (.cells C2 26)) ((w.alloc (.cells C1 26)).alloc (.cells C2 26)) := GB.refl (hG.below hB0 hG.z)
  have r1 : ((w.alloc (.cells C1 26)).alloc (.cells C2 26)).heap[w.heap.size]? = some (.cells C1 26 (0, 0)) := by rw [Below.heap_alloc _ _ _ (by simp)]; exact heap_alloc_new _ _
  have r2 : ((w.alloc (.cells C1 26)).alloc (.cells C2 26)).heap[w.heap.size + 1]? = some (.cells C2 26 (0, 0)) := alloc_at _ _ (by simp) _
  have HRW : Hid (∀ W, GB ((w.alloc (.cells C1 26)).alloc (.cells C2 26)) W → W.heap[w.heap.size]? = some (.cells C1 26 (0, 0)) ∧ W.heap[w.heap.size + 1]? = some (.cells C2 26 (0, 0))) := fun W g =>
    ⟨by rw [g.b.block _ (by simp; omega)]; exact r1, by rw [g.b.block _ (by simp)]; exact r2⟩
  have HFI : Hid (∀ W, GB ((w.alloc (.cells C1 26)).alloc (.cells C2 26)) W → Below w.heap.size w W) := fun W g => hB0.trans (g.b.mono hB0.size)
  obtain ⟨fs, hum⟩ := und27m
  have hz := zero34_size
  have hzz : ∀ W, (zeroValue 26).run Tryd.prog W = .ok (.agg zero34) W := zero27m
  generalize zero34 = Z at *
  have HST : Hid (∀ W : World, (W.alloc (.cells Z 26)).heap[W.heap.size]? = some (.cells Z 26 (0, 0))) := fun W => heap_alloc_new W _
  clear hG hB0 r1 r2
  go_enter Tryd.func3, Tryd.ntmps3
  go_wp2_with (first
    | (go_at_call 5; refine (awake3_g HG).mono ?_; clear HG; rintro e w0 ⟨rfl, HG⟩; obtain ⟨f1, f2⟩ := HRW.out _ HG)
    | (refine wl_rowX (by rfl) 26 (.tmp 3) rfl w.heap.size rfl 26 C1 (0, 0) _ f1 hum rfl (by rw [s1]; exact info27m) ?_)
    | (refine wl_rowX (by rfl) 26 (.tmp 4) rfl (w.heap.size + 1) rfl 26 C2 (0, 0) _ f2 hum rfl (by rw [s2]; exact info27m) ?_)
    | (go_at_call 6; refine (T1.out _ HG).mono ?_; clear T1 f1 f2; rintro r w1 ⟨rfl, HBx⟩; replace HG := HG.step HBx; clear HBx; obtain ⟨f1, f2⟩ := HRW.out _ HG)
    | (go_at_call 6; refine (T2.out _ HG).mono ?_; clear T2 f1 f2; rintro r w2 ⟨rfl, HBx⟩; replace HG := HG.step HBx; clear HBx; obtain ⟨f1, f2⟩ := HRW.out _ HG)
    | (go_at_call 7; refine (E1.out _ HG).mono ?_; clear E1 f1 f2; rintro r w3 ⟨rfl, HBx⟩; replace HG := HG.step HBx; clear HBx; obtain ⟨f1, f2⟩ := HRW.out _ HG)
    | (go_at_call 7; refine (E2.out _ HG).mono ?_; clear E2 f1 f2; rintro r w4 ⟨rfl, HBx⟩; replace HG := HG.step HBx; clear HBx; obtain ⟨f1, f2⟩ := HRW.out _ HG)
    | (go_at_call 8; refine (G1.out _ HG).mono ?_; clear G1 f1 f2; rintro r w5 ⟨rfl, HBx⟩; replace HG := HG.step HBx; clear HBx; obtain ⟨f1, f2⟩ := HRW.out _ HG)
    | (go_at_call 10; refine (D2.out _ HG).mono ?_; clear D2 f1 f2; rintro r w9 ⟨CL, l1, l2, rfl, HBx, SZ⟩; replace HG := HG.step HBx; clear HBx; have SZ : Hid _ := SZ)
    | (refine wpList_store_row rfl 26 _ _ rfl w9.heap.size CL rfl rfl 26 Z (HST.out w9) (by rw [l1]; exact info27m) (by rw [hz, l1]) l2 ?_; rw [World.setRow_alloc_new]; clear l2; replace HG := HG.alloc (.cells CL 26); have f4 : (w9.alloc (.cells CL 26)).heap[w9.heap.size]? = some (.cells CL 26 (0, 0)) := heap_alloc_new _ _)
    | (refine wl_rowX (by rfl) 26 (.tmp 13) rfl w9.heap.size rfl 26 CL (0, 0) _ f4 hum rfl (by rw [l1]; exact info27m) ?_)
    | (go_at_call 9; refine (SZ.out _ ((Below.refl _ w9).alloc (Nat.le_refl _) _)).mono ?_; clear SZ f4; rintro r w10 ⟨rfl, HBx⟩; replace HG := HG.step HBx; clear HBx))
  go_ret
  exact ⟨rfl, HFI.out _ HG⟩

set_option maxRecDepth 8000 in
set_option maxHeartbeats 4000000 in
theorem frm_ny0 (C1 C2 : Array Value) (s : List UInt8) (w : World) (hG : GW w) (s1 : C1.size = 34) (s2 : C2.size = 34) (X Y : ByteArray)
    (T1 : Hid (∀ W, GB ((w.alloc (.cells C1 26)).alloc (.cells C2 26)) W → Calls Tryd.prog 6 #[.agg C1, .slice none 0 0] W fun e w' => e = .returned (.bool false) ∧ Below W.heap.size W w'))
    (T2 : Hid (∀ W, GB ((w.alloc (.cells C1 26)).alloc (.cells C2 26)) W → Calls Tryd.prog 6 #[.agg C2, .slice none 0 0] W fun e w' => e = .returned (.bool false) ∧ Below W.heap.size W w'))
    (E1 : Hid (∀ W, GB ((w.alloc (.cells C1 26)).alloc (.cells C2 26)) W → Calls Tryd.prog 7 #[.agg C1] W fun r w' => r = .returned (.tuple #[.string X, .int .i64 1]) ∧ Below W.heap.size W w'))
    (E2 : Hid (∀ W, GB ((w.alloc (.cells C1 26)).alloc (.cells C2 26)) W → Calls Tryd.prog 7 #[.agg C2] W fun r w' => r = .returned (.tuple #[.string Y, .int .i64 0]) ∧ Below W.heap.size W w'))
    (G1 : Hid (∀ W, GB ((w.alloc (.cells C1 26)).alloc (.cells C2 26)) W → Calls Tryd.prog 8 #[.agg C1] W fun r w' => r = .returned (.bool false) ∧ Below W.heap.size W w'))
    (D2 : Hid (∀ W, GB ((w.alloc (.cells C1 26)).alloc (.cells C2 26)) W → Calls Tryd.prog 10 #[.string (M.bs s)] W fun r w' => ∃ CK, CK.size = 34 ∧ CK.all (·.oneCell') = true ∧ r = .returned (.tuple #[.agg CK, .int .i64 0]) ∧ Below W.heap.size W w' ∧
      (∀ W', Below w'.heap.size w' W' → Calls Tryd.prog 7 #[.agg CK] W' fun r w'' => r = .returned (.tuple #[.string (M.bs s), .int .i64 0]) ∧ Below W'.heap.size W' w''))) :
    Calls Tryd.prog 3 #[.agg C1, .agg C2, .string (M.bs s)] w fun e w' => e = .returned (.bool true) ∧ Below w.heap.size w w' := by
  have hB0 : Below w.heap.size w ((w.alloc (.cells C1 26)).alloc (.cells C2 26)) := ((Below.refl _ w).alloc (Nat.le_refl _) _).alloc (by simp) _
  have HG : GB ((w.alloc (.cells C1 26)).alloc (.cells C2 26)) ((w.alloc (.cells C1 26)).alloc (.cells C2 26)) := GB.refl (hG.below hB0 hG.z)
  have r1 : ((w.alloc (.cells C1 26)).alloc (.cells C2 26)).heap[w.heap.size]? = some (.cells C1 26 (0, 0)) := by rw [Below.heap_alloc _ _ _ (by simp)]; exact heap_alloc_new _ _
  have r2 : ((w.alloc (.cells C1 26)).alloc (.cells C2 26)).heap[w.heap.size + 1]? = some (.cells C2 26 (0, 0)) := alloc_at _ _ (by simp) _
  have HRW : Hid (∀ W, GB ((w.alloc (.cells C1 26)).alloc (.cells C2 26)) W → W.heap[w.heap.size]? = some (.cells C1 26 (0, 0)) ∧ W.heap[w.heap.size + 1]? = some (.cells C2 26 (0, 0))) := fun W g =>
    ⟨by rw [g.b.block _ (by simp; omega)]; exact r1, by rw [g.b.block _ (by simp)]; exact r2⟩
  have HFI : Hid (∀ W, GB ((w.alloc (.cells C1 26)).alloc (.cells C2 26)) W → Below w.heap.size w W) := fun W g => hB0.trans (g.b.mono hB0.size)
  obtain ⟨fs, hum⟩ := und27m
  have hz := zero34_size
  have hzz : ∀ W, (zeroValue 26).run Tryd.prog W = .ok (.agg zero34) W := zero27m
  generalize zero34 = Z at *
  have HST : Hid (∀ W : World, (W.alloc (.cells Z 26)).heap[W.heap.size]? = some (.cells Z 26 (0, 0))) := fun W => heap_alloc_new W _
  clear hG hB0 r1 r2
  have z1 : (M.bs s == M.bs s) = true := by show ((M.bs s).data == (M.bs s).data) = true; simp
  have z2 : ((M.bs s).toList == (M.bs s).toList) = true := by simp
  go_enter Tryd.func3, Tryd.ntmps3
  go_wp2_with (first
    | (go_at_call 5; refine (awake3_g HG).mono ?_; clear HG; rintro e w0 ⟨rfl, HG⟩; obtain ⟨f1, f2⟩ := HRW.out _ HG)
    | (refine wl_rowX (by rfl) 26 (.tmp 3) rfl w.heap.size rfl 26 C1 (0, 0) _ f1 hum rfl (by rw [s1]; exact info27m) ?_)
    | (refine wl_rowX (by rfl) 26 (.tmp 4) rfl (w.heap.size + 1) rfl 26 C2 (0, 0) _ f2 hum rfl (by rw [s2]; exact info27m) ?_)
    | (go_at_call 6; refine (T1.out _ HG).mono ?_; clear T1 f1 f2; rintro r w1 ⟨rfl, HBx⟩; replace HG := HG.step HBx; clear HBx; obtain ⟨f1, f2⟩ := HRW.out _ HG)
    | (go_at_call 6; refine (T2.out _ HG).mono ?_; clear T2 f1 f2; rintro r w2 ⟨rfl, HBx⟩; replace HG := HG.step HBx; clear HBx; obtain ⟨f1, f2⟩ := HRW.out _ HG)
    | (go_at_call 7; refine (E1.out _ HG).mono ?_; clear E1 f1 f2; rintro r w3 ⟨rfl, HBx⟩; replace HG := HG.step HBx; clear HBx; obtain ⟨f1, f2⟩ := HRW.out _ HG)
    | (go_at_call 7; refine (E2.out _ HG).mono ?_; clear E2 f1 f2; rintro r w4 ⟨rfl, HBx⟩; replace HG := HG.step HBx; clear HBx; obtain ⟨f1, f2⟩ := HRW.out _ HG)
    | (go_at_call 8; refine (G1.out _ HG).mono ?_; clear G1 f1 f2; rintro r w5 ⟨rfl, HBx⟩; replace HG := HG.step HBx; clear HBx; obtain ⟨f1, f2⟩ := HRW.out _ HG)
    | (go_at_call 10; refine (D2.out _ HG).mono ?_; clear D2 f1 f2; rintro r w9 ⟨CL, l1, l2, rfl, HBx, SZ⟩; replace HG := HG.step HBx; clear HBx; have SZ : Hid _ := SZ)
    | (refine wpList_store_row rfl 26 _ _ rfl w9.heap.size CL rfl rfl 26 Z (HST.out w9) (by rw [l1]; exact info27m) (by rw [hz, l1]) l2 ?_; rw [World.setRow_alloc_new]; clear l2; replace HG := HG.alloc (.cells CL 26); have f4 : (w9.alloc (.cells CL 26)).heap[w9.heap.size]? = some (.cells CL 26 (0, 0)) := heap_alloc_new _ _)
    | (refine wl_rowX (by rfl) 26 (.tmp 13) rfl w9.heap.size rfl 26 CL (0, 0) _ f4 hum rfl (by rw [l1]; exact info27m) ?_)
    | (go_at_call 7; refine (SZ.out _ ((Below.refl _ w9).alloc (Nat.le_refl _) _)).mono ?_; clear SZ f4; rintro r w10 ⟨rfl, HBx⟩; replace HG := HG.step HBx; clear HBx))
  go_ret
  exact ⟨rfl, HFI.out _ HG⟩

set_option maxRecDepth 8000 in
set_option maxHeartbeats 4000000 in
theorem frm_yn3 (C1 C2 : Array Value) (s : List UInt8) (w : World) (hG : GW w) (s1 : C1.size = 34) (s2 : C2.size = 34) (X Y : ByteArray)
    (T1 : Hid (∀ W, GB ((w.alloc (.cells C1 26)).alloc (.cells C2 26)) W → Calls Tryd.prog 6 #[.agg C1, .slice none 0 0] W fun e w' => e = .returned (.bool false) ∧ Below W.heap.size W w'))
    (T2 : Hid (∀ W, GB ((w.alloc (.cells C1 26)).alloc (.cells C2 26)) W → Calls Tryd.prog 6 #[.agg C2, .slice none 0 0] W fun e w' => e = .returned (.bool false) ∧ Below W.heap.size W w'))
    (E1 : Hid (∀ W, GB ((w.alloc (.cells C1 26)).alloc (.cells C2 26)) W → Calls Tryd.prog 7 #[.agg C1] W fun r w' => r = .returned (.tuple #[.string X, .int .i64 0]) ∧ Below W.heap.size W w'))
    (E2 : Hid (∀ W, GB ((w.alloc (.cells C1 26)).alloc (.cells C2 26)) W → Calls Tryd.prog 7 #[.agg C2] W fun r w' => r = .returned (.tuple #[.string Y, .int .i64 1]) ∧ Below W.heap.size W w'))
    (G1 : Hid (∀ W, GB ((w.alloc (.cells C1 26)).alloc (.cells C2 26)) W → Calls Tryd.prog 8 #[.agg C1] W fun r w' => r = .returned (.bool true) ∧ Below W.heap.size W w'))
    (D1 : Hid (∀ W, GB ((w.alloc (.cells C1 26)).alloc (.cells C2 26)) W → Calls Tryd.prog 10 #[.string X] W fun r w' => ∃ CK, CK.size = 34 ∧ CK.all (·.oneCell') = true ∧ r = .returned (.tuple #[.agg CK, .int .i64 0]) ∧ Below W.heap.size W w' ∧ ∀ W', Below w'.heap.size w' W' → Calls Tryd.prog 9 #[.agg CK, .agg C1] W' fun r w'' => r = .returned (.bool true) ∧ Below W'.heap.size W' w''))
    (D2 : Hid (∀ W, GB ((w.alloc (.cells C1 26)).alloc (.cells C2 26)) W → Calls Tryd.prog 10 #[.string (M.bs s)] W fun r w' => ∃ CK, CK.size = 34 ∧ CK.all (·.oneCell') = true ∧ r = .returned (.tuple #[.agg CK, .int .i64 3]) ∧ Below W.heap.size W w' ∧
      (∀ W', Below w'.heap.size w' W' → Calls Tryd.prog 9 #[.agg CK, .agg zero34] W' fun r w'' => r = .returned (.bool true) ∧ Below W'.heap.size W' w''))) :
    Calls Tryd.prog 3 #[.agg C1, .agg C2, .string (M.bs s)] w fun e w' => e = .returned (.bool true) ∧ Below w.heap.size w w' := by
  have hB0 : Below w.heap.size w ((w.alloc (.cells C1 26)).alloc (.cells C2 26)) := ((Below.refl _ w).alloc (Nat.le_refl _) _).alloc (by simp) _
  have HG : GB ((w.alloc (.cells C1 26)).alloc (.cells C2 26)) ((w.alloc (.cells C1 26)).alloc (.cells C2 26)) := GB.refl (hG.below hB0 hG.z)
  have r1 : ((w.alloc (.cells C1 26)).alloc (.cells C2 26)).heap[w.heap.size]? = some (.cells C1 26 (0, 0)) := by rw [Below.heap_alloc _ _ _ (by simp)]; exact heap_alloc_new _ _
  have r2 : ((w.alloc (.cells C1 26)).alloc (.cells C2 26)).heap[w.heap.size + 1]? = some (.cells C2 26 (0, 0)) := alloc_at _ _ (by simp) _
  have HRW : Hid (∀ W, GB ((w.alloc (.cells C1 26)).alloc (.cells C2 26)) W → W.heap[w.heap.size]? = some (.cells C1 26 (0, 0)) ∧ W.heap[w.heap.size + 1]? = some (.cells C2 26 (0, 0))) := fun W g =>
    ⟨by rw [g.b.block _ (by simp; omega)]; exact r1, by rw [g.b.block _ (by simp)]; exact r2⟩
  have HFI : Hid (∀ W, GB ((w.alloc (.cells C1 26)).alloc (.cells C2 26)) W → Below w.heap.size w W) := fun W g => hB0.trans (g.b.mono hB0.size)
  obtain ⟨fs, hum⟩ := und27m
  have hz := zero34_size
  have hzz : ∀ W, (zeroValue 26).run Tryd.prog W = .ok (.agg zero34) W := zero27m
  generalize zero34 = Z at *
  have HST : Hid (∀ W : World, (W.alloc (.cells Z 26)).heap[W.heap.size]? = some (.cells Z 26 (0, 0))) := fun W => heap_alloc_new W _
  clear hG hB0 r1 r2
  go_enter Tryd.func3, Tryd.ntmps3
  go_wp2_with (first
    | (go_at_call 5; refine (awake3_g HG).mono ?_; clear HG; rintro e w0 ⟨rfl, HG⟩; obtain ⟨f1, f2⟩ := HRW.out _ HG)
    | (refine wl_rowX (by rfl) 26 (.tmp 3) rfl w.heap.size rfl 26 C1 (0, 0) _ f1 hum rfl (by rw [s1]; exact info27m) ?_)
    | (refine wl_rowX (by rfl) 26 (.tmp 4) rfl (w.heap.size + 1) rfl 26 C2 (0, 0) _ f2 hum rfl (by rw [s2]; exact info27m) ?_)
    | (go_at_call 6; refine (T1.out _ HG).mono ?_; clear T1 f1 f2; rintro r w1 ⟨rfl, HBx⟩; replace HG := HG.step HBx; clear HBx; obtain ⟨f1, f2⟩ := HRW.out _ HG)
    | (go_at_call 6; refine (T2.out _ HG).mono ?_; clear T2 f1 f2; rintro r w2 ⟨rfl, HBx⟩; replace HG := HG.step HBx; clear HBx; obtain ⟨f1, f2⟩ := HRW.out _ HG)
    | (go_at_call 7; refine (E1.out _ HG).mono ?_; clear E1 f1 f2; rintro r w3 ⟨rfl, HBx⟩; replace HG := HG.step HBx; clear HBx; obtain ⟨f1, f2⟩ := HRW.out _ HG)
    | (go_at_call 7; refine (E2.out _ HG).mono ?_; clear E2 f1 f2; rintro r w4 ⟨rfl, HBx⟩; replace HG := HG.step HBx; clear HBx; obtain ⟨f1, f2⟩ := HRW.out _ HG)
    | (go_at_call 8; refine (G1.out _ HG).mono ?_; clear G1 f1 f2; rintro r w5 ⟨rfl, HBx⟩; replace HG := HG.step HBx; clear HBx; obtain ⟨f1, f2⟩ := HRW.out _ HG)
    | (go_at_call 10; refine (D1.out _ HG).mono ?_; clear D1 f1 f2; rintro r w7 ⟨CK, k1, k2, rfl, HBx, SK⟩; replace HG := HG.step HBx; clear HBx; have SK : Hid _ := SK)
    | (refine wpList_store_row rfl 26 _ _ rfl w7.heap.size CK rfl rfl 26 Z (HST.out w7) (by rw [k1]; exact info27m) (by rw [hz, k1]) k2 ?_; rw [World.setRow_alloc_new]; clear k2; replace HG := HG.alloc (.cells CK 26); obtain ⟨f1, f2⟩ := HRW.out _ HG; have f3 : (w7.alloc (.cells CK 26)).heap[w7.heap.size]? = some (.cells CK 26 (0, 0)) := heap_alloc_new _ _)
    | (refine wl_rowX (by rfl) 26 (.tmp 11) rfl w7.heap.size rfl 26 CK (0, 0) _ f3 hum rfl (by rw [k1]; exact info27m) ?_)
    | (go_at_call 9; refine (SK.out _ ((Below.refl _ w7).alloc (Nat.le_refl _) _)).mono ?_; clear SK f1 f2 f3; rintro r w8 ⟨rfl, HBx⟩; replace HG := HG.step HBx; clear HBx; obtain ⟨f1, f2⟩ := HRW.out _ HG)
    | (go_at_call 10; refine (D2.out _ HG).mono ?_; clear D2 f1 f2; rintro r w9 ⟨CL, l1, l2, rfl, HBx, SZ⟩; replace HG := HG.step HBx; clear HBx; have SZ : Hid _ := SZ)
    | (refine wpList_store_row rfl 26 _ _ rfl w9.heap.size CL rfl rfl 26 Z (HST.out w9) (by rw [l1]; exact info27m) (by rw [hz, l1]) l2 ?_; rw [World.setRow_alloc_new]; clear l2; replace HG := HG.alloc (.cells CL 26); have f4 : (w9.alloc (.cells CL 26)).heap[w9.heap.size]? = some (.cells CL 26 (0, 0)) := heap_alloc_new _ _)
    | (refine wl_rowX (by rfl) 26 (.tmp 13) rfl w9.heap.size rfl 26 CL (0, 0) _ f4 hum rfl (by rw [l1]; exact info27m) ?_)
    | (go_at_call 9; refine (SZ.out _ ((Below.refl _ w9).alloc (Nat.le_refl _) _)).mono ?_; clear SZ f4; rintro r w10 ⟨rfl, HBx⟩; replace HG := HG.step HBx; clear HBx))
  go_ret
  exact ⟨rfl, HFI.out _ HG⟩

set_option maxRecDepth 8000 in
set_option maxHeartbeats 4000000 in
theorem frm_yn0 (C1 C2 : Array Value) (s : List UInt8) (w : World) (hG : GW w) (s1 : C1.size = 34) (s2 : C2.size = 34) (X Y : ByteArray)
    (T1 : Hid (∀ W, GB ((w.alloc (.cells C1 26)).alloc (.cells C2 26)) W → Calls Tryd.prog 6 #[.agg C1, .slice none 0 0] W fun e w' => e = .returned (.bool false) ∧ Below W.heap.size W w'))
    (T2 : Hid (∀ W, GB ((w.alloc (.cells C1 26)).alloc (.cells C2 26)) W → Calls Tryd.prog 6 #[.agg C2, .slice none 0 0] W fun e w' => e = .returned (.bool false) ∧ Below W.heap.size W w'))
    (E1 : Hid (∀ W, GB ((w.alloc (.cells C1 26)).alloc (.cells C2 26)) W → Calls Tryd.prog 7 #[.agg C1] W fun r w' => r = .returned (.tuple #[.string X, .int .i64 0]) ∧ Below W.heap.size W w'))
    (E2 : Hid (∀ W, GB ((w.alloc (.cells C1 26)).alloc (.cells C2 26)) W → Calls Tryd.prog 7 #[.agg C2] W fun r w' => r = .returned (.tuple #[.string Y, .int .i64 1]) ∧ Below W.heap.size W w'))
    (G1 : Hid (∀ W, GB ((w.alloc (.cells C1 26)).alloc (.cells C2 26)) W → Calls Tryd.prog 8 #[.agg C1] W fun r w' => r = .returned (.bool true) ∧ Below W.heap.size W w'))
    (D1 : Hid (∀ W, GB ((w.alloc (.cells C1 26)).alloc (.cells C2 26)) W → Calls Tryd.prog 10 #[.string X] W fun r w' => ∃ CK, CK.size = 34 ∧ CK.all (·.oneCell') = true ∧ r = .returned (.tuple #[.agg CK, .int .i64 0]) ∧ Below W.heap.size W w' ∧ ∀ W', Below w'.heap.size w' W' → Calls Tryd.prog 9 #[.agg CK, .agg C1] W' fun r w'' => r = .returned (.bool true) ∧ Below W'.heap.size W' w''))
    (D2 : Hid (∀ W, GB ((w.alloc (.cells C1 26)).alloc (.cells C2 26)) W → Calls Tryd.prog 10 #[.string (M.bs s)] W fun r w' => ∃ CK, CK.size = 34 ∧ CK.all (·.oneCell') = true ∧ r = .returned (.tuple #[.agg CK, .int .i64 0]) ∧ Below W.heap.size W w' ∧
      (∀ W', Below w'.heap.size w' W' → Calls Tryd.prog 7 #[.agg CK] W' fun r w'' => r = .returned (.tuple #[.string (M.bs s), .int .i64 0]) ∧ Below W'.heap.size W' w''))) :
    Calls Tryd.prog 3 #[.agg C1, .agg C2, .string (M.bs s)] w fun e w' => e = .returned (.bool true) ∧ Below w.heap.size w w' := by
  have hB0 : Below w.heap.size w ((w.alloc (.cells C1 26)).alloc (.cells C2 26)) := ((Below.refl _ w).alloc (Nat.le_refl _) _).alloc (by simp) _
  have HG : GB ((w.alloc (.cells C1 26)).alloc (.cells C2 26)) ((w.alloc (.cells C1 26)).alloc (.cells C2 26)) := GB.refl (hG.below hB0 hG.z)
  have r1 : ((w.alloc (.cells C1 26)).alloc (.cells C2 26)).heap[w.heap.size]? = some (.cells C1 26 (0, 0)) := by rw [Below.heap_alloc _ _ _ (by simp)]; exact heap_alloc_new _ _
  have r2 : ((w.alloc (.cells C1 26)).alloc (.cells C2 26)).heap[w.heap.size + 1]? = some (.cells C2 26 (0, 0)) := alloc_at _ _ (by simp) _
  have HRW : Hid (∀ W, GB ((w.alloc (.cells C1 26)).alloc (.cells C2 26)) W → W.heap[w.heap.size]? = some (.cells C1 26 (0, 0)) ∧ W.heap[w.heap.size + 1]? = some (.cells C2 26 (0, 0))) := fun W g =>
    ⟨by rw [g.b.block _ (by simp; omega)]; exact r1, by rw [g.b.block _ (by simp)]; exact r2⟩
  have HFI : Hid (∀ W, GB ((w.alloc (.cells C1 26)).alloc (.cells C2 26)) W → Below w.heap.size w W) := fun W g => hB0.trans (g.b.mono hB0.size)
  obtain ⟨fs, hum⟩ := und27m
  have hz := zero34_size
  have hzz : ∀ W, (zeroValue 26).run Tryd.prog W = .ok (.agg zero34) W := zero27m
  generalize zero34 = Z at *
  have HST : Hid (∀ W : World, (W.alloc (.cells Z 26)).heap[W.heap.size]? = some (.cells Z 26 (0, 0))) := fun W => heap_alloc_new W _
  clear hG hB0 r1 r2
  have z1 : (M.bs s == M.bs s) = true := by show ((M.bs s).data == (M.bs s).data) = true; simp
  have z2 : ((M.bs s).toList == (M.bs s).toList) = true := by simp
  go_enter Tryd.func3, Tryd.ntmps3
  go_wp2_with (first
    | (go_at_call 5; refine (awake3_g HG).mono ?_; clear HG; rintro e w0 ⟨rfl, HG⟩; obtain ⟨f1, f2⟩ := HRW.out _ HG)
    | (refine wl_rowX (by rfl) 26 (.tmp 3) rfl w.heap.size rfl 26 C1 (0, 0) _ f1 hum rfl (by rw [s1]; exact info27m) ?_)
    | (refine wl_rowX (by rfl) 26 (.tmp 4) rfl (w.heap.size + 1) rfl 26 C2 (0, 0) _ f2 hum rfl (by rw [s2]; exact info27m) ?_)
    | (go_at_call 6; refine (T1.out _ HG).mono ?_; clear T1 f1 f2; rintro r w1 ⟨rfl, HBx⟩; replace HG := HG.step HBx; clear HBx; obtain ⟨f1, f2⟩ := HRW.out _ HG)
    | (go_at_call 6; refine (T2.out _ HG).mono ?_; clear T2 f1 f2; rintro r w2 ⟨rfl, HBx⟩; replace HG := HG.step HBx; clear HBx; obtain ⟨f1, f2⟩ := HRW.out _ HG)
    | (go_at_call 7; refine (E1.out _ HG).mono ?_; clear E1 f1 f2; rintro r w3 ⟨rfl, HBx⟩; replace HG := HG.step HBx; clear HBx; obtain ⟨f1, f2⟩ := HRW.out _ HG)
    | (go_at_call 7; refine (E2.out _ HG).mono ?_; clear E2 f1 f2; rintro r w4 ⟨rfl, HBx⟩; replace HG := HG.step HBx; clear HBx; obtain ⟨f1, f2⟩ := HRW.out _ HG)
    | (go_at_call 8; refine (G1.out _ HG).mono ?_; clear G1 f1 f2; rintro r w5 ⟨rfl, HBx⟩; replace HG := HG.step HBx; clear HBx; obtain ⟨f1, f2⟩ := HRW.out _ HG)
    | (go_at_call 10; refine (D1.out _ HG).mono ?_; clear D1 f1 f2; rintro r w7 ⟨CK, k1, k2, rfl, HBx, SK⟩; replace HG := HG.step HBx; clear HBx; have SK : Hid _ := SK)
    | (refine wpList_store_row rfl 26 _ _ rfl w7.heap.size CK rfl rfl 26 Z (HST.out w7) (by rw [k1]; exact info27m) (by rw [hz, k1]) k2 ?_; rw [World.setRow_alloc_new]; clear k2; replace HG := HG.alloc (.cells CK 26); obtain ⟨f1, f2⟩ := HRW.out _ HG; have f3 : (w7.alloc (.cells CK 26)).heap[w7.heap.size]? = some (.cells CK 26 (0, 0)) := heap_alloc_new _ _)
    | (refine wl_rowX (by rfl) 26 (.tmp 11) rfl w7.heap.size rfl 26 CK (0, 0) _ f3 hum rfl (by rw [k1]; exact info27m) ?_)
    | (go_at_call 9; refine (SK.out _ ((Below.refl _ w7).alloc (Nat.le_refl _) _)).mono ?_; clear SK f1 f2 f3; rintro r w8 ⟨rfl, HBx⟩; replace HG := HG.step HBx; clear HBx; obtain ⟨f1, f2⟩ := HRW.out _ HG)
    | (go_at_call 10; refine (D2.out _ HG).mono ?_; clear D2 f1 f2; rintro r w9 ⟨CL, l1, l2, rfl, HBx, SZ⟩; replace HG := HG.step HBx; clear HBx; have SZ : Hid _ := SZ)
    | (refine wpList_store_row rfl 26 _ _ rfl w9.heap.size CL rfl rfl 26 Z (HST.out w9) (by rw [l1]; exact info27m) (by rw [hz, l1]) l2 ?_; rw [World.setRow_alloc_new]; clear l2; replace HG := HG.alloc (.cells CL 26); have f4 : (w9.alloc (.cells CL 26)).heap[w9.heap.size]? = some (.cells CL 26 (0, 0)) := heap_alloc_new _ _)
    | (refine wl_rowX (by rfl) 26 (.tmp 13) rfl w9.heap.size rfl 26 CL (0, 0) _ f4 hum rfl (by rw [l1]; exact info27m) ?_)
    | (go_at_call 7; refine (SZ.out _ ((Below.refl _ w9).alloc (Nat.le_refl _) _)).mono ?_; clear SZ f4; rintro r w10 ⟨rfl, HBx⟩; replace HG := HG.step HBx; clear HBx))
  go_ret
  exact ⟨rfl, HFI.out _ HG⟩

set_option maxRecDepth 8000 in
set_option maxHeartbeats 4000000 in
theorem frm_yy3 (C1 C2 : Array Value) (s : List UInt8) (w : World) (hG : GW w) (s1 : C1.size = 34) (s2 : C2.size = 34) (X Y : ByteArray) (B12 : Bool) (y1 : (X == Y) = B12) (y2 : (X.toList == Y.toList) = B12)
    (T1 : Hid (∀ W, GB ((w.alloc (.cells C1 26)).alloc (.cells C2 26)) W → Calls Tryd.prog 6 #[.agg C1, .slice none 0 0] W fun e w' => e = .returned (.bool false) ∧ Below W.heap.size W w'))
    (T2 : Hid (∀ W, GB ((w.alloc (.cells C1 26)).alloc (.cells C2 26)) W → Calls Tryd.prog 6 #[.agg C2, .slice none 0 0] W fun e w' => e = .returned (.bool false) ∧ Below W.heap.size W w'))
    (E1 : Hid (∀ W, GB ((w.alloc (.cells C1 26)).alloc (.cells C2 26)) W → Calls Tryd.prog 7 #[.agg C1] W fun r w' => r = .returned (.tuple #[.string X, .int .i64 0]) ∧ Below W.heap.size W w'))
    (E2 : Hid (∀ W, GB ((w.alloc (.cells C1 26)).alloc (.cells C2 26)) W → Calls Tryd.prog 7 #[.agg C2] W fun r w' => r = .returned (.tuple #[.string Y, .int .i64 0]) ∧ Below W.heap.size W w'))
    (G1 : Hid (∀ W, GB ((w.alloc (.cells C1 26)).alloc (.cells C2 26)) W → Calls Tryd.prog 8 #[.agg C1] W fun r w' => r = .returned (.bool true) ∧ Below W.heap.size W w'))
    (S12 : Hid (∀ W, GB ((w.alloc (.cells C1 26)).alloc (.cells C2 26)) W → Calls Tryd.prog 9 #[.agg C1, .agg C2] W fun r w' => r = .returned (.bool B12) ∧ Below W.heap.size W w'))
    (D1 : Hid (∀ W, GB ((w.alloc (.cells C1 26)).alloc (.cells C2 26)) W → Calls Tryd.prog 10 #[.string X] W fun r w' => ∃ CK, CK.size = 34 ∧ CK.all (·.oneCell') = true ∧ r = .returned (.tuple #[.agg CK, .int .i64 0]) ∧ Below W.heap.size W w' ∧ ∀ W', Below w'.heap.size w' W' → Calls Tryd.prog 9 #[.agg CK, .agg C1] W' fun r w'' => r = .returned (.bool true) ∧ Below W'.heap.size W' w''))
    (D2 : Hid (∀ W, GB ((w.alloc (.cells C1 26)).alloc (.cells C2 26)) W → Calls Tryd.prog 10 #[.string (M.bs s)] W fun r w' => ∃ CK, CK.size = 34 ∧ CK.all (·.oneCell') = true ∧ r = .returned (.tuple #[.agg CK, .int .i64 3]) ∧ Below W.heap.size W w' ∧
      (∀ W', Below w'.heap.size w' W' → Calls Tryd.prog 9 #[.agg CK, .agg zero34] W' fun r w'' => r = .returned (.bool true) ∧ Below W'.heap.size W' w''))) :
    Calls Tryd.prog 3 #[.agg C1, .agg C2, .string (M.bs s)] w fun e w' => e = .returned (.bool true) ∧ Below w.heap.size w w' := by
  have hB0 : Below w.heap.size w ((w.alloc (.cells C1 26)).alloc (.cells C2 26)) := ((Below.refl _ w).alloc (Nat.le_refl _) _).alloc (by simp) _
  have HG : GB ((w.alloc (.cells C1 26)).alloc (.cells C2 26)) ((w.alloc (.cells C1 26)).alloc (.cells C2 26)) := GB.refl (hG.below hB0 hG.z)
  have r1 : ((w.alloc (.cells C1 26)).alloc (.cells C2 26)).heap[w.heap.size]? = some (.cells C1 26 (0, 0)) := by rw [Below.heap_alloc _ _ _ (by simp)]; exact heap_alloc_new _ _
  have r2 : ((w.alloc (.cells C1 26)).alloc (.cells C2 26)).heap[w.heap.size + 1]? = some (.cells C2 26 (0, 0)) := alloc_at _ _ (by simp) _
  have HRW : Hid (∀ W, GB ((w.alloc (.cells C1 26)).alloc (.cells C2 26)) W → W.heap[w.heap.size]? = some (.cells C1 26 (0, 0)) ∧ W.heap[w.heap.size + 1]? = some (.cells C2 26 (0, 0))) := fun W g =>
    ⟨by rw [g.b.block _ (by simp; omega)]; exact r1, by rw [g.b.block _ (by simp)]; exact r2⟩
  have HFI : Hid (∀ W, GB ((w.alloc (.cells C1 26)).alloc (.cells C2 26)) W → Below w.heap.size w W) := fun W g => hB0.trans (g.b.mono hB0.size)
  obtain ⟨fs, hum⟩ := und27m
  have hz := zero34_size
  have hzz : ∀ W, (zeroValue 26).run Tryd.prog W = .ok (.agg zero34) W := zero27m
  generalize zero34 = Z at *
  have HST : Hid (∀ W : World, (W.alloc (.cells Z 26)).heap[W.heap.size]? = some (.cells Z 26 (0, 0))) := fun W => heap_alloc_new W _
  clear hG hB0 r1 r2
  have z3 : (B12 != B12) = false := by simp
  go_enter Tryd.func3, Tryd.ntmps3
  go_wp2_with (first
    | (go_at_call 5; refine (awake3_g HG).mono ?_; clear HG; rintro e w0 ⟨rfl, HG⟩; obtain ⟨f1, f2⟩ := HRW.out _ HG)
    | (refine wl_rowX (by rfl) 26 (.tmp 3) rfl w.heap.size rfl 26 C1 (0, 0) _ f1 hum rfl (by rw [s1]; exact info27m) ?_)
    | (refine wl_rowX (by rfl) 26 (.tmp 4) rfl (w.heap.size + 1) rfl 26 C2 (0, 0) _ f2 hum rfl (by rw [s2]; exact info27m) ?_)
    | (go_at_call 6; refine (T1.out _ HG).mono ?_; clear T1 f1 f2; rintro r w1 ⟨rfl, HBx⟩; replace HG := HG.step HBx; clear HBx; obtain ⟨f1, f2⟩ := HRW.out _ HG)
    | (go_at_call 6; refine (T2.out _ HG).mono ?_; clear T2 f1 f2; rintro r w2 ⟨rfl, HBx⟩; replace HG := HG.step HBx; clear HBx; obtain ⟨f1, f2⟩ := HRW.out _ HG)
    | (go_at_call 7; refine (E1.out _ HG).mono ?_; clear E1 f1 f2; rintro r w3 ⟨rfl, HBx⟩; replace HG := HG.step HBx; clear HBx; obtain ⟨f1, f2⟩ := HRW.out _ HG)
    | (go_at_call 7; refine (E2.out _ HG).mono ?_; clear E2 f1 f2; rintro r w4 ⟨rfl, HBx⟩; replace HG := HG.step HBx; clear HBx; obtain ⟨f1, f2⟩ := HRW.out _ HG)
    | (go_at_call 8; refine (G1.out _ HG).mono ?_; clear G1 f1 f2; rintro r w5 ⟨rfl, HBx⟩; replace HG := HG.step HBx; clear HBx; obtain ⟨f1, f2⟩ := HRW.out _ HG)
    | (go_at_call 9; refine (S12.out _ HG).mono ?_; clear S12 f1 f2; rintro r w6 ⟨rfl, HBx⟩; replace HG := HG.step HBx; clear HBx; obtain ⟨f1, f2⟩ := HRW.out _ HG)
    | (go_at_call 10; refine (D1.out _ HG).mono ?_; clear D1 f1 f2; rintro r w7 ⟨CK, k1, k2, rfl, HBx, SK⟩; replace HG := HG.step HBx; clear HBx; have SK : Hid _ := SK)
    | (refine wpList_store_row rfl 26 _ _ rfl w7.heap.size CK rfl rfl 26 Z (HST.out w7) (by rw [k1]; exact info27m) (by rw [hz, k1]) k2 ?_; rw [World.setRow_alloc_new]; clear k2; replace HG := HG.alloc (.cells CK 26); obtain ⟨f1, f2⟩ := HRW.out _ HG; have f3 : (w7.alloc (.cells CK 26)).heap[w7.heap.size]? = some (.cells CK 26 (0, 0)) := heap_alloc_new _ _)
    | (refine wl_rowX (by rfl) 26 (.tmp 11) rfl w7.heap.size rfl 26 CK (0, 0) _ f3 hum rfl (by rw [k1]; exact info27m) ?_)
    | (go_at_call 9; refine (SK.out _ ((Below.refl _ w7).alloc (Nat.le_refl _) _)).mono ?_; clear SK f1 f2 f3; rintro r w8 ⟨rfl, HBx⟩; replace HG := HG.step HBx; clear HBx; obtain ⟨f1, f2⟩ := HRW.out _ HG)
    | (go_at_call 10; refine (D2.out _ HG).mono ?_; clear D2 f1 f2; rintro r w9 ⟨CL, l1, l2, rfl, HBx, SZ⟩; replace HG := HG.step HBx; clear HBx; have SZ : Hid _ := SZ)
    | (refine wpList_store_row rfl 26 _ _ rfl w9.heap.size CL rfl rfl 26 Z (HST.out w9) (by rw [l1]; exact info27m) (by rw [hz, l1]) l2 ?_; rw [World.setRow_alloc_new]; clear l2; replace HG := HG.alloc (.cells CL 26); have f4 : (w9.alloc (.cells CL 26)).heap[w9.heap.size]? = some (.cells CL 26 (0, 0)) := heap_alloc_new _ _)
    | (refine wl_rowX (by rfl) 26 (.tmp 13) rfl w9.heap.size rfl 26 CL (0, 0) _ f4 hum rfl (by rw [l1]; exact info27m) ?_)
    | (go_at_call 9; refine (SZ.out _ ((Below.refl _ w9).alloc (Nat.le_refl _) _)).mono ?_; clear SZ f4; rintro r w10 ⟨rfl, HBx⟩; replace HG := HG.step HBx; clear HBx))
  go_ret
  exact ⟨rfl, HFI.out _ HG⟩

set_option maxRecDepth 8000 in
set_option maxHeartbeats 4000000 in
theorem frm_yy0 (C1 C2 : Array Value) (s : List UInt8) (w : World) (hG : GW w) (s1 : C1.size = 34) (s2 : C2.size = 34) (X Y : ByteArray) (B12 : Bool) (y1 : (X == Y) = B12) (y2 : (X.toList == Y.toList) = B12)
    (T1 : Hid (∀ W, GB ((w.alloc (.cells C1 26)).alloc (.cells C2 26)) W → Calls Tryd.prog 6 #[.agg C1, .slice none 0 0] W fun e w' => e = .returned (.bool false) ∧ Below W.heap.size W w'))
    (T2 : Hid (∀ W, GB ((w.alloc (.cells C1 26)).alloc (.cells C2 26)) W → Calls Tryd.prog 6 #[.agg C2, .slice none 0 0] W fun e w' => e = .returned (.bool false) ∧ Below W.heap.size W w'))
    (E1 : Hid (∀ W, GB ((w.alloc (.cells C1 26)).alloc (.cells C2 26)) W → Calls Tryd.prog 7 #[.agg C1] W fun r w' => r = .returned (.tuple #[.string X, .int .i64 0]) ∧ Below W.heap.size W w'))
    (E2 : Hid (∀ W, GB ((w.alloc (.cells C1 26)).alloc (.cells C2 26)) W → Calls Tryd.prog 7 #[.agg C2] W fun r w' => r = .returned (.tuple #[.string Y, .int .i64 0]) ∧ Below W.heap.size W w'))
    (G1 : Hid (∀ W, GB ((w.alloc (.cells C1 26)).alloc (.cells C2 26)) W → Calls Tryd.prog 8 #[.agg C1] W fun r w' => r = .returned (.bool true) ∧ Below W.heap.size W w'))
    (S12 : Hid (∀ W, GB ((w.alloc (.cells C1 26)).alloc (.cells C2 26)) W → Calls Tryd.prog 9 #[.agg C1, .agg C2] W fun r w' => r = .returned (.bool B12) ∧ Below W.heap.size W w'))
    (D1 : Hid (∀ W, GB ((w.alloc (.cells C1 26)).alloc (.cells C2 26)) W → Calls Tryd.prog 10 #[.string X] W fun r w' => ∃ CK, CK.size = 34 ∧ CK.all (·.oneCell') = true ∧ r = .returned (.tuple #[.agg CK, .int .i64 0]) ∧ Below W.heap.size W w' ∧ ∀ W', Below w'.heap.size w' W' → Calls Tryd.prog 9 #[.agg CK, .agg C1] W' fun r w'' => r = .returned (.bool true) ∧ Below W'.heap.size W' w''))
    (D2 : Hid (∀ W, GB ((w.alloc (.cells C1 26)).alloc (.cells C2 26)) W → Calls Tryd.prog 10 #[.string (M.bs s)] W fun r w' => ∃ CK, CK.size = 34 ∧ CK.all (·.oneCell') = true ∧ r = .returned (.tuple #[.agg CK, .int .i64 0]) ∧ Below W.heap.size W w' ∧
      (∀ W', Below w'.heap.size w' W' → Calls Tryd.prog 7 #[.agg CK] W' fun r w'' => r = .returned (.tuple #[.string (M.bs s), .int .i64 0]) ∧ Below W'.heap.size W' w''))) :
    Calls Tryd.prog 3 #[.agg C1, .agg C2, .string (M.bs s)] w fun e w' => e = .returned (.bool true) ∧ Below w.heap.size w w' := by
  have hB0 : Below w.heap.size w ((w.alloc (.cells C1 26)).alloc (.cells C2 26)) := ((Below.refl _ w).alloc (Nat.le_refl _) _).alloc (by simp) _
  have HG : GB ((w.alloc (.cells C1 26)).alloc (.cells C2 26)) ((w.alloc (.cells C1 26)).alloc (.cells C2 26)) := GB.refl (hG.below hB0 hG.z)
  have r1 : ((w.alloc (.cells C1 26)).alloc (.cells C2 26)).heap[w.heap.size]? = some (.cells C1 26 (0, 0)) := by rw [Below.heap_alloc _ _ _ (by simp)]; exact heap_alloc_new _ _
  have r2 : ((w.alloc (.cells C1 26)).alloc (.cells C2 26)).heap[w.heap.size + 1]? = some (.cells C2 26 (0, 0)) := alloc_at _ _ (by simp) _
  have HRW : Hid (∀ W, GB ((w.alloc (.cells C1 26)).alloc (.cells C2 26)) W → W.heap[w.heap.size]? = some (.cells C1 26 (0, 0)) ∧ W.heap[w.heap.size + 1]? = some (.cells C2 26 (0, 0))) := fun W g =>
    ⟨by rw [g.b.block _ (by simp; omega)]; exact r1, by rw [g.b.block _ (by simp)]; exact r2⟩
  have HFI : Hid (∀ W, GB ((w.alloc (.cells C1 26)).alloc (.cells C2 26)) W → Below w.heap.size w W) := fun W g => hB0.trans (g.b.mono hB0.size)
  obtain ⟨fs, hum⟩ := und27m
  have hz := zero34_size
  have hzz : ∀ W, (zeroValue 26).run Tryd.prog W = .ok (.agg zero34) W := zero27m
  generalize zero34 = Z at *
  have HST : Hid (∀ W : World, (W.alloc (.cells Z 26)).heap[W.heap.size]? = some (.cells Z 26 (0, 0))) := fun W => heap_alloc_new W _
  clear hG hB0 r1 r2
  have z3 : (B12 != B12) = false := by simp
  have z1 : (M.bs s == M.bs s) = true := by show ((M.bs s).data == (M.bs s).data) = true; simp
  have z2 : ((M.bs s).toList == (M.bs s).toList) = true := by simp
  go_enter Tryd.func3, Tryd.ntmps3
  go_wp2_with (first
    | (go_at_call 5; refine (awake3_g HG).mono ?_; clear HG; rintro e w0 ⟨rfl, HG⟩; obtain ⟨f1, f2⟩ := HRW.out _ HG)
    | (refine wl_rowX (by rfl) 26 (.tmp 3) rfl w.heap.size rfl 26 C1 (0, 0) _ f1 hum rfl (by rw [s1]; exact info27m) ?_)
    | (refine wl_rowX (by rfl) 26 (.tmp 4) rfl (w.heap.size + 1) rfl 26 C2 (0, 0) _ f2 hum rfl (by rw [s2]; exact info27m) ?_)
    | (go_at_call 6; refine (T1.out _ HG).mono ?_; clear T1 f1 f2; rintro r w1 ⟨rfl, HBx⟩; replace HG := HG.step HBx; clear HBx; obtain ⟨f1, f2⟩ := HRW.out _ HG)
    | (go_at_call 6; refine (T2.out _ HG).mono ?_; clear T2 f1 f2; rintro r w2 ⟨rfl, HBx⟩; replace HG := HG.step HBx; clear HBx; obtain ⟨f1, f2⟩ := HRW.out _ HG)
    | (go_at_call 7; refine (E1.out _ HG).mono ?_; clear E1 f1 f2; rintro r w3 ⟨rfl, HBx⟩; replace HG := HG.step HBx; clear HBx; obtain ⟨f1, f2⟩ := HRW.out _ HG)
    | (go_at_call 7; refine (E2.out _ HG).mono ?_; clear E2 f1 f2; rintro r w4 ⟨rfl, HBx⟩; replace HG := HG.step HBx; clear HBx; obtain ⟨f1, f2⟩ := HRW.out _ HG)
    | (go_at_call 8; refine (G1.out _ HG).mono ?_; clear G1 f1 f2; rintro r w5 ⟨rfl, HBx⟩; replace HG := HG.step HBx; clear HBx; obtain ⟨f1, f2⟩ := HRW.out _ HG)
    | (go_at_call 9; refine (S12.out _ HG).mono ?_; clear S12 f1 f2; rintro r w6 ⟨rfl, HBx⟩; replace HG := HG.step HBx; clear HBx; obtain ⟨f1, f2⟩ := HRW.out _ HG)
    | (go_at_call 10; refine (D1.out _ HG).mono ?_; clear D1 f1 f2; rintro r w7 ⟨CK, k1, k2, rfl, HBx, SK⟩; replace HG := HG.step HBx; clear HBx; have SK : Hid _ := SK)
    | (refine wpList_store_row rfl 26 _ _ rfl w7.heap.size CK rfl rfl 26 Z (HST.out w7) (by rw [k1]; exact info27m) (by rw [hz, k1]) k2 ?_; rw [World.setRow_alloc_new]; clear k2; replace HG := HG.alloc (.cells CK 26); obtain ⟨f1, f2⟩ := HRW.out _ HG; have f3 : (w7.alloc (.cells CK 26)).heap[w7.heap.size]? = some (.cells CK 26 (0, 0)) := heap_alloc_new _ _)
    | (refine wl_rowX (by rfl) 26 (.tmp 11) rfl w7.heap.size rfl 26 CK (0, 0) _ f3 hum rfl (by rw [k1]; exact info27m) ?_)
    | (go_at_call 9; refine (SK.out _ ((Below.refl _ w7).alloc (Nat.le_refl _) _)).mono ?_; clear SK f1 f2 f3; rintro r w8 ⟨rfl, HBx⟩; replace HG := HG.step HBx; clear HBx; obtain ⟨f1, f2⟩ := HRW.out _ HG)
    | (go_at_call 10; refine (D2.out _ HG).mono ?_; clear D2 f1 f2; rintro r w9 ⟨CL, l1, l2, rfl, HBx, SZ⟩; replace HG := HG.step HBx; clear HBx; have SZ : Hid _ := SZ)
    | (refine wpList_store_row rfl 26 _ _ rfl w9.heap.size CL rfl rfl 26 Z (HST.out w9) (by rw [l1]; exact info27m) (by rw [hz, l1]) l2 ?_; rw [World.setRow_alloc_new]; clear l2; replace HG := HG.alloc (.cells CL 26); have f4 : (w9.alloc (.cells CL 26)).heap[w9.heap.size]? = some (.cells CL 26 (0, 0)) := heap_alloc_new _ _)
    | (refine wl_rowX (by rfl) 26 (.tmp 13) rfl w9.heap.size rfl 26 CL (0, 0) _ f4 hum rfl (by rw [l1]; exact info27m) ?_)
    | (go_at_call 7; refine (SZ.out _ ((Below.refl _ w9).alloc (Nat.le_refl _) _)).mono ?_; clear SZ f4; rintro r w10 ⟨rfl, HBx⟩; replace HG := HG.step HBx; clear HBx))
  go_ret
  exact ⟨rfl, HFI.out _ HG⟩
end Go.Proofs.YtaceemaedpkigaaDoor
