/- What the reference's Same answers. -/
import Derived.Test.YtahdmhenkjbimaaDoorC4
import Derived.Test.YtahdmhenkjbimaaDoorX2
import Derived.Test.YtahdmhenkjbimaaDoorGT
import Derived.Test.YtahdmhenkjbimaaDoorRegT
namespace Go.Proofs.YtahdmhenkjbimaaDoor
open Go.RowKit
set_option linter.unusedVariables false
set_option linter.unusedSimpArgs false

/-- whether two manifests are the same -/
def sameB (wh1 wh2 : List UInt8) (sz1 sz2 : Int) (P1 P2 : List (List UInt8)) : Bool := decide (wh1 = wh2 ∧ sz1 = sz2 ∧ P1 = P2)
theorem first_diff : ∀ (P1 P2 : List (List UInt8)), P1.length = P2.length → ∃ j, j ≤ P1.length ∧ (∀ i, i < j → P1[i]? = P2[i]?) ∧ (j < P1.length → P1[j]? ≠ P2[j]?)
  | [], [], _ => ⟨0, by simp, fun i h => by omega, fun h => by simp at h⟩
  | [], y :: b, h => by simp at h
  | x :: a, [], h => by simp at h
  | x :: a, y :: b, h => by
    by_cases hxy : x = y
    · obtain ⟨j, h1, h2, h3⟩ := first_diff a b (by simpa using h)
      refine ⟨j + 1, by simp; omega, fun i hi => ?_, fun hj => ?_⟩
      · cases i with
        | zero => simp [hxy]
        | succ i => simpa using h2 i (by omega)
      · have := h3 (by simpa using hj)
        simpa using this
    · exact ⟨0, by simp, fun i h => by omega, fun _ => by simpa using hxy⟩
set_option maxRecDepth 8000 in
set_option maxHeartbeats 2000000 in
theorem rSame_head (wh1 wh2 : List UInt8) (sz1 sz2 : Int) (a1 a2 : Option Addr) (n1 n2 c1 c2 : Nat) (w : World) (h1 : wh1.length = 32) (h2 : wh2.length = 32) (l1 : n1 ≤ 9223372036854775807) (l2 : n2 ≤ 9223372036854775807) (hno : wh1 ≠ wh2 ∨ (wh1 = wh2 ∧ sz1 ≠ sz2) ∨ (wh1 = wh2 ∧ sz1 = sz2 ∧ n1 ≠ n2)) :
    Calls Tryd.prog 10 #[.agg (mv wh1 sz1 a1 n1 c1), .agg (mv wh2 sz2 a2 n2 c2)] w fun e w' => e = .returned (.bool false) ∧ Below w.heap.size w w' := by
  have e1 := mv_32 wh1 sz1 a1 n1 c1 h1
  have e2 := mv_33 wh1 sz1 a1 n1 c1 h1
  have e3 := mv_32 wh2 sz2 a2 n2 c2 h2
  have e4 := mv_33 wh2 sz2 a2 n2 c2 h2
  have HW : Hid (Below w.heap.size w ((w.alloc (.cells (mv wh1 sz1 a1 n1 c1) 26)).alloc (.cells (mv wh2 sz2 a2 n2 c2) 26))) := ((Below.refl _ w).alloc (Nat.le_refl _) _).alloc (by simp) _
  have r1 : ((w.alloc (.cells (mv wh1 sz1 a1 n1 c1) 26)).alloc (.cells (mv wh2 sz2 a2 n2 c2) 26)).heap[w.heap.size]? = some (.cells (mv wh1 sz1 a1 n1 c1) 26 (0, 0)) := by rw [Below.heap_alloc _ _ _ (by simp)]; exact heap_alloc_new _ _
  have r2 : ((w.alloc (.cells (mv wh1 sz1 a1 n1 c1) 26)).alloc (.cells (mv wh2 sz2 a2 n2 c2) 26)).heap[w.heap.size + 1]? = some (.cells (mv wh2 sz2 a2 n2 c2) 26 (0, 0)) := alloc_at _ _ (by simp) _
  have R1 : Hid (World.rangeAt ((w.alloc (.cells (mv wh1 sz1 a1 n1 c1) 26)).alloc (.cells (mv wh2 sz2 a2 n2 c2) 26)) w.heap.size 0 (wh1.map vb)) := mv_range _ _ _ _ _ r1 h1
  have R2 : Hid (World.rangeAt ((w.alloc (.cells (mv wh1 sz1 a1 n1 c1) 26)).alloc (.cells (mv wh2 sz2 a2 n2 c2) 26)) (w.heap.size + 1) 0 (wh2.map vb)) := mv_range _ _ _ _ _ r2 h2
  have heq := eqDg wh1 wh2 h1 h2
  unfold dg at heq
  have i1 : (Tryd.prog.info? 23).map (·.size) = some (wh1.map vb).length := by rw [List.length_map, h1]; exact info27
  have i2 : (Tryd.prog.info? 23).map (·.size) = some (wh2.map vb).length := by rw [List.length_map, h2]; exact info27
  clear r1 r2
  generalize mv wh1 sz1 a1 n1 c1 = C1 at *
  generalize mv wh2 sz2 a2 n2 c2 = C2 at *
  rcases hno with hno | ⟨hw, hno⟩ | ⟨hw, hs, hno⟩
  · rw [decide_eq_false hno] at heq
    clear hno
    generalize wh1.map vb = L1 at *
    generalize wh2.map vb = L2 at *
    go_enter Tryd.func10, Tryd.ntmps10
    go_wp2_with (first
      | refine wpList_load_mid rfl 23 _ rfl w.heap.size 0 rfl L1 _ R1.out und27 rfl i1 ?_
      | refine wpList_load_mid rfl 23 _ rfl (w.heap.size + 1) 0 rfl L2 _ R2.out und27 rfl i2 ?_)
    go_ret
    exact ⟨rfl, HW.out⟩
  · rw [decide_eq_true hw] at heq
    have hn' : (sz1 != sz2) = true := by simpa using hno
    clear hno hw
    generalize wh1.map vb = L1 at *
    generalize wh2.map vb = L2 at *
    go_enter Tryd.func10, Tryd.ntmps10
    go_wp2_with (first
      | refine wpList_load_mid rfl 23 _ rfl w.heap.size 0 rfl L1 _ R1.out und27 rfl i1 ?_
      | refine wpList_load_mid rfl 23 _ rfl (w.heap.size + 1) 0 rfl L2 _ R2.out und27 rfl i2 ?_)
    go_ret
    exact ⟨rfl, HW.out⟩
  · rw [decide_eq_true hw] at heq
    have hn0 : (sz1 != sz2) = false := by simpa using hs
    have hn' : ((n1 : Int) != (n2 : Int)) = true := by simp; omega
    clear hno hw hs
    generalize wh1.map vb = L1 at *
    generalize wh2.map vb = L2 at *
    go_enter Tryd.func10, Tryd.ntmps10
    go_wp2_with (first
      | refine wpList_load_mid rfl 23 _ rfl w.heap.size 0 rfl L1 _ R1.out und27 rfl i1 ?_
      | refine wpList_load_mid rfl 23 _ rfl (w.heap.size + 1) 0 rfl L2 _ R2.out und27 rfl i2 ?_)
    go_ret
    exact ⟨rfl, HW.out⟩

set_option maxRecDepth 8000 in
set_option maxHeartbeats 4000000 in
theorem rSame_loop (wh : List UInt8) (sz : Int) (a1 a2 : Option Addr) (P1 P2 : List (List UInt8)) (c1 c2 : Nat) (w : World) (h1 : wh.length = 32) (l1 : P1.length ≤ 9223372036854775807) (hl : P1.length = P2.length) (hD1 : Hid (Dgs w.heap.size w a1 P1)) (hD2 : Hid (Dgs w.heap.size w a2 P2)) :
    Calls Tryd.prog 10 #[.agg (mv wh sz a1 P1.length c1), .agg (mv wh sz a2 P2.length c2)] w fun e w' => e = .returned (.bool (decide (P1 = P2))) ∧ Below w.heap.size w w' := by
  obtain ⟨j, hj1, hj2, hj3⟩ := first_diff P1 P2 hl
  have HRES : Hid (decide (P1 = P2) = decide (j = P1.length)) := by
    show _ = _
    by_cases hjn : j = P1.length
    · have : P1 = P2 := by
        apply List.ext_getElem?
        intro i
        by_cases hi : i < j
        · exact hj2 i hi
        · rw [List.getElem?_eq_none (by omega), List.getElem?_eq_none (by omega)]
      simp [this, hjn]
      try omega
    · have h3 := hj3 (by omega)
      have : P1 ≠ P2 := fun e => h3 (by rw [e])
      simp [this, hjn]
  rw [HRES.out]
  have HJ2 : Hid (∀ i, i < j → P1[i]? = P2[i]?) := hj2
  have HJ3 : Hid (j < P1.length → P1[j]? ≠ P2[j]?) := hj3
  clear hj2 hj3 HRES
  obtain ⟨n, hn⟩ : ∃ n, n = P1.length := ⟨_, rfl⟩
  have HN2 : Hid (P2.length = n) := by show _ = _; omega
  rw [← hl, ← hn]
  rw [← hn] at hj1 l1 HJ3
  have HN1 : Hid (P1.length = n) := hn.symm
  clear hn hl
  have e1 := mv_32 wh sz a1 n c1 h1
  have e2 := mv_33 wh sz a1 n c1 h1
  have e3 := mv_32 wh sz a2 n c2 h1
  have e4 := mv_33 wh sz a2 n c2 h1
  have HW : Hid (Below w.heap.size w ((w.alloc (.cells (mv wh sz a1 n c1) 26)).alloc (.cells (mv wh sz a2 n c2) 26))) := ((Below.refl _ w).alloc (Nat.le_refl _) _).alloc (by simp) _
  have r1 : ((w.alloc (.cells (mv wh sz a1 n c1) 26)).alloc (.cells (mv wh sz a2 n c2) 26)).heap[w.heap.size]? = some (.cells (mv wh sz a1 n c1) 26 (0, 0)) := by rw [Below.heap_alloc _ _ _ (by simp)]; exact heap_alloc_new _ _
  have r2 : ((w.alloc (.cells (mv wh sz a1 n c1) 26)).alloc (.cells (mv wh sz a2 n c2) 26)).heap[w.heap.size + 1]? = some (.cells (mv wh sz a2 n c2) 26 (0, 0)) := alloc_at _ _ (by simp) _
  have R1 : Hid (World.rangeAt ((w.alloc (.cells (mv wh sz a1 n c1) 26)).alloc (.cells (mv wh sz a2 n c2) 26)) w.heap.size 0 (wh.map vb)) := mv_range _ _ _ _ _ r1 h1
  have R2 : Hid (World.rangeAt ((w.alloc (.cells (mv wh sz a1 n c1) 26)).alloc (.cells (mv wh sz a2 n c2) 26)) (w.heap.size + 1) 0 (wh.map vb)) := mv_range _ _ _ _ _ r2 h1
  have HC1 : Hid (((w.alloc (.cells (mv wh sz a1 n c1) 26)).alloc (.cells (mv wh sz a2 n c2) 26)).cell? ⟨w.heap.size, 33, none⟩ = some (.slice a1 n c1)) := by show _ = _; rw [cell_of_row _ _ 33 _ _ _ r1]; exact e2
  have HC2 : Hid (((w.alloc (.cells (mv wh sz a1 n c1) 26)).alloc (.cells (mv wh sz a2 n c2) 26)).cell? ⟨w.heap.size + 1, 33, none⟩ = some (.slice a2 n c2)) := by show _ = _; rw [cell_of_row _ _ 33 _ _ _ r2]; exact e4
  have heq := eqDg wh wh h1 h1
  unfold dg at heq
  rw [decide_eq_true rfl] at heq
  have i1 : (Tryd.prog.info? 23).map (·.size) = some (wh.map vb).length := by rw [List.length_map, h1]; exact info27
  have hsz : (sz != sz) = false := by simp
  have hnn : ((n : Int) != (n : Int)) = false := by simp
  clear r1 r2
  generalize mv wh sz a1 n c1 = C1 at *
  generalize mv wh sz a2 n c2 = C2 at *
  generalize wh.map vb = L1 at *
  go_enter Tryd.func10, Tryd.ntmps10
  go_wp2_with (first
    | refine wpList_load_mid rfl 23 _ rfl w.heap.size 0 rfl L1 _ R1.out und27 rfl i1 ?_
    | refine wpList_load_mid rfl 23 _ rfl (w.heap.size + 1) 0 rfl L1 _ R2.out und27 rfl i1 ?_)
  generalize (w.alloc (.cells C1 26)).alloc (.cells C2 26) = W2 at *
  obtain ⟨b2, hb2⟩ : ∃ b2, b2 = w.heap.size := ⟨_, rfl⟩
  obtain ⟨b3, hb3⟩ : ∃ b3, b3 = w.heap.size + 1 := ⟨_, rfl⟩
  rw [← hb3, ← hb2]
  rw [← hb2] at HC1
  rw [← hb3] at HC2
  clear R1 R2 heq hsz hnn e1 e2 e3 e4 i1 hb2 hb3
  go_loopw [5] (fun u5 wr => ∃ (k m : Nat), k ≤ j ∧ u5 = .int .i64 k ∧ wr = W2.drewN m) (fun u5 _ => n - (intOf u5).toNat)
  case atStart => exact ⟨0, 0, Nat.zero_le _, rfl, rfl⟩
  case round =>
    obtain ⟨k, m, hk, rfl, hwr⟩ := hrel
    have HCA : wr.cell? ⟨b2, 33, none⟩ = some (.slice a1 n c1) := by rw [hwr]; exact HC1.out
    have HCB : wr.cell? ⟨b3, 33, none⟩ = some (.slice a2 n c2) := by rw [hwr]; exact HC2.out
    have HBR : Hid (Below w.heap.size w wr) := by rw [hwr]; exact below_drewN HW.out _
    have HWM : Hid (wr = W2.drewN m) := hwr
    by_cases hlt : k < n
    · obtain ⟨d1, hd1⟩ : ∃ d, P1[k]? = some d := ⟨P1[k]'(by have := HN1.out; omega), List.getElem?_eq_getElem _⟩
      obtain ⟨d2, hd2⟩ : ∃ d, P2[k]? = some d := ⟨P2[k]'(by have := HN2.out; omega), List.getElem?_eq_getElem _⟩
      obtain ⟨q1, x1, o1, rfl, hx1, hr1⟩ := hD1.out k d1 hd1
      obtain ⟨q2, x2, o2, rfl, hx2, hr2⟩ := hD2.out k d2 hd2
      have hi1 : (Tryd.prog.info? 23).map (·.size) = some (d1.map vb).length := by rw [List.length_map, q1]; exact info27
      have hi2 : (Tryd.prog.info? 23).map (·.size) = some (d2.map vb).length := by rw [List.length_map, q2]; exact info27
      have i0 : (0 : Int) ≤ (k : Int) := by omega
      have j0 : (k : Int) < (n : Int) := by omega
      have HX : Hid (wr.drew.cell? ⟨b2, 33, none⟩ = some (.slice (some ⟨x1, o1, none⟩) n c1) ∧ wr.drew.cell? ⟨b3, 33, none⟩ = some (.slice (some ⟨x2, o2, none⟩) n c2) ∧ wr.drew.rangeAt x1 (o1 + k * 32) (d1.map vb) ∧ wr.drew.rangeAt x2 (o2 + k * 32) (d2.map vb)) := ⟨HCA, HCB, rangeAt_below HBR.out hr1 hx1, rangeAt_below HBR.out hr2 hx2⟩
      have heq := eqDg d1 d2 q1 q2
      unfold dg at heq
      have HKJ : Hid ((k < j → d1 = d2) ∧ (k = j → d1 ≠ d2)) := ⟨fun h => by have := HJ2.out k h; rw [hd1, hd2] at this; exact Option.some.inj this, fun h => by
        have h3 := HJ3.out (by omega)
        rw [← h, hd1, hd2] at h3
        exact fun e => h3 (by rw [e])⟩
      obtain ⟨B, hB⟩ : ∃ B, decide (d1 = d2) = B := ⟨_, rfl⟩
      rw [hB] at heq
      have HBV : Hid (decide (d1 = d2) = B) := hB
      clear hr1 hr2 hd1 hd2 hwr hB
      go_wp2_with fail
      refine wp_region_noPanic ?_
      refine wp_region_held_drew (S := (fun W => W.cell? ⟨b2, 33, none⟩ = some (.slice (some ⟨x1, o1, none⟩) n c1) ∧ W.cell? ⟨b3, 33, none⟩ = some (.slice (some ⟨x2, o2, none⟩) n c2) ∧ W.rangeAt x1 (o1 + k * 32) (d1.map vb) ∧ W.rangeAt x2 (o2 + k * 32) (d2.map vb))) (by kernel_rfl) (HX.out) (fun hHeld => ?_)
      refine wpAnyH_take (i := 0) (v := ?_) rfl (by kernel_rfl) (by kernel_rfl) (by kernel_rfl) (fun _ _ _ h => h) (Or.inl ⟨by kernel_rfl, ?_⟩) (by assumption) ?_
      rotate_left
      · (intro w hSw; (try dsimp only at hSw); go_simp; (try with_reducible rfl))
      simp only [Act.put, List.getElem_toArray, List.getElem_cons_succ, List.getElem_cons_zero, List.setIfInBounds_toArray, List.set_cons_zero, List.set_cons_succ]
      refine wpAnyH_take (i := 1) (v := ?_) rfl (by kernel_rfl) (by kernel_rfl) (by kernel_rfl) (fun _ _ _ h => h) (Or.inl ⟨by kernel_rfl, ?_⟩) (by assumption) ?_
      rotate_left
      · (intro w hSw; (try dsimp only at hSw); go_simp; (try with_reducible rfl))
      simp only [Act.put, List.getElem_toArray, List.getElem_cons_succ, List.getElem_cons_zero, List.setIfInBounds_toArray, List.set_cons_zero, List.set_cons_succ]
      refine wpAnyH_take (i := 2) rfl (by kernel_rfl) (by kernel_rfl) (by kernel_rfl) (fun _ _ _ h => h) (yi_move (by kernel_rfl) rfl rfl) (by assumption) ?_
      simp only [Act.put, List.getElem_toArray, List.getElem_cons_succ, List.getElem_cons_zero, List.setIfInBounds_toArray, List.set_cons_zero, List.set_cons_succ]
      refine wpAnyH_take (i := 3) (v := ?_) rfl (by kernel_rfl) (by kernel_rfl) (by kernel_rfl) (fun _ _ _ h => h) (Or.inl ⟨by kernel_rfl, ?_⟩) (by assumption) ?_
      rotate_left
      · (intro w hSw; (try dsimp only at hSw); go_simp; (try with_reducible rfl))
      simp only [Act.put, List.getElem_toArray, List.getElem_cons_succ, List.getElem_cons_zero, List.setIfInBounds_toArray, List.set_cons_zero, List.set_cons_succ]
      refine wpAnyH_take (i := 4) (v := .agg (List.toArray (d1.map vb))) rfl (by kernel_rfl) (by kernel_rfl) (by kernel_rfl) (fun _ _ _ h => h) (yieldsIf_load_mid (by kernel_rfl) _ (.tmp 37) (by kernel_rfl) x1 (o1 + k * 32) (by kernel_rfl) (d1.map vb) _ (fun W hW => hW.2.2.1) und27 rfl hi1) (by assumption) ?_
      simp only [Act.put, List.getElem_toArray, List.getElem_cons_succ, List.getElem_cons_zero, List.setIfInBounds_toArray, List.set_cons_zero, List.set_cons_succ]
      refine wpAnyH_take (i := 5) (v := ?_) rfl (by kernel_rfl) (by kernel_rfl) (by kernel_rfl) (fun _ _ _ h => h) (Or.inl ⟨by kernel_rfl, ?_⟩) (by assumption) ?_
      rotate_left
      · (intro w hSw; (try dsimp only at hSw); go_simp; (try with_reducible rfl))
      simp only [Act.put, List.getElem_toArray, List.getElem_cons_succ, List.getElem_cons_zero, List.setIfInBounds_toArray, List.set_cons_zero, List.set_cons_succ]
      refine wpAnyH_take (i := 6) (v := ?_) rfl (by kernel_rfl) (by kernel_rfl) (by kernel_rfl) (fun _ _ _ h => h) (Or.inl ⟨by kernel_rfl, ?_⟩) (by assumption) ?_
      rotate_left
      · (intro w hSw; (try dsimp only at hSw); go_simp; (try with_reducible rfl))
      simp only [Act.put, List.getElem_toArray, List.getElem_cons_succ, List.getElem_cons_zero, List.setIfInBounds_toArray, List.set_cons_zero, List.set_cons_succ]
      refine wpAnyH_take (i := 7) rfl (by kernel_rfl) (by kernel_rfl) (by kernel_rfl) (fun _ _ _ h => h) (yi_move (by kernel_rfl) rfl rfl) (by assumption) ?_
      simp only [Act.put, List.getElem_toArray, List.getElem_cons_succ, List.getElem_cons_zero, List.setIfInBounds_toArray, List.set_cons_zero, List.set_cons_succ]
      refine wpAnyH_take (i := 8) (v := ?_) rfl (by kernel_rfl) (by kernel_rfl) (by kernel_rfl) (fun _ _ _ h => h) (Or.inl ⟨by kernel_rfl, ?_⟩) (by assumption) ?_
      rotate_left
      · (intro w hSw; (try dsimp only at hSw); go_simp; (try with_reducible rfl))
      simp only [Act.put, List.getElem_toArray, List.getElem_cons_succ, List.getElem_cons_zero, List.setIfInBounds_toArray, List.set_cons_zero, List.set_cons_succ]
      refine wpAnyH_take (i := 9) (v := .agg (List.toArray (d2.map vb))) rfl (by kernel_rfl) (by kernel_rfl) (by kernel_rfl) (fun _ _ _ h => h) (yieldsIf_load_mid (by kernel_rfl) _ (.tmp 42) (by kernel_rfl) x2 (o2 + k * 32) (by kernel_rfl) (d2.map vb) _ (fun W hW => hW.2.2.2) und27 rfl hi2) (by assumption) ?_
      simp only [Act.put, List.getElem_toArray, List.getElem_cons_succ, List.getElem_cons_zero, List.setIfInBounds_toArray, List.set_cons_zero, List.set_cons_succ]
      refine wpAnyH_take (i := 10) (v := ?_) rfl (by kernel_rfl) (by kernel_rfl) (by kernel_rfl) (fun _ _ _ h => h) (Or.inl ⟨by kernel_rfl, ?_⟩) (by assumption) ?_
      rotate_left
      · (intro w hSw; (try dsimp only at hSw); go_simp; (try with_reducible rfl))
      simp only [Act.put, List.getElem_toArray, List.getElem_cons_succ, List.getElem_cons_zero, List.setIfInBounds_toArray, List.set_cons_zero, List.set_cons_succ]
      refine wpAnyH_done (by kernel_rfl) ?_ _
      refine NoPanic.normal ?_
      rcases (by omega : k < j ∨ k = j) with hkj | hkj
      · obtain rfl : B = true := by rw [← HBV.out, decide_eq_true (HKJ.out.1 hkj)]
        go_wp2_with fail
        go_roundw
        case rel => exact ⟨k + 1, m + 1, by omega, by go_num, by rw [HWM.out]; rfl⟩
        case measure => simp [intOf]; omega
      · obtain rfl : B = false := by rw [← HBV.out, decide_eq_false (HKJ.out.2 hkj)]
        have hjn : decide (j = n) = false := by simp; omega
        go_wp2_with fail
        go_ret
        exact ⟨by first | rfl | (rw [hjn]; rfl) | (rw [hjn]), HBR.out.drew⟩
    · have hkj : j = n := by omega
      have hjn : decide (j = n) = true := by simp [hkj]
      have hdf : ¬ (k : Int) < (n : Int) := by omega
      clear hwr hkj
      go_wp2_with fail
      go_ret
      exact ⟨by first | rfl | (rw [hjn]; rfl) | (rw [hjn]), HBR.out⟩
theorem rSame_at (wh1 wh2 : List UInt8) (sz1 sz2 : Int) (a1 a2 : Option Addr) (P1 P2 : List (List UInt8)) (c1 c2 : Nat) (w : World) (h1 : wh1.length = 32) (h2 : wh2.length = 32) (l1 : P1.length ≤ 9223372036854775807) (l2 : P2.length ≤ 9223372036854775807) (hD1 : Dgs w.heap.size w a1 P1) (hD2 : Dgs w.heap.size w a2 P2) :
    Calls Tryd.prog 10 #[.agg (mv wh1 sz1 a1 P1.length c1), .agg (mv wh2 sz2 a2 P2.length c2)] w fun e w' => e = .returned (.bool (sameB wh1 wh2 sz1 sz2 P1 P2)) ∧ Below w.heap.size w w' := by
  unfold sameB
  by_cases hw : wh1 = wh2
  · by_cases hs : sz1 = sz2
    · by_cases hl : P1.length = P2.length
      · subst hw hs
        rw [show decide (wh1 = wh1 ∧ sz1 = sz1 ∧ P1 = P2) = decide (P1 = P2) by simp]
        exact rSame_loop wh1 sz1 a1 a2 P1 P2 c1 c2 w h1 l1 hl hD1 hD2
      · rw [decide_eq_false (by rintro ⟨_, _, e⟩; exact hl (by rw [e]))]
        exact rSame_head _ _ _ _ _ _ _ _ _ _ w h1 h2 l1 l2 (Or.inr (Or.inr ⟨hw, hs, hl⟩))
    · rw [decide_eq_false (by rintro ⟨_, e, _⟩; exact hs e)]
      exact rSame_head _ _ _ _ _ _ _ _ _ _ w h1 h2 l1 l2 (Or.inr (Or.inl ⟨hw, hs⟩))
  · rw [decide_eq_false (by rintro ⟨e, _, _⟩; exact hw e)]
    exact rSame_head _ _ _ _ _ _ _ _ _ _ w h1 h2 l1 l2 (Or.inl hw)
end Go.Proofs.YtahdmhenkjbimaaDoor
