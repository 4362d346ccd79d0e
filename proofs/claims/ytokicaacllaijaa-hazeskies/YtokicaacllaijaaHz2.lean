/- Has and the reference's; Count and the reference's. -/
import Derived.Test.YtokicaacllaijaaHz1
import Derived.Test.YtokicaacllaijaaRegT
namespace Go.Proofs.Ytokicaacllaijaa
open Go.RowKit
set_option linter.unusedVariables false
set_option linter.unusedSimpArgs false
attribute [local go_sem ↓] zeroH zeroD

theorem and_val (x : UInt8) (n : Nat) : (bits .and .u8 (x.toNat : Int) ((HZ.msk n).toNat : Int) == 0) = !(HZ.bt x (n % 8)) := by
  rw [u8_and_nat _ _ x.toNat_lt (HZ.msk n).toNat_lt, ← UInt8.toNat_and]
  have h := HZ.and_msk x n
  cases hb : HZ.bt x (n % 8) with
  | false => rw [h.2 hb]; rfl
  | true =>
    have hn : ¬ (x &&& HZ.msk n = 0) := fun e => by have := h.1 e; rw [hb] at this; cases this
    have : (x &&& HZ.msk n).toNat ≠ 0 := fun e => hn (UInt8.toNat_inj.1 e)
    simp only [Bool.not_true, beq_eq_false_iff_ne, ne_eq]
    omega
theorem mkL4_at (k : HZ.D) {i : Nat} (hi : i < 4) : (mkL k 4)[i]? = some (.int .i64 (k.mk' i : Int)) := by rw [mkL_at k 4 hi, if_pos hi]
theorem hs_at (h : HZ.H) (k : HZ.D) {i : Nat} (hi : i < 4) (hb : h.bit (k.mk' i) = false) : h.hs k = false := by
  unfold HZ.H.hs
  match i, hi with
  | 0, _ => rw [hb]; simp
  | 1, _ => rw [hb]; simp
  | 2, _ => rw [hb]; simp
  | 3, _ => rw [hb]; simp
theorem hs_all (h : HZ.H) (k : HZ.D) (hb : ∀ i, i < 4 → h.bit (k.mk' i) = true) : h.hs k = true := by
  unfold HZ.H.hs
  rw [hb 0 (by omega), hb 1 (by omega), hb 2 (by omega), hb 3 (by omega)]; rfl
set_option maxRecDepth 8000 in
set_option maxHeartbeats 2000000 in
theorem Has_x (h : HZ.H) (k : HZ.D) (W : World) : Calls Try.prog 15 #[.agg (hC h).toArray, .agg (dC k).toArray] W fun e w' => e = .returned (.bool (h.hs k)) ∧ Bl W w' := by
  have HB0 : Bl W ((W.alloc (.cells (hC h).toArray tH)).alloc (.cells (dC k).toArray tD)) := ((Bl.refl W).alloc _).alloc _
  have HD0 : ((W.alloc (.cells (hC h).toArray tH)).alloc (.cells (dC k).toArray tD)).heap[W.heap.size]? = some (.cells (hC h).toArray tH (0, 0)) := by
    rw [Below.heap_alloc _ _ _ (by simp)]; exact heap_alloc_new W _
  have HK0 : ((W.alloc (.cells (hC h).toArray tH)).alloc (.cells (dC k).toArray tD)).heap[W.heap.size + 1]? = some (.cells (dC k).toArray tD (0, 0)) := by
    simpa using heap_alloc_new (W.alloc (.cells (hC h).toArray tH)) (.cells (dC k).toArray tD)
  have RK : ((W.alloc (.cells (hC h).toArray tH)).alloc (.cells (dC k).toArray tD)).rangeAt (W.heap.size + 1) 0 (dC k) := range_of HK0
  have CM : Hid (∀ W, Calls Try.prog 27 #[.agg (dC k).toArray] W fun e w' => e = .returned (.agg (mkL k 4).toArray) ∧ Bl W w') := marks_x k
  have CK : Hid (∀ n W, n < 512 → Calls Try.prog 28 #[.int .i64 ((n : Nat) : Int)] W fun e w' => e = .returned (.int .u8 ((HZ.msk n).toNat : Int)) ∧ w' = W) := fun n W hn => mask_x n hn W
  have HBT : Hid (∀ i, i < 64 → (hC h)[i]? = some (.int .u8 ((h.b i).toNat : Int))) := fun i hi => hC_at h hi
  have HAL : Hid (∀ i, i < 4 → h.bit (k.mk' i) = false → h.hs k = false) := fun i hi => hs_at h k hi
  have HAY : Hid ((∀ i, i < 4 → h.bit (k.mk' i) = true) → h.hs k = true) := hs_all h k
  have HBB : Hid (∀ i, h.bit (k.mk' i) = HZ.bt (h.b (k.mk' i / 8)) (k.mk' i % 8)) := fun i => rfl
  have HML : Hid (∀ i, i < 4 → (mkL k 4).toArray[i]? = some (.int .i64 (k.mk' i : Int))) := fun i hi => by simpa using mkL4_at k hi
  have HIK : Hid ((Try.prog.info? tD).map (·.size) = some (dC k).length) := by show _ = _; rw [dC_len]; exact infoD
  have HKL : Hid (∀ i, k.mk' i < 512) := k.mk_lt
  have hms : (mkL k 4).toArray.size = 4 := by simp [mkL_len]
  generalize hC h = LH at *
  generalize dC k = LK at *
  generalize mkL k 4 = LM at *
  have HX : Hid (Bl W ((W.alloc (.cells LH.toArray tH)).alloc (.cells LK.toArray tD)) ∧ ((W.alloc (.cells LH.toArray tH)).alloc (.cells LK.toArray tD)).heap[W.heap.size]? = some (.cells LH.toArray tH (0, 0))) := ⟨HB0, HD0⟩
  clear HB0 HD0 HK0
  go_enter Try.func15, Try.ntmps15
  go_wp2_with (first
    | (refine wl_midG (by rfl) tD _ rfl (W.heap.size + 1) 0 rfl LK _ RK undD rfl HIK.out ?_)
    | (go_at_call 27; refine (CM.out _).mono ?_; clear CM RK; rintro e w1 ⟨rfl, HB1⟩))
  have HB : Bl W w1 := HX.out.1.step HB1
  have HD : Hid (w1.heap[W.heap.size]? = some (.cells LH.toArray tH (0, 0))) := HB1.heap HX.out.2
  clear HB1 HX
  go_loopw [9] (fun u9 wr => ∃ i : Nat, i ≤ 4 ∧ u9 = .int .i64 (i : Int) ∧ Bl W wr ∧ wr.heap[W.heap.size]? = some (.cells LH.toArray tH (0, 0)) ∧ ∀ j, j < i → h.bit (k.mk' j) = true) (fun u9 _ => 4 - (intOf u9).toNat)
  case atStart => exact ⟨0, by omega, rfl, HB, HD.out, fun j hj => by omega⟩
  case round =>
    clear HB HD
    obtain ⟨i, hi, rfl, hb, hd, hall⟩ := hrel
    have HB : Hid (Bl W wr) := hb
    have HALL : Hid (∀ j, j < i → h.bit (k.mk' j) = true) := hall
    by_cases hlt : i < 4
    · have hm := HML.out i hlt
      have hml := HKL.out i
      have hix : ∀ U, (Instr.index 59 (.agg LM.toArray) (.int .i64 (i : Int))).run Try.prog U = .ok (.int .i64 (k.mk' i : Int)) U := idx_agg _ _ 4 _ i _ und4 hlt Try.sizeOf3 Try.isAgg3 hm
      clear hm
      have HS0 : wr.drew.cell? ⟨W.heap.size, k.mk' i / 8, none⟩ = some (.int .u8 ((h.b (k.mk' i / 8)).toNat : Int)) := cell_of (w := wr.drew) hd (HBT.out _ (by omega))
      have HV : Hid ((bits .and .u8 ((h.b (k.mk' i / 8)).toNat : Int) ((HZ.msk (k.mk' i)).toNat : Int) == 0) = !(h.bit (k.mk' i))) := by show _ = _; rw [HBB.out i]; exact and_val _ _
      have HNX : Hid (h.bit (k.mk' i) = true → ∀ j, j < i + 1 → h.bit (k.mk' j) = true) := fun hx j hj => by
        rcases Nat.lt_succ_iff_lt_or_eq.1 hj with hj | rfl
        · exact HALL.out j hj
        · exact hx
      have HNO : Hid (h.bit (k.mk' i) = false → h.hs k = false) := HAL.out i hlt
      have HD : Hid (wr.heap[W.heap.size]? = some (.cells LH.toArray tH (0, 0))) := hd
      clear hb hall HALL HBT HAL HAY HML HBB HKL hd
      generalize k.mk' i = m at *
      generalize (h.b (m / 8)).toNat = x at *
      generalize h.bit m = bb at *
      have C5 : Hid (∀ W, Calls Try.prog 28 #[.int .i64 (m : Int)] W fun e w' => e = .returned (.int .u8 ((HZ.msk m).toNat : Int)) ∧ w' = W) := fun W => CK.out m W hml
      clear CK
      generalize (HZ.msk m).toNat = y at *
      obtain ⟨q, hq⟩ : ∃ q : Nat, q = m / 8 := ⟨_, rfl⟩
      have hqm : (m : Int) / 8 = (q : Int) := by omega
      have hq1 : (q : Int) < 64 := by omega
      have hqw : IntKind.i64.wrap (q : Int) = (q : Int) := by rw [IntKind.wrap_i64]; omega
      rw [← hq] at HS0
      clear hq
      go_wp2_with fail
      cases bb
      · have hv : (bits .and .u8 (x : Int) (y : Int) == 0) = true := HV.out
        have HR : Hid (h.hs k = false) := HNO.out rfl
        clear HV HNO HNX
        refine wp_region_noPanic ?_
        refine wp_region_held_drew (S := fun U => U.cell? ⟨W.heap.size, q, none⟩ = some (.int .u8 (x : Int))) (by kernel_rfl) (HS0) (fun hHeld => ?_)
        refine wpAnyH_take (i := 0) rfl (by kernel_rfl) (by kernel_rfl) (by kernel_rfl) (fun _ _ _ h => h) (yi_move (by kernel_rfl) rfl rfl) (by assumption) ?_
        simp only [Act.put, List.getElem_toArray, List.getElem_cons_succ, List.getElem_cons_zero, List.setIfInBounds_toArray, List.set_cons_zero, List.set_cons_succ]
        refine wpAnyH_take (i := 1) (v := ?_) rfl (by kernel_rfl) (by kernel_rfl) (by kernel_rfl) (fun _ _ _ h => h) (Or.inl ⟨by kernel_rfl, ?_⟩) (by assumption) ?_
        rotate_left
        · (intro w hSw; (try dsimp only at hSw); go_simp; (try with_reducible rfl))
        simp only [Act.put, List.getElem_toArray, List.getElem_cons_succ, List.getElem_cons_zero, List.setIfInBounds_toArray, List.set_cons_zero, List.set_cons_succ]
        refine wpAnyH_take (i := 2) (v := ?_) rfl (by kernel_rfl) (by kernel_rfl) (by kernel_rfl) (fun _ _ _ h => h) (Or.inl ⟨by kernel_rfl, ?_⟩) (by assumption) ?_
        rotate_left
        · (intro w hSw; (try dsimp only at hSw); go_simp; (try with_reducible rfl))
        simp only [Act.put, List.getElem_toArray, List.getElem_cons_succ, List.getElem_cons_zero, List.setIfInBounds_toArray, List.set_cons_zero, List.set_cons_succ]
        refine wpAnyH_take (i := 3) (v := ?_) rfl (by kernel_rfl) (by kernel_rfl) (by kernel_rfl) (fun _ _ _ h => h) (Or.inl ⟨by kernel_rfl, ?_⟩) (by assumption) ?_
        rotate_left
        · (intro w hSw; (try dsimp only at hSw); go_simp; (try with_reducible rfl))
        simp only [Act.put, List.getElem_toArray, List.getElem_cons_succ, List.getElem_cons_zero, List.setIfInBounds_toArray, List.set_cons_zero, List.set_cons_succ]
        refine wpAnyH_take (i := 4) rfl (by kernel_rfl) (by kernel_rfl) (by kernel_rfl) (fun _ _ _ h => h) (yi_move (by kernel_rfl) rfl rfl) (by assumption) ?_
        simp only [Act.put, List.getElem_toArray, List.getElem_cons_succ, List.getElem_cons_zero, List.setIfInBounds_toArray, List.set_cons_zero, List.set_cons_succ]
        refine wpAnyH_ready (rs := [5]) (by kernel_rfl) (by simp) ?_
        refine AllReadyH.cons (o := _) rfl (fun K hK => ?_) AllReadyH.nil
        go_simp
        go_at_call 28; refine (C5.out _).mono ?_; rintro e V6 ⟨rfl, hV6⟩; rw [hV6]; clear hV6; have HB6 := HS0
        refine hK.out _ _ (HB6) (fun hHeld => ?_)
        clear hK K
        (try simp only [Act.put, List.getElem_toArray, List.getElem_cons_succ, List.getElem_cons_zero, List.setIfInBounds_toArray, List.set_cons_zero, List.set_cons_succ])
        refine wpAnyH_take (i := 6) (v := ?_) rfl (by kernel_rfl) (by kernel_rfl) (by kernel_rfl) (fun _ _ _ h => h) (Or.inl ⟨by kernel_rfl, ?_⟩) (by assumption) ?_
        rotate_left
        · (intro w hSw; (try dsimp only at hSw); go_simp; (try with_reducible rfl))
        simp only [Act.put, List.getElem_toArray, List.getElem_cons_succ, List.getElem_cons_zero, List.setIfInBounds_toArray, List.set_cons_zero, List.set_cons_succ]
        refine wpAnyH_take (i := 7) (v := ?_) rfl (by kernel_rfl) (by kernel_rfl) (by kernel_rfl) (fun _ _ _ h => h) (Or.inl ⟨by kernel_rfl, ?_⟩) (by assumption) ?_
        rotate_left
        · (intro w hSw; (try dsimp only at hSw); go_simp; (try with_reducible rfl))
        simp only [Act.put, List.getElem_toArray, List.getElem_cons_succ, List.getElem_cons_zero, List.setIfInBounds_toArray, List.set_cons_zero, List.set_cons_succ]
        refine wpAnyH_done (by kernel_rfl) ?_ _
        refine NoPanic.normal ?_
        go_wp2_with fail
        go_ret
        exact ⟨by rw [HR.out]; rfl, HB.out.drew⟩
      · have hv : (bits .and .u8 (x : Int) (y : Int) == 0) = false := HV.out
        have HN2 : Hid (∀ j, j < i + 1 → h.bit (k.mk' j) = true) := HNX.out rfl
        clear HV HNO HNX
        refine wp_region_noPanic ?_
        refine wp_region_held_drew (S := fun U => U.cell? ⟨W.heap.size, q, none⟩ = some (.int .u8 (x : Int))) (by kernel_rfl) (HS0) (fun hHeld => ?_)
        refine wpAnyH_take (i := 0) rfl (by kernel_rfl) (by kernel_rfl) (by kernel_rfl) (fun _ _ _ h => h) (yi_move (by kernel_rfl) rfl rfl) (by assumption) ?_
        simp only [Act.put, List.getElem_toArray, List.getElem_cons_succ, List.getElem_cons_zero, List.setIfInBounds_toArray, List.set_cons_zero, List.set_cons_succ]
        refine wpAnyH_take (i := 1) (v := ?_) rfl (by kernel_rfl) (by kernel_rfl) (by kernel_rfl) (fun _ _ _ h => h) (Or.inl ⟨by kernel_rfl, ?_⟩) (by assumption) ?_
        rotate_left
        · (intro w hSw; (try dsimp only at hSw); go_simp; (try with_reducible rfl))
        simp only [Act.put, List.getElem_toArray, List.getElem_cons_succ, List.getElem_cons_zero, List.setIfInBounds_toArray, List.set_cons_zero, List.set_cons_succ]
        refine wpAnyH_take (i := 2) (v := ?_) rfl (by kernel_rfl) (by kernel_rfl) (by kernel_rfl) (fun _ _ _ h => h) (Or.inl ⟨by kernel_rfl, ?_⟩) (by assumption) ?_
        rotate_left
        · (intro w hSw; (try dsimp only at hSw); go_simp; (try with_reducible rfl))
        simp only [Act.put, List.getElem_toArray, List.getElem_cons_succ, List.getElem_cons_zero, List.setIfInBounds_toArray, List.set_cons_zero, List.set_cons_succ]
        refine wpAnyH_take (i := 3) (v := ?_) rfl (by kernel_rfl) (by kernel_rfl) (by kernel_rfl) (fun _ _ _ h => h) (Or.inl ⟨by kernel_rfl, ?_⟩) (by assumption) ?_
        rotate_left
        · (intro w hSw; (try dsimp only at hSw); go_simp; (try with_reducible rfl))
        simp only [Act.put, List.getElem_toArray, List.getElem_cons_succ, List.getElem_cons_zero, List.setIfInBounds_toArray, List.set_cons_zero, List.set_cons_succ]
        refine wpAnyH_take (i := 4) rfl (by kernel_rfl) (by kernel_rfl) (by kernel_rfl) (fun _ _ _ h => h) (yi_move (by kernel_rfl) rfl rfl) (by assumption) ?_
        simp only [Act.put, List.getElem_toArray, List.getElem_cons_succ, List.getElem_cons_zero, List.setIfInBounds_toArray, List.set_cons_zero, List.set_cons_succ]
        refine wpAnyH_ready (rs := [5]) (by kernel_rfl) (by simp) ?_
        refine AllReadyH.cons (o := _) rfl (fun K hK => ?_) AllReadyH.nil
        go_simp
        go_at_call 28; refine (C5.out _).mono ?_; rintro e V6 ⟨rfl, hV6⟩; rw [hV6]; clear hV6; have HB6 := HS0
        refine hK.out _ _ (HB6) (fun hHeld => ?_)
        clear hK K
        (try simp only [Act.put, List.getElem_toArray, List.getElem_cons_succ, List.getElem_cons_zero, List.setIfInBounds_toArray, List.set_cons_zero, List.set_cons_succ])
        refine wpAnyH_take (i := 6) (v := ?_) rfl (by kernel_rfl) (by kernel_rfl) (by kernel_rfl) (fun _ _ _ h => h) (Or.inl ⟨by kernel_rfl, ?_⟩) (by assumption) ?_
        rotate_left
        · (intro w hSw; (try dsimp only at hSw); go_simp; (try with_reducible rfl))
        simp only [Act.put, List.getElem_toArray, List.getElem_cons_succ, List.getElem_cons_zero, List.setIfInBounds_toArray, List.set_cons_zero, List.set_cons_succ]
        refine wpAnyH_take (i := 7) (v := ?_) rfl (by kernel_rfl) (by kernel_rfl) (by kernel_rfl) (fun _ _ _ h => h) (Or.inl ⟨by kernel_rfl, ?_⟩) (by assumption) ?_
        rotate_left
        · (intro w hSw; (try dsimp only at hSw); go_simp; (try with_reducible rfl))
        simp only [Act.put, List.getElem_toArray, List.getElem_cons_succ, List.getElem_cons_zero, List.setIfInBounds_toArray, List.set_cons_zero, List.set_cons_succ]
        refine wpAnyH_done (by kernel_rfl) ?_ _
        refine NoPanic.normal ?_
        go_wp2_with fail
        go_roundw
        case rel => exact ⟨i + 1, by omega, by go_num, HB.out.drew, HD.out, HN2.out⟩
        case measure => simp [intOf]; omega
    · obtain rfl : i = 4 := by omega
      have HR : Hid (h.hs k = true) := HAY.out HALL.out
      clear hd hall HALL HBT HAL HAY HML HBB HKL
      go_wp2_with fail
      go_ret
      exact ⟨by rw [HR.out]; rfl, HB.out⟩
end Go.Proofs.Ytokicaacllaijaa
