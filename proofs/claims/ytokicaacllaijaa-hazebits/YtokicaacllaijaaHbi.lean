/- HazeBits' walk. -/
import Derived.Test.YtokicaacllaijaaHzS
namespace Go.Proofs.Ytokicaacllaijaa
open Go.RowKit
set_option linter.unusedVariables false
set_option linter.unusedSimpArgs false
attribute [local go_sem ↓] zeroH zeroD

theorem infoH' (h : HZ.H) : (Try.prog.info? tH).map (·.size) = some (hC h).length := by rw [hC_len]; exact infoH
theorem infoD' (h : HZ.D) : (Try.prog.info? tD).map (·.size) = some (dC h).length := by rw [dC_len]; exact infoD
set_option maxRecDepth 8000 in
set_option maxHeartbeats 4000000 in
theorem hazeBits_walk (a b : HZ.D) (W : World) : Calls Try.prog 6 #[.agg (dC a).toArray, .agg (dC b).toArray] W fun e w' => e = .returned (.bool true) ∧ Bl W w' := by
  have C0 : Hid (∀ U, Calls Try.prog 9 #[] U fun e w' => e = .returned (.bool true) ∧ Bl U w') := awake_14
  have CO1 : Hid (∀ U, Calls Try.prog 14 #[.slice (some ⟨U.heap.size, 0, none⟩) 1 1] (U.alloc (.cells (dC a).toArray tD)) fun e w' => e = .returned (.agg (hC (HZ.zero.wi [a])).toArray) ∧ Bl U w') := fun U =>
    (Of_x [a] (some ⟨U.heap.size, 0, none⟩) 1 (by unfold maxLen; simp) _ (RS.one lyD U tD a)).mono fun e w' ⟨g1, g2⟩ => ⟨g1, g2.up⟩
  have CO2 : Hid (∀ U, Calls Try.prog 14 #[.slice (some ⟨U.heap.size, 0, none⟩) 2 2] (U.alloc (.cells (dC a ++ dC b).toArray tD)) fun e w' => e = .returned (.agg (hC (HZ.zero.wi [a, b])).toArray) ∧ Bl U w') := fun U =>
    (Of_x [a, b] (some ⟨U.heap.size, 0, none⟩) 2 (by unfold maxLen; simp) _ (rs_of lyD (by simp only [flG, List.flatMap_cons, List.flatMap_nil, List.append_nil]; rfl) (heap_alloc_new U _))).mono fun e w' ⟨g1, g2⟩ => ⟨g1, g2.up⟩
  have hbs := HZ.bits_same a b
  have h11 := HZ.ct_one a
  have h12 := HZ.ct_keys [a]
  have h13 := HZ.ct_keys [a, b]
  have CHZ : Hid (∀ U, Calls Try.prog 15 #[.agg zH, .agg (dC a).toArray] U fun e w' => e = .returned (.bool false) ∧ Bl U w') := fun U => by
    have := Has_x HZ.zero a U; rw [HZ.zero_hs] at this; exact this
  have CCZ : Hid (∀ U, Calls Try.prog 17 #[.agg zH] U fun e w' => e = .returned (.int .i64 0) ∧ Bl U w') := fun U => by
    have := Count_x HZ.zero U; rw [HZ.zero_ct] at this; exact this
  simp only [List.length_cons, List.length_nil, Nat.zero_add, Nat.reduceMul, Nat.reduceAdd] at h12 h13
  generalize HZ.zero.wi [a, b] = G at *
  generalize HZ.zero.wi [a] = H at *
  have CHb : Hid (∀ U, Calls Try.prog 15 #[.agg (hC H).toArray, .agg (dC b).toArray] U fun e w' => e = .returned (.bool (H.hs b)) ∧ Bl U w') := fun U => Has_x H b U
  have CC1 : Hid (∀ U, Calls Try.prog 17 #[.agg (hC H).toArray] U fun e w' => e = .returned (.int .i64 (H.ct : Int)) ∧ Bl U w') := fun U => Count_x H U
  have CC2 : Hid (∀ U, Calls Try.prog 17 #[.agg (hC G).toArray] U fun e w' => e = .returned (.int .i64 (G.ct : Int)) ∧ Bl U w') := fun U => Count_x G U
  have heq : ∀ U, (Op.equalIn 10000 tH (.agg (hC G).toArray) (.agg (hC H).toArray)).run Try.prog U = .ok (HZ.eqB G H) U := fun U => eqH G H U
  rw [← hbs] at heq
  clear hbs
  have HAI : Hid ((Try.prog.info? tD).map (·.size) = some (dC a).length) := infoD' a
  have HBI : Hid ((Try.prog.info? tD).map (·.size) = some (dC b).length) := infoD' b
  have HHI : Hid ((Try.prog.info? tH).map (·.size) = some (hC H).length) := infoH' H
  have HGI : Hid ((Try.prog.info? tH).map (·.size) = some (hC G).length) := infoH' G
  have HAL : Hid ((dC a).length = 32) := dC_len a
  have HBL : Hid ((dC b).length = 32) := dC_len b
  have HHL : Hid ((hC H).length = 64) := hC_len H
  have HGL : Hid ((hC G).length = 64) := hC_len G
  have HHO : Hid (∀ u ∈ hC H, u.oneCell' = true) := hC_one H
  have HGO : Hid (∀ u ∈ hC G, u.oneCell' = true) := hC_one G
  have HB0 : Hid (Bl W ((W.alloc (.cells (dC a).toArray tD)).alloc (.cells (dC b).toArray tD))) := ((Bl.refl W).alloc _).alloc _
  have RA0 : Hid (((W.alloc (.cells (dC a).toArray tD)).alloc (.cells (dC b).toArray tD)).heap[W.heap.size]? = some (.cells (dC a).toArray tD (0, 0))) := by
    show _ = _
    rw [Below.heap_alloc _ _ _ (by simp)]; exact heap_alloc_new W _
  have RB0 : Hid (((W.alloc (.cells (dC a).toArray tD)).alloc (.cells (dC b).toArray tD)).heap[W.heap.size + 1]? = some (.cells (dC b).toArray tD (0, 0))) := by
    show _ = _
    simpa using heap_alloc_new (W.alloc (.cells (dC a).toArray tD)) (.cells (dC b).toArray tD)
  generalize H.hs b = q at *
  have hqq : (q == q) = true := by simp
  obtain ⟨n1, e1⟩ : ∃ n : Nat, H.ct = n := ⟨_, rfl⟩
  obtain ⟨n2, e2⟩ : ∃ n : Nat, G.ct = n := ⟨_, rfl⟩
  rw [e1] at CC1 h11 h12
  rw [e2] at CC2 h13
  clear e1 e2
  have k1 : (1 : Int) ≤ (n1 : Int) := by omega
  have k2 : (n1 : Int) ≤ 4 := by omega
  have k3 : (n2 : Int) ≤ 8 := by omega
  have k1' : (n1 : Int) ≥ 1 := by omega
  clear h11 h12 h13
  have HAB : Hid ([dC a, dC b].flatten = dC a ++ dC b) := by show _ = _; simp
  generalize dC a ++ dC b = LAB at *
  generalize dC a = LA at *
  generalize dC b = LB at *
  generalize hC H = LH at *
  generalize hC G = LG at *
  go_enter Try.func6, Try.ntmps6
  go_wp2_with (first
    | go_big_skip
    | (go_at_call 9; refine (C0.out _).mono ?_; clear C0; rintro e w1 ⟨rfl, hb1⟩; have HB1 : Hid (Bl W w1) := HB0.out.step hb1; have RA1 := hidI (hb1.heap RA0.out); have RB1 := hidI (hb1.heap RB0.out); clear hb1 HB0 RA0 RB0; have R0 := range_of RA1.out)
    | (refine wl_midG (by rfl) tD _ rfl W.heap.size 0 rfl LA _ R0 undD rfl HAI.out ?_)
    | (refine wl_bs (by rfl) 23 tD 1 _ rfl [LA] (by simp only [List.map_toArray, List.map_cons, List.map_nil]; rfl) rfl 32 (by simp only [List.mem_cons, List.not_mem_nil, or_false, forall_eq]; exact HAL.out) LA (by simp) 32 (.agg zD) undDs infoD3 (by omega) (by omega) (by omega) (by omega) ?_)
    | (go_at_call 14; refine (CO1.out _).mono ?_; clear CO1 R0; rintro e w2 ⟨rfl, hb2⟩; have HB2 : Hid (Bl W w2) := HB1.out.step hb2; have RA2 := hidI (hb2.heap RA1.out); have RB2 := hidI (hb2.heap RB1.out); clear hb2 HB1 RA1 RB1)
    | (refine wl_rowU rfl tH _ _ rfl w2.heap.size LH rfl rfl tH zH (heap_alloc_new w2 _) 64 infoH HHL.out zH_size HHO.out ?_; intro U1 hU1 hO1 hs1; have hb1 : Bl w2 U1 := hO1.bl ((Bl.refl w2).alloc _) (Nat.le_refl _); have HB3 : Hid (Bl W U1) := HB2.out.step hb1; have RA3 := hidI (hb1.heap RA2.out); have RB3 := hidI (hb1.heap RB2.out); have RH3 := hidI hU1; clear hU1 hO1 hs1 hb1 HB2 RA2 RB2; have R0 := range_of RA3.out; have R1 := range_of RB3.out)
    | (refine wl_midG (by rfl) tD _ rfl (W.heap.size + 1) 0 rfl LB _ R1 undD rfl HBI.out ?_)
    | (refine wl_bs (by rfl) 23 tD 2 _ rfl [LA, LB] (by simp only [List.map_toArray, List.map_cons, List.map_nil]; rfl) rfl 32 (by simp only [List.mem_cons, List.not_mem_nil, or_false, forall_eq_or_imp, forall_eq]; exact ⟨HAL.out, HBL.out⟩) LAB HAB.out 32 (.agg zD) undDs infoD3 (by omega) (by omega) (by omega) (by omega) ?_)
    | (go_at_call 14; refine (CO2.out _).mono ?_; clear CO2 R0 R1; rintro e w4 ⟨rfl, hb4⟩; have HB4 : Hid (Bl W w4) := HB3.out.step hb4; have RA4 := hidI (hb4.heap RA3.out); have RB4 := hidI (hb4.heap RB3.out); have RH4 := hidI (hb4.heap RH3.out); clear hb4 HB3 RA3 RB3 RH3)
    | (refine wl_rowU rfl tH _ _ rfl w4.heap.size LG rfl rfl tH zH (heap_alloc_new w4 _) 64 infoH HGL.out zH_size HGO.out ?_; intro U2 hU2 hO2 hs2; have hb2 : Bl w4 U2 := hO2.bl ((Bl.refl w4).alloc _) (Nat.le_refl _); have HB5 : Hid (Bl W U2) := HB4.out.step hb2; have RA5 := hidI (hb2.heap RA4.out); have RB5 := hidI (hb2.heap RB4.out); have RH5 := hidI (hb2.heap RH4.out); have RG5 := hidI hU2; clear hU2 hO2 hs2 hb2 HB4 RA4 RB4 RH4))
  refine wp_region_noPanic ?_
  refine wp_region_held_drew (S := fun U => Bl U2 U) (by kernel_rfl) ((((HF.start U2).drew)).bl) (fun hHeld => ?_)
  refine wpAnyH_take (i := 0) (v := .agg (List.toArray LH)) rfl (by kernel_rfl) (by kernel_rfl) (by kernel_rfl) (fun _ _ _ h => h) (yieldsIf_load_mid (by kernel_rfl) _ (.tmp 5) (by kernel_rfl) w2.heap.size 0 (by kernel_rfl) LH _ (fun W hW => range_of (Bl.heap hW RH5.out)) undH rfl HHI.out) (by assumption) ?_
  simp only [Act.put, List.getElem_toArray, List.getElem_cons_succ, List.getElem_cons_zero, List.setIfInBounds_toArray, List.set_cons_zero, List.set_cons_succ, Act.eval, Array.getD_eq_getD_getElem?, List.getElem?_toArray, List.getElem?_cons_succ, List.getElem?_cons_zero, Option.getD_some]
  refine wpAnyH_take (i := 1) (v := .agg (List.toArray LB)) rfl (by kernel_rfl) (by kernel_rfl) (by kernel_rfl) (fun _ _ _ h => h) (yieldsIf_load_mid (by kernel_rfl) _ (.tmp 3) (by kernel_rfl) (W.heap.size + 1) 0 (by kernel_rfl) LB _ (fun W hW => range_of (Bl.heap hW RB5.out)) undD rfl HBI.out) (by assumption) ?_
  simp only [Act.put, List.getElem_toArray, List.getElem_cons_succ, List.getElem_cons_zero, List.setIfInBounds_toArray, List.set_cons_zero, List.set_cons_succ, Act.eval, Array.getD_eq_getD_getElem?, List.getElem?_toArray, List.getElem?_cons_succ, List.getElem?_cons_zero, Option.getD_some]
  refine wpAnyH_take (i := 3) (v := .agg (List.toArray LG)) rfl (by kernel_rfl) (by kernel_rfl) (by kernel_rfl) (fun _ _ _ h => h) (yieldsIf_load_mid (by kernel_rfl) _ (.tmp 6) (by kernel_rfl) w4.heap.size 0 (by kernel_rfl) LG _ (fun W hW => range_of (Bl.heap hW RG5.out)) undH rfl HGI.out) (by assumption) ?_
  simp only [Act.put, List.getElem_toArray, List.getElem_cons_succ, List.getElem_cons_zero, List.setIfInBounds_toArray, List.set_cons_zero, List.set_cons_succ, Act.eval, Array.getD_eq_getD_getElem?, List.getElem?_toArray, List.getElem?_cons_succ, List.getElem?_cons_zero, Option.getD_some]
  refine wpAnyH_take (i := 4) (v := .agg (List.toArray LH)) rfl (by kernel_rfl) (by kernel_rfl) (by kernel_rfl) (fun _ _ _ h => h) (yieldsIf_load_mid (by kernel_rfl) _ (.tmp 5) (by kernel_rfl) w2.heap.size 0 (by kernel_rfl) LH _ (fun W hW => range_of (Bl.heap hW RH5.out)) undH rfl HHI.out) (by assumption) ?_
  simp only [Act.put, List.getElem_toArray, List.getElem_cons_succ, List.getElem_cons_zero, List.setIfInBounds_toArray, List.set_cons_zero, List.set_cons_succ, Act.eval, Array.getD_eq_getD_getElem?, List.getElem?_toArray, List.getElem?_cons_succ, List.getElem?_cons_zero, Option.getD_some]
  refine wpAnyH_take (i := 5) (v := ?_) rfl (by kernel_rfl) (by kernel_rfl) (by kernel_rfl) (fun _ _ _ h => h) (Or.inl ⟨by kernel_rfl, ?_⟩) (by assumption) ?_
  rotate_left
  · (intro w hSw; (try dsimp only at hSw); go_simp; (try with_reducible rfl))
  simp only [Act.put, List.getElem_toArray, List.getElem_cons_succ, List.getElem_cons_zero, List.setIfInBounds_toArray, List.set_cons_zero, List.set_cons_succ, Act.eval, Array.getD_eq_getD_getElem?, List.getElem?_toArray, List.getElem?_cons_succ, List.getElem?_cons_zero, Option.getD_some]
  refine wpAnyH_ready (rs := [2]) (by kernel_rfl) (by simp) ?_
  refine AllReadyH.cons (o := _) rfl (fun K hK => ?_) AllReadyH.nil
  go_simp
  go_at_call 15; refine (CHb.out _).mono ?_; rintro e V6 ⟨rfl, hV6⟩; have HB6 := (((HF.start U2).drew)).step hV6; clear hV6
  (try clear hHeld)
  refine hK.out _ _ ((HB6).bl) (fun hHeld => ?_)
  clear hK K
  (try simp only [Act.put, List.getElem_toArray, List.getElem_cons_succ, List.getElem_cons_zero, List.setIfInBounds_toArray, List.set_cons_zero, List.set_cons_succ, Act.eval, Array.getD_eq_getD_getElem?, List.getElem?_toArray, List.getElem?_cons_succ, List.getElem?_cons_zero, Option.getD_some])
  refine wpAnyH_take (i := 6) (v := ?_) rfl (by kernel_rfl) (by kernel_rfl) (by kernel_rfl) (fun _ _ _ h => h) (Or.inl ⟨by kernel_rfl, ?_⟩) (by assumption) ?_
  rotate_left
  · (intro w hSw; (try dsimp only at hSw); go_simp; (try with_reducible rfl))
  simp only [Act.put, List.getElem_toArray, List.getElem_cons_succ, List.getElem_cons_zero, List.setIfInBounds_toArray, List.set_cons_zero, List.set_cons_succ, Act.eval, Array.getD_eq_getD_getElem?, List.getElem?_toArray, List.getElem?_cons_succ, List.getElem?_cons_zero, Option.getD_some]
  refine wpAnyH_take (i := 7) rfl (by kernel_rfl) (by kernel_rfl) (by kernel_rfl) (fun _ _ _ h => h) (yi_move (by kernel_rfl) rfl rfl) (by assumption) ?_
  simp only [Act.put, List.getElem_toArray, List.getElem_cons_succ, List.getElem_cons_zero, List.setIfInBounds_toArray, List.set_cons_zero, List.set_cons_succ, Act.eval, Array.getD_eq_getD_getElem?, List.getElem?_toArray, List.getElem?_cons_succ, List.getElem?_cons_zero, Option.getD_some]
  refine wpAnyH_take (i := 8) (v := .agg (List.toArray LH)) rfl (by kernel_rfl) (by kernel_rfl) (by kernel_rfl) (fun _ _ _ h => h) (yieldsIf_load_mid (by kernel_rfl) _ (.tmp 5) (by kernel_rfl) w2.heap.size 0 (by kernel_rfl) LH _ (fun W hW => range_of (Bl.heap hW RH5.out)) undH rfl HHI.out) (by assumption) ?_
  simp only [Act.put, List.getElem_toArray, List.getElem_cons_succ, List.getElem_cons_zero, List.setIfInBounds_toArray, List.set_cons_zero, List.set_cons_succ, Act.eval, Array.getD_eq_getD_getElem?, List.getElem?_toArray, List.getElem?_cons_succ, List.getElem?_cons_zero, Option.getD_some]
  refine wpAnyH_ready (rs := [9]) (by kernel_rfl) (by simp) ?_
  refine AllReadyH.cons (o := _) rfl (fun K hK => ?_) AllReadyH.nil
  go_simp
  go_at_call 17; refine (CC1.out _).mono ?_; rintro e V10 ⟨rfl, hV10⟩; have HB10 := (HB6).step hV10; clear hV10
  (try clear hHeld)
  refine hK.out _ _ ((HB10).bl) (fun hHeld => ?_)
  clear hK K
  (try simp only [Act.put, List.getElem_toArray, List.getElem_cons_succ, List.getElem_cons_zero, List.setIfInBounds_toArray, List.set_cons_zero, List.set_cons_succ, Act.eval, Array.getD_eq_getD_getElem?, List.getElem?_toArray, List.getElem?_cons_succ, List.getElem?_cons_zero, Option.getD_some])
  refine wpAnyH_take (i := 10) (v := ?_) rfl (by kernel_rfl) (by kernel_rfl) (by kernel_rfl) (fun _ _ _ h => h) (Or.inl ⟨by kernel_rfl, ?_⟩) (by assumption) ?_
  rotate_left
  · (intro w hSw; (try dsimp only at hSw); go_simp; (try with_reducible rfl))
  simp only [Act.put, List.getElem_toArray, List.getElem_cons_succ, List.getElem_cons_zero, List.setIfInBounds_toArray, List.set_cons_zero, List.set_cons_succ, Act.eval, Array.getD_eq_getD_getElem?, List.getElem?_toArray, List.getElem?_cons_succ, List.getElem?_cons_zero, Option.getD_some]
  refine wpAnyH_take (i := 11) (v := ?_) rfl (by kernel_rfl) (by kernel_rfl) (by kernel_rfl) (fun _ _ _ h => h) (Or.inl ⟨by kernel_rfl, ?_⟩) (by assumption) ?_
  rotate_left
  · (intro w hSw; (try dsimp only at hSw); go_simp; (try with_reducible rfl))
  simp only [Act.put, List.getElem_toArray, List.getElem_cons_succ, List.getElem_cons_zero, List.setIfInBounds_toArray, List.set_cons_zero, List.set_cons_succ, Act.eval, Array.getD_eq_getD_getElem?, List.getElem?_toArray, List.getElem?_cons_succ, List.getElem?_cons_zero, Option.getD_some]
  refine wpAnyH_take (i := 12) rfl (by kernel_rfl) (by kernel_rfl) (by kernel_rfl) (fun _ _ _ h => h) (yi_move (by kernel_rfl) rfl rfl) (by assumption) ?_
  simp only [Act.put, List.getElem_toArray, List.getElem_cons_succ, List.getElem_cons_zero, List.setIfInBounds_toArray, List.set_cons_zero, List.set_cons_succ, Act.eval, Array.getD_eq_getD_getElem?, List.getElem?_toArray, List.getElem?_cons_succ, List.getElem?_cons_zero, Option.getD_some]
  refine wpAnyH_take (i := 13) (v := .agg (List.toArray LH)) rfl (by kernel_rfl) (by kernel_rfl) (by kernel_rfl) (fun _ _ _ h => h) (yieldsIf_load_mid (by kernel_rfl) _ (.tmp 5) (by kernel_rfl) w2.heap.size 0 (by kernel_rfl) LH _ (fun W hW => range_of (Bl.heap hW RH5.out)) undH rfl HHI.out) (by assumption) ?_
  simp only [Act.put, List.getElem_toArray, List.getElem_cons_succ, List.getElem_cons_zero, List.setIfInBounds_toArray, List.set_cons_zero, List.set_cons_succ, Act.eval, Array.getD_eq_getD_getElem?, List.getElem?_toArray, List.getElem?_cons_succ, List.getElem?_cons_zero, Option.getD_some]
  refine wpAnyH_ready (rs := [14]) (by kernel_rfl) (by simp) ?_
  refine AllReadyH.cons (o := _) rfl (fun K hK => ?_) AllReadyH.nil
  go_simp
  go_at_call 17; refine (CC1.out _).mono ?_; rintro e V15 ⟨rfl, hV15⟩; have HB15 := (HB10).step hV15; clear hV15
  (try clear hHeld)
  refine hK.out _ _ ((HB15).bl) (fun hHeld => ?_)
  clear hK K
  (try simp only [Act.put, List.getElem_toArray, List.getElem_cons_succ, List.getElem_cons_zero, List.setIfInBounds_toArray, List.set_cons_zero, List.set_cons_succ, Act.eval, Array.getD_eq_getD_getElem?, List.getElem?_toArray, List.getElem?_cons_succ, List.getElem?_cons_zero, Option.getD_some])
  refine wpAnyH_take (i := 15) (v := ?_) rfl (by kernel_rfl) (by kernel_rfl) (by kernel_rfl) (fun _ _ _ h => h) (Or.inl ⟨by kernel_rfl, ?_⟩) (by assumption) ?_
  rotate_left
  · (intro w hSw; (try dsimp only at hSw); go_simp; (try with_reducible rfl))
  simp only [Act.put, List.getElem_toArray, List.getElem_cons_succ, List.getElem_cons_zero, List.setIfInBounds_toArray, List.set_cons_zero, List.set_cons_succ, Act.eval, Array.getD_eq_getD_getElem?, List.getElem?_toArray, List.getElem?_cons_succ, List.getElem?_cons_zero, Option.getD_some]
  refine wpAnyH_take (i := 16) (v := ?_) rfl (by kernel_rfl) (by kernel_rfl) (by kernel_rfl) (fun _ _ _ h => h) (Or.inl ⟨by kernel_rfl, ?_⟩) (by assumption) ?_
  rotate_left
  · (intro w hSw; (try dsimp only at hSw); go_simp; (try with_reducible rfl))
  simp only [Act.put, List.getElem_toArray, List.getElem_cons_succ, List.getElem_cons_zero, List.setIfInBounds_toArray, List.set_cons_zero, List.set_cons_succ, Act.eval, Array.getD_eq_getD_getElem?, List.getElem?_toArray, List.getElem?_cons_succ, List.getElem?_cons_zero, Option.getD_some]
  refine wpAnyH_take (i := 17) rfl (by kernel_rfl) (by kernel_rfl) (by kernel_rfl) (fun _ _ _ h => h) (yi_move (by kernel_rfl) rfl rfl) (by assumption) ?_
  simp only [Act.put, List.getElem_toArray, List.getElem_cons_succ, List.getElem_cons_zero, List.setIfInBounds_toArray, List.set_cons_zero, List.set_cons_succ, Act.eval, Array.getD_eq_getD_getElem?, List.getElem?_toArray, List.getElem?_cons_succ, List.getElem?_cons_zero, Option.getD_some]
  refine wpAnyH_take (i := 18) (v := .agg (List.toArray LG)) rfl (by kernel_rfl) (by kernel_rfl) (by kernel_rfl) (fun _ _ _ h => h) (yieldsIf_load_mid (by kernel_rfl) _ (.tmp 6) (by kernel_rfl) w4.heap.size 0 (by kernel_rfl) LG _ (fun W hW => range_of (Bl.heap hW RG5.out)) undH rfl HGI.out) (by assumption) ?_
  simp only [Act.put, List.getElem_toArray, List.getElem_cons_succ, List.getElem_cons_zero, List.setIfInBounds_toArray, List.set_cons_zero, List.set_cons_succ, Act.eval, Array.getD_eq_getD_getElem?, List.getElem?_toArray, List.getElem?_cons_succ, List.getElem?_cons_zero, Option.getD_some]
  refine wpAnyH_ready (rs := [19]) (by kernel_rfl) (by simp) ?_
  refine AllReadyH.cons (o := _) rfl (fun K hK => ?_) AllReadyH.nil
  go_simp
  go_at_call 17; refine (CC2.out _).mono ?_; rintro e V20 ⟨rfl, hV20⟩; have HB20 := (HB15).step hV20; clear hV20
  (try clear hHeld)
  refine hK.out _ _ ((HB20).bl) (fun hHeld => ?_)
  clear hK K
  (try simp only [Act.put, List.getElem_toArray, List.getElem_cons_succ, List.getElem_cons_zero, List.setIfInBounds_toArray, List.set_cons_zero, List.set_cons_succ, Act.eval, Array.getD_eq_getD_getElem?, List.getElem?_toArray, List.getElem?_cons_succ, List.getElem?_cons_zero, Option.getD_some])
  refine wpAnyH_take (i := 20) (v := ?_) rfl (by kernel_rfl) (by kernel_rfl) (by kernel_rfl) (fun _ _ _ h => h) (Or.inl ⟨by kernel_rfl, ?_⟩) (by assumption) ?_
  rotate_left
  · (intro w hSw; (try dsimp only at hSw); go_simp; (try with_reducible rfl))
  simp only [Act.put, List.getElem_toArray, List.getElem_cons_succ, List.getElem_cons_zero, List.setIfInBounds_toArray, List.set_cons_zero, List.set_cons_succ, Act.eval, Array.getD_eq_getD_getElem?, List.getElem?_toArray, List.getElem?_cons_succ, List.getElem?_cons_zero, Option.getD_some]
  refine wpAnyH_take (i := 21) (v := ?_) rfl (by kernel_rfl) (by kernel_rfl) (by kernel_rfl) (fun _ _ _ h => h) (Or.inl ⟨by kernel_rfl, ?_⟩) (by assumption) ?_
  rotate_left
  · (intro w hSw; (try dsimp only at hSw); go_simp; (try with_reducible rfl))
  simp only [Act.put, List.getElem_toArray, List.getElem_cons_succ, List.getElem_cons_zero, List.setIfInBounds_toArray, List.set_cons_zero, List.set_cons_succ, Act.eval, Array.getD_eq_getD_getElem?, List.getElem?_toArray, List.getElem?_cons_succ, List.getElem?_cons_zero, Option.getD_some]
  refine wpAnyH_take (i := 22) rfl (by kernel_rfl) (by kernel_rfl) (by kernel_rfl) (fun _ _ _ h => h) (yi_move (by kernel_rfl) rfl rfl) (by assumption) ?_
  simp only [Act.put, List.getElem_toArray, List.getElem_cons_succ, List.getElem_cons_zero, List.setIfInBounds_toArray, List.set_cons_zero, List.set_cons_succ, Act.eval, Array.getD_eq_getD_getElem?, List.getElem?_toArray, List.getElem?_cons_succ, List.getElem?_cons_zero, Option.getD_some]
  refine wpAnyH_take (i := 23) (v := .agg zH) rfl (by kernel_rfl) (by kernel_rfl) (by kernel_rfl) (fun _ _ _ h => h) (yi_buildP (by kernel_rfl) rfl #[] rfl builtH) (by assumption) ?_
  simp only [Act.put, List.getElem_toArray, List.getElem_cons_succ, List.getElem_cons_zero, List.setIfInBounds_toArray, List.set_cons_zero, List.set_cons_succ, Act.eval, Array.getD_eq_getD_getElem?, List.getElem?_toArray, List.getElem?_cons_succ, List.getElem?_cons_zero, Option.getD_some]
  refine wpAnyH_ready (rs := [24]) (by kernel_rfl) (by simp) ?_
  refine AllReadyH.cons (o := _) rfl (fun K hK => ?_) AllReadyH.nil
  go_simp
  go_at_call 17; refine (CCZ.out _).mono ?_; rintro e V25 ⟨rfl, hV25⟩; have HB25 := (HB20).step hV25; clear hV25
  (try clear hHeld)
  refine hK.out _ _ ((HB25).bl) (fun hHeld => ?_)
  clear hK K
  (try simp only [Act.put, List.getElem_toArray, List.getElem_cons_succ, List.getElem_cons_zero, List.setIfInBounds_toArray, List.set_cons_zero, List.set_cons_succ, Act.eval, Array.getD_eq_getD_getElem?, List.getElem?_toArray, List.getElem?_cons_succ, List.getElem?_cons_zero, Option.getD_some])
  refine wpAnyH_take (i := 25) (v := ?_) rfl (by kernel_rfl) (by kernel_rfl) (by kernel_rfl) (fun _ _ _ h => h) (Or.inl ⟨by kernel_rfl, ?_⟩) (by assumption) ?_
  rotate_left
  · (intro w hSw; (try dsimp only at hSw); go_simp; (try with_reducible rfl))
  simp only [Act.put, List.getElem_toArray, List.getElem_cons_succ, List.getElem_cons_zero, List.setIfInBounds_toArray, List.set_cons_zero, List.set_cons_succ, Act.eval, Array.getD_eq_getD_getElem?, List.getElem?_toArray, List.getElem?_cons_succ, List.getElem?_cons_zero, Option.getD_some]
  refine wpAnyH_take (i := 26) (v := ?_) rfl (by kernel_rfl) (by kernel_rfl) (by kernel_rfl) (fun _ _ _ h => h) (Or.inl ⟨by kernel_rfl, ?_⟩) (by assumption) ?_
  rotate_left
  · (intro w hSw; (try dsimp only at hSw); go_simp; (try with_reducible rfl))
  simp only [Act.put, List.getElem_toArray, List.getElem_cons_succ, List.getElem_cons_zero, List.setIfInBounds_toArray, List.set_cons_zero, List.set_cons_succ, Act.eval, Array.getD_eq_getD_getElem?, List.getElem?_toArray, List.getElem?_cons_succ, List.getElem?_cons_zero, Option.getD_some]
  refine wpAnyH_take (i := 27) rfl (by kernel_rfl) (by kernel_rfl) (by kernel_rfl) (fun _ _ _ h => h) (yi_move (by kernel_rfl) rfl rfl) (by assumption) ?_
  simp only [Act.put, List.getElem_toArray, List.getElem_cons_succ, List.getElem_cons_zero, List.setIfInBounds_toArray, List.set_cons_zero, List.set_cons_succ, Act.eval, Array.getD_eq_getD_getElem?, List.getElem?_toArray, List.getElem?_cons_succ, List.getElem?_cons_zero, Option.getD_some]
  refine wpAnyH_take (i := 28) (v := .agg zH) rfl (by kernel_rfl) (by kernel_rfl) (by kernel_rfl) (fun _ _ _ h => h) (yi_buildP (by kernel_rfl) rfl #[] rfl builtH) (by assumption) ?_
  simp only [Act.put, List.getElem_toArray, List.getElem_cons_succ, List.getElem_cons_zero, List.setIfInBounds_toArray, List.set_cons_zero, List.set_cons_succ, Act.eval, Array.getD_eq_getD_getElem?, List.getElem?_toArray, List.getElem?_cons_succ, List.getElem?_cons_zero, Option.getD_some]
  refine wpAnyH_take (i := 29) (v := .agg (List.toArray LA)) rfl (by kernel_rfl) (by kernel_rfl) (by kernel_rfl) (fun _ _ _ h => h) (yieldsIf_load_mid (by kernel_rfl) _ (.tmp 2) (by kernel_rfl) W.heap.size 0 (by kernel_rfl) LA _ (fun W hW => range_of (Bl.heap hW RA5.out)) undD rfl HAI.out) (by assumption) ?_
  simp only [Act.put, List.getElem_toArray, List.getElem_cons_succ, List.getElem_cons_zero, List.setIfInBounds_toArray, List.set_cons_zero, List.set_cons_succ, Act.eval, Array.getD_eq_getD_getElem?, List.getElem?_toArray, List.getElem?_cons_succ, List.getElem?_cons_zero, Option.getD_some]
  refine wpAnyH_ready (rs := [30]) (by kernel_rfl) (by simp) ?_
  refine AllReadyH.cons (o := _) rfl (fun K hK => ?_) AllReadyH.nil
  go_simp
  go_at_call 15; refine (CHZ.out _).mono ?_; rintro e V31 ⟨rfl, hV31⟩; have HB31 := (HB25).step hV31; clear hV31
  (try clear hHeld)
  refine hK.out _ _ ((HB31).bl) (fun hHeld => ?_)
  clear hK K
  (try simp only [Act.put, List.getElem_toArray, List.getElem_cons_succ, List.getElem_cons_zero, List.setIfInBounds_toArray, List.set_cons_zero, List.set_cons_succ, Act.eval, Array.getD_eq_getD_getElem?, List.getElem?_toArray, List.getElem?_cons_succ, List.getElem?_cons_zero, Option.getD_some])
  refine wpAnyH_take (i := 31) (v := ?_) rfl (by kernel_rfl) (by kernel_rfl) (by kernel_rfl) (fun _ _ _ h => h) (Or.inl ⟨by kernel_rfl, ?_⟩) (by assumption) ?_
  rotate_left
  · (intro w hSw; (try dsimp only at hSw); go_simp; (try with_reducible rfl))
  simp only [Act.put, List.getElem_toArray, List.getElem_cons_succ, List.getElem_cons_zero, List.setIfInBounds_toArray, List.set_cons_zero, List.set_cons_succ, Act.eval, Array.getD_eq_getD_getElem?, List.getElem?_toArray, List.getElem?_cons_succ, List.getElem?_cons_zero, Option.getD_some]
  refine wpAnyH_take (i := 32) (v := ?_) rfl (by kernel_rfl) (by kernel_rfl) (by kernel_rfl) (fun _ _ _ h => h) (Or.inl ⟨by kernel_rfl, ?_⟩) (by assumption) ?_
  rotate_left
  · (intro w hSw; (try dsimp only at hSw); go_simp; (try with_reducible rfl))
  simp only [Act.put, List.getElem_toArray, List.getElem_cons_succ, List.getElem_cons_zero, List.setIfInBounds_toArray, List.set_cons_zero, List.set_cons_succ, Act.eval, Array.getD_eq_getD_getElem?, List.getElem?_toArray, List.getElem?_cons_succ, List.getElem?_cons_zero, Option.getD_some]
  refine wpAnyH_take (i := 33) rfl (by kernel_rfl) (by kernel_rfl) (by kernel_rfl) (fun _ _ _ h => h) (yi_assign (by kernel_rfl) rfl rfl) (by assumption) ?_
  simp only [Act.put, List.getElem_toArray, List.getElem_cons_succ, List.getElem_cons_zero, List.setIfInBounds_toArray, List.set_cons_zero, List.set_cons_succ, Act.eval, Array.getD_eq_getD_getElem?, List.getElem?_toArray, List.getElem?_cons_succ, List.getElem?_cons_zero, Option.getD_some]
  refine wpAnyH_done (by kernel_rfl) ?_ _
  refine NoPanic.normal ?_
  go_wp2_with fail
  go_ret
  exact ⟨rfl, HB5.out.step (HB31).bl⟩
end Go.Proofs.Ytokicaacllaijaa
