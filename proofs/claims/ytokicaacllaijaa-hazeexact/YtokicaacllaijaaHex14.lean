/- HazeExact's walk. -/
import Derived.Test.YtokicaacllaijaaHzS
import Derived.Test.YtokicaacllaijaaHz3
import Derived.Test.YtokicaacllaijaaHz8
namespace Go.Proofs.Ytokicaacllaijaa
open Go.RowKit
set_option linter.unusedVariables false
set_option linter.unusedSimpArgs false
attribute [local go_sem ↓] zeroH zeroD

set_option maxRecDepth 8000 in
set_option maxHeartbeats 4000000 in
theorem hazeExact_walk (ls : List HZ.H) (sa : Option Addr) (ca : Nat) (W : World) (hva : RS lyH W sa ls) (hna : ls.length ≤ maxLen) (hta : ∀ t ∈ ls, True) (l : List HZ.D) (sl : Option Addr) (c : Nat) (hv : RS lyD W sl l) (hn : l.length ≤ maxLen) (ht : ∀ t ∈ l, True) (k : HZ.D) : Calls Try.prog 3 #[.slice sa ls.length ca, .slice sl l.length c, .agg (dC k).toArray] W fun e w' => e = .returned (.bool true) ∧ Bl W w' := by
  unfold maxLen at hn hna
  clear ht hta
  have C0 : Hid (∀ U, Calls Try.prog 9 #[] U fun e w' => e = .returned (.bool true) ∧ Bl U w') := awake_14
  have HV : Hid (RS lyD W sl l) := hv
  have HA : Hid (RS lyH W sa ls) := hva
  clear hv hva
  have CJ : Hid (∀ U, Bl W U → Calls Try.prog 10 #[.slice sa ls.length ca] U fun e w' => e = .returned (.agg (hC (HZ.jo ls)).toArray) ∧ Bl U w') := fun U hU => Join_x ls sa ca (by unfold maxLen; omega) U (HA.out.bl hU)
  have CJr : Hid (∀ U, Bl W U → Calls Try.prog 12 #[.slice sa ls.length ca] U fun e w' => e = .returned (.agg (hC (HZ.jo ls)).toArray) ∧ Bl U w') := fun U hU => rJoin_x ls sa ca (by unfold maxLen; omega) U (HA.out.bl hU)
  generalize HZ.jo ls = H at *
  have CW : Hid (∀ U, Bl W U → Calls Try.prog 11 #[.agg (hC H).toArray, .slice sl l.length c] U fun e w' => e = .returned (.agg (hC (H.wi l)).toArray) ∧ Bl U w') := fun U hU => With_x H l sl c (by unfold maxLen; omega) U (HV.out.bl hU)
  have CWr : Hid (∀ U, Bl W U → Calls Try.prog 13 #[.agg (hC H).toArray, .slice sl l.length c] U fun e w' => e = .returned (.agg (hC (H.wi l)).toArray) ∧ Bl U w') := fun U hU => rWith_x H l sl c (by unfold maxLen; omega) U (HV.out.bl hU)
  have CO : Hid (∀ U, Bl W U → Calls Try.prog 14 #[.slice sl l.length c] U fun e w' => e = .returned (.agg (hC (HZ.zero.wi l)).toArray) ∧ Bl U w') := fun U hU => Of_x l sl c (by unfold maxLen; omega) U (HV.out.bl hU)
  have COr : Hid (∀ U, Bl W U → Calls Try.prog 13 #[.agg zH, .slice sl l.length c] U fun e w' => e = .returned (.agg (hC (HZ.zero.wi l)).toArray) ∧ Bl U w') := fun U hU => rWith_x HZ.zero l sl c (by unfold maxLen; omega) U (HV.out.bl hU)
  clear HA HV
  generalize HZ.zero.wi l = O at *
  generalize H.wi l = G at *
  have C1 : Hid (∀ U, Calls Try.prog 15 #[.agg (hC H).toArray, .agg (dC k).toArray] U fun e w' => e = .returned (.bool (H.hs k)) ∧ Bl U w') := Has_x H k
  have C2 : Hid (∀ U, Calls Try.prog 16 #[.agg (hC H).toArray, .agg (dC k).toArray] U fun e w' => e = .returned (.bool (H.hs k)) ∧ Bl U w') := rHas_x H k
  have C3 : Hid (∀ U, Calls Try.prog 15 #[.agg (hC G).toArray, .agg (dC k).toArray] U fun e w' => e = .returned (.bool (G.hs k)) ∧ Bl U w') := Has_x G k
  have C4 : Hid (∀ U, Calls Try.prog 16 #[.agg (hC G).toArray, .agg (dC k).toArray] U fun e w' => e = .returned (.bool (G.hs k)) ∧ Bl U w') := rHas_x G k
  have C5 : Hid (∀ U, Calls Try.prog 17 #[.agg (hC H).toArray] U fun e w' => e = .returned (.int .i64 (H.ct : Int)) ∧ Bl U w') := Count_x H
  have C6 : Hid (∀ U, Calls Try.prog 18 #[.agg (hC H).toArray] U fun e w' => e = .returned (.int .i64 (H.ct : Int)) ∧ Bl U w') := rCount_x H
  have e1 : ∀ U, (Op.equalIn 10000 tH (.agg (hC H).toArray) (.agg (hC H).toArray)).run Try.prog U = .ok true U := fun U => by rw [eqH, HZ.eqB_self]
  have e2 : ∀ U, (Op.equalIn 10000 tH (.agg (hC G).toArray) (.agg (hC G).toArray)).run Try.prog U = .ok true U := fun U => by rw [eqH, HZ.eqB_self]
  have e3 : ∀ U, (Op.equalIn 10000 tH (.agg (hC O).toArray) (.agg (hC O).toArray)).run Try.prog U = .ok true U := fun U => by rw [eqH, HZ.eqB_self]
  generalize H.hs k = q1 at *
  generalize G.hs k = q2 at *
  generalize H.ct = n1 at *
  have hq1 : (q1 == q1) = true := by simp
  have hq2 : (q2 == q2) = true := by simp
  have hn1 : ((n1 : Int) == (n1 : Int)) = true := by simp
  have HIH : Hid ((Try.prog.info? tH).map (·.size) = some (hC H).length) := infoH' H
  have HIG : Hid ((Try.prog.info? tH).map (·.size) = some (hC G).length) := infoH' G
  have HIK : Hid ((Try.prog.info? tD).map (·.size) = some (dC k).length) := infoD' k
  have HLH : Hid ((hC H).length = 64) := hC_len H
  have HLG : Hid ((hC G).length = 64) := hC_len G
  have HOH : Hid (∀ u ∈ hC H, u.oneCell' = true) := hC_one H
  have HOG : Hid (∀ u ∈ hC G, u.oneCell' = true) := hC_one G
  have HB0 : Hid (Bl W (W.alloc (.cells (dC k).toArray tD))) := (Bl.refl W).alloc _
  have RK0 : Hid ((W.alloc (.cells (dC k).toArray tD)).heap[W.heap.size]? = some (.cells (dC k).toArray tD (0, 0))) := heap_alloc_new W _
  generalize hC H = LH at *
  generalize hC G = LG at *
  generalize hC O = LO at *
  generalize dC k = LK at *
  by_cases hls : ls.length ≤ 60
  · by_cases hll : l.length ≤ 60
    · go_enter Try.func3, Try.ntmps3
      go_upto_region 7 with (first
        | go_big_skip
        | (go_at_call 9; refine (C0.out _).mono ?_; clear C0; rintro e w1 ⟨rfl, hb1⟩; have HB1 : Hid (Bl W w1) := HB0.out.step hb1; have RK1 := hidI (hb1.heap RK0.out); clear hb1 HB0 RK0)
        | (go_at_call 10; refine (CJ.out _ HB1.out).mono ?_; clear CJ; rintro e w2 ⟨rfl, hb2⟩; have HB2 : Hid (Bl W w2) := HB1.out.step hb2; have RK2 := hidI (hb2.heap RK1.out); clear hb2 HB1 RK1)
        | (refine wl_rowU rfl tH _ _ rfl w2.heap.size LH rfl rfl tH zH (heap_alloc_new w2 _) 64 infoH HLH.out zH_size HOH.out ?_; intro U1 hU1 hO1 hs1; have hb1 : Bl w2 U1 := hO1.bl ((Bl.refl w2).alloc _) (Nat.le_refl _); have HB3 : Hid (Bl W U1) := HB2.out.step hb1; have RK3 := hidI (hb1.heap RK2.out); have RH3 := hidI hU1; clear hU1 hO1 hs1 hb1 HB2 RK2; have R3 := range_of RH3.out)
        | (refine wl_midG (by rfl) tH _ rfl w2.heap.size 0 rfl LH _ R3 undH rfl HIH.out ?_; clear R3)
        | (go_at_call 11; refine (CW.out _ HB3.out).mono ?_; clear CW; rintro e w4 ⟨rfl, hb4⟩; have HB4 : Hid (Bl W w4) := HB3.out.step hb4; have RK4 := hidI (hb4.heap RK3.out); have RH4 := hidI (hb4.heap RH3.out); clear hb4 HB3 RK3 RH3)
        | (refine wl_rowU rfl tH _ _ rfl w4.heap.size LG rfl rfl tH zH (heap_alloc_new w4 _) 64 infoH HLG.out zH_size HOG.out ?_; intro U2 hU2 hO2 hs2; have hb2 : Bl w4 U2 := hO2.bl ((Bl.refl w4).alloc _) (Nat.le_refl _); have HB5 : Hid (Bl W U2) := HB4.out.step hb2; have RK5 := hidI (hb2.heap RK4.out); have RH5 := hidI (hb2.heap RH4.out); have RG5 := hidI hU2; clear hU2 hO2 hs2 hb2 HB4 RK4 RH4))
      have CJx : Hid (∀ U, Bl U2 U → Calls Try.prog 12 #[.slice sa ls.length ca] U fun e w' => e = .returned (.agg LH.toArray) ∧ Bl U w') := fun U hU => CJr.out U (HB5.out.step hU)
      have CWx : Hid (∀ U, Bl U2 U → Calls Try.prog 13 #[.agg LH.toArray, .slice sl l.length c] U fun e w' => e = .returned (.agg LG.toArray) ∧ Bl U w') := fun U hU => CWr.out U (HB5.out.step hU)
      have COx : Hid (∀ U, Bl U2 U → Calls Try.prog 14 #[.slice sl l.length c] U fun e w' => e = .returned (.agg LO.toArray) ∧ Bl U w') := fun U hU => CO.out U (HB5.out.step hU)
      have CZx : Hid (∀ U, Bl U2 U → Calls Try.prog 13 #[.agg zH, .slice sl l.length c] U fun e w' => e = .returned (.agg LO.toArray) ∧ Bl U w') := fun U hU => COr.out U (HB5.out.step hU)
      clear CJr CWr CO COr
      refine wp_region_noPanic ?_
      refine wp_region_held_drew (S := fun U => Bl U2 U) (by kernel_rfl) ((((HF.start U2).drew)).bl) (fun hHeld => ?_)
      refine wpAnyH_take (i := 0) (v := .agg (List.toArray LH)) rfl (by kernel_rfl) (by kernel_rfl) (by kernel_rfl) (fun _ _ _ h => h) (yieldsIf_load_mid (by kernel_rfl) _ (.tmp 7) (by kernel_rfl) w2.heap.size 0 (by kernel_rfl) LH _ (fun W hW => range_of (Bl.heap hW RH5.out)) undH rfl HIH.out) (by assumption) ?_
      simp only [Act.put, List.getElem_toArray, List.getElem_cons_succ, List.getElem_cons_zero, List.setIfInBounds_toArray, List.set_cons_zero, List.set_cons_succ, Act.eval, Array.getD_eq_getD_getElem?, List.getElem?_toArray, List.getElem?_cons_succ, List.getElem?_cons_zero, Option.getD_some]
      refine wpAnyH_take (i := 1) rfl (by kernel_rfl) (by kernel_rfl) (by kernel_rfl) (fun _ _ _ h => h) (yi_move (by kernel_rfl) rfl rfl) (by assumption) ?_
      simp only [Act.put, List.getElem_toArray, List.getElem_cons_succ, List.getElem_cons_zero, List.setIfInBounds_toArray, List.set_cons_zero, List.set_cons_succ, Act.eval, Array.getD_eq_getD_getElem?, List.getElem?_toArray, List.getElem?_cons_succ, List.getElem?_cons_zero, Option.getD_some]
      refine wpAnyH_ready (rs := [2]) (by kernel_rfl) (by simp) ?_
      refine AllReadyH.cons (o := _) rfl (fun K hK => ?_) AllReadyH.nil
      go_simp
      go_at_call 12; refine (CJx.out _ (((HF.start U2).drew)).bl).mono ?_; rintro e V3 ⟨rfl, hV3⟩; have HB3 := (((HF.start U2).drew)).step hV3; clear hV3
      (try clear hHeld)
      refine hK.out _ _ ((HB3).bl) (fun hHeld => ?_)
      clear hK K
      (try simp only [Act.put, List.getElem_toArray, List.getElem_cons_succ, List.getElem_cons_zero, List.setIfInBounds_toArray, List.set_cons_zero, List.set_cons_succ, Act.eval, Array.getD_eq_getD_getElem?, List.getElem?_toArray, List.getElem?_cons_succ, List.getElem?_cons_zero, Option.getD_some])
      refine wpAnyH_take (i := 3) (v := ?_) rfl (by kernel_rfl) (by kernel_rfl) (by kernel_rfl) (fun _ _ _ h => h) (Or.inl ⟨by kernel_rfl, ?_⟩) (by assumption) ?_
      rotate_left
      · (intro w hSw; (try dsimp only at hSw); go_simp; (try with_reducible rfl))
      simp only [Act.put, List.getElem_toArray, List.getElem_cons_succ, List.getElem_cons_zero, List.setIfInBounds_toArray, List.set_cons_zero, List.set_cons_succ, Act.eval, Array.getD_eq_getD_getElem?, List.getElem?_toArray, List.getElem?_cons_succ, List.getElem?_cons_zero, Option.getD_some]
      refine wpAnyH_take (i := 4) rfl (by kernel_rfl) (by kernel_rfl) (by kernel_rfl) (fun _ _ _ h => h) (yi_move (by kernel_rfl) rfl rfl) (by assumption) ?_
      simp only [Act.put, List.getElem_toArray, List.getElem_cons_succ, List.getElem_cons_zero, List.setIfInBounds_toArray, List.set_cons_zero, List.set_cons_succ, Act.eval, Array.getD_eq_getD_getElem?, List.getElem?_toArray, List.getElem?_cons_succ, List.getElem?_cons_zero, Option.getD_some]
      refine wpAnyH_take (i := 5) (v := .agg (List.toArray LG)) rfl (by kernel_rfl) (by kernel_rfl) (by kernel_rfl) (fun _ _ _ h => h) (yieldsIf_load_mid (by kernel_rfl) _ (.tmp 8) (by kernel_rfl) w4.heap.size 0 (by kernel_rfl) LG _ (fun W hW => range_of (Bl.heap hW RG5.out)) undH rfl HIG.out) (by assumption) ?_
      simp only [Act.put, List.getElem_toArray, List.getElem_cons_succ, List.getElem_cons_zero, List.setIfInBounds_toArray, List.set_cons_zero, List.set_cons_succ, Act.eval, Array.getD_eq_getD_getElem?, List.getElem?_toArray, List.getElem?_cons_succ, List.getElem?_cons_zero, Option.getD_some]
      refine wpAnyH_take (i := 6) (v := .agg (List.toArray LH)) rfl (by kernel_rfl) (by kernel_rfl) (by kernel_rfl) (fun _ _ _ h => h) (yieldsIf_load_mid (by kernel_rfl) _ (.tmp 7) (by kernel_rfl) w2.heap.size 0 (by kernel_rfl) LH _ (fun W hW => range_of (Bl.heap hW RH5.out)) undH rfl HIH.out) (by assumption) ?_
      simp only [Act.put, List.getElem_toArray, List.getElem_cons_succ, List.getElem_cons_zero, List.setIfInBounds_toArray, List.set_cons_zero, List.set_cons_succ, Act.eval, Array.getD_eq_getD_getElem?, List.getElem?_toArray, List.getElem?_cons_succ, List.getElem?_cons_zero, Option.getD_some]
      refine wpAnyH_take (i := 7) rfl (by kernel_rfl) (by kernel_rfl) (by kernel_rfl) (fun _ _ _ h => h) (yi_move (by kernel_rfl) rfl rfl) (by assumption) ?_
      simp only [Act.put, List.getElem_toArray, List.getElem_cons_succ, List.getElem_cons_zero, List.setIfInBounds_toArray, List.set_cons_zero, List.set_cons_succ, Act.eval, Array.getD_eq_getD_getElem?, List.getElem?_toArray, List.getElem?_cons_succ, List.getElem?_cons_zero, Option.getD_some]
      refine wpAnyH_ready (rs := [8]) (by kernel_rfl) (by simp) ?_
      refine AllReadyH.cons (o := _) rfl (fun K hK => ?_) AllReadyH.nil
      go_simp
      go_at_call 13; refine (CWx.out _ (HB3).bl).mono ?_; rintro e V9 ⟨rfl, hV9⟩; have HB9 := (HB3).step hV9; clear hV9
      (try clear hHeld)
      refine hK.out _ _ ((HB9).bl) (fun hHeld => ?_)
      clear hK K
      (try simp only [Act.put, List.getElem_toArray, List.getElem_cons_succ, List.getElem_cons_zero, List.setIfInBounds_toArray, List.set_cons_zero, List.set_cons_succ, Act.eval, Array.getD_eq_getD_getElem?, List.getElem?_toArray, List.getElem?_cons_succ, List.getElem?_cons_zero, Option.getD_some])
      refine wpAnyH_take (i := 9) (v := ?_) rfl (by kernel_rfl) (by kernel_rfl) (by kernel_rfl) (fun _ _ _ h => h) (Or.inl ⟨by kernel_rfl, ?_⟩) (by assumption) ?_
      rotate_left
      · (intro w hSw; (try dsimp only at hSw); go_simp; (try with_reducible rfl))
      simp only [Act.put, List.getElem_toArray, List.getElem_cons_succ, List.getElem_cons_zero, List.setIfInBounds_toArray, List.set_cons_zero, List.set_cons_succ, Act.eval, Array.getD_eq_getD_getElem?, List.getElem?_toArray, List.getElem?_cons_succ, List.getElem?_cons_zero, Option.getD_some]
      refine wpAnyH_take (i := 10) (v := ?_) rfl (by kernel_rfl) (by kernel_rfl) (by kernel_rfl) (fun _ _ _ h => h) (Or.inl ⟨by kernel_rfl, ?_⟩) (by assumption) ?_
      rotate_left
      · (intro w hSw; (try dsimp only at hSw); go_simp; (try with_reducible rfl))
      simp only [Act.put, List.getElem_toArray, List.getElem_cons_succ, List.getElem_cons_zero, List.setIfInBounds_toArray, List.set_cons_zero, List.set_cons_succ, Act.eval, Array.getD_eq_getD_getElem?, List.getElem?_toArray, List.getElem?_cons_succ, List.getElem?_cons_zero, Option.getD_some]
      refine wpAnyH_take (i := 11) rfl (by kernel_rfl) (by kernel_rfl) (by kernel_rfl) (fun _ _ _ h => h) (yi_move (by kernel_rfl) rfl rfl) (by assumption) ?_
      simp only [Act.put, List.getElem_toArray, List.getElem_cons_succ, List.getElem_cons_zero, List.setIfInBounds_toArray, List.set_cons_zero, List.set_cons_succ, Act.eval, Array.getD_eq_getD_getElem?, List.getElem?_toArray, List.getElem?_cons_succ, List.getElem?_cons_zero, Option.getD_some]
      refine wpAnyH_take (i := 12) rfl (by kernel_rfl) (by kernel_rfl) (by kernel_rfl) (fun _ _ _ h => h) (yi_move (by kernel_rfl) rfl rfl) (by assumption) ?_
      simp only [Act.put, List.getElem_toArray, List.getElem_cons_succ, List.getElem_cons_zero, List.setIfInBounds_toArray, List.set_cons_zero, List.set_cons_succ, Act.eval, Array.getD_eq_getD_getElem?, List.getElem?_toArray, List.getElem?_cons_succ, List.getElem?_cons_zero, Option.getD_some]
      refine wpAnyH_take (i := 14) (v := .agg zH) rfl (by kernel_rfl) (by kernel_rfl) (by kernel_rfl) (fun _ _ _ h => h) (yi_buildP (by kernel_rfl) rfl #[] rfl builtH) (by assumption) ?_
      simp only [Act.put, List.getElem_toArray, List.getElem_cons_succ, List.getElem_cons_zero, List.setIfInBounds_toArray, List.set_cons_zero, List.set_cons_succ, Act.eval, Array.getD_eq_getD_getElem?, List.getElem?_toArray, List.getElem?_cons_succ, List.getElem?_cons_zero, Option.getD_some]
      refine wpAnyH_take (i := 15) rfl (by kernel_rfl) (by kernel_rfl) (by kernel_rfl) (fun _ _ _ h => h) (yi_move (by kernel_rfl) rfl rfl) (by assumption) ?_
      simp only [Act.put, List.getElem_toArray, List.getElem_cons_succ, List.getElem_cons_zero, List.setIfInBounds_toArray, List.set_cons_zero, List.set_cons_succ, Act.eval, Array.getD_eq_getD_getElem?, List.getElem?_toArray, List.getElem?_cons_succ, List.getElem?_cons_zero, Option.getD_some]
      refine wpAnyH_ready (rs := [13]) (by kernel_rfl) (by simp) ?_
      refine AllReadyH.cons (o := _) rfl (fun K hK => ?_) AllReadyH.nil
      go_simp
      go_at_call 14; refine (COx.out _ (HB9).bl).mono ?_; rintro e V16 ⟨rfl, hV16⟩; have HB16 := (HB9).step hV16; clear hV16
      (try clear hHeld)
      refine hK.out _ _ ((HB16).bl) (fun hHeld => ?_)
      clear hK K
      (try simp only [Act.put, List.getElem_toArray, List.getElem_cons_succ, List.getElem_cons_zero, List.setIfInBounds_toArray, List.set_cons_zero, List.set_cons_succ, Act.eval, Array.getD_eq_getD_getElem?, List.getElem?_toArray, List.getElem?_cons_succ, List.getElem?_cons_zero, Option.getD_some])
      refine wpAnyH_ready (rs := [16]) (by kernel_rfl) (by simp) ?_
      refine AllReadyH.cons (o := _) rfl (fun K hK => ?_) AllReadyH.nil
      go_simp
      go_at_call 13; refine (CZx.out _ (HB16).bl).mono ?_; rintro e V17 ⟨rfl, hV17⟩; have HB17 := (HB16).step hV17; clear hV17
      (try clear hHeld)
      refine hK.out _ _ ((HB17).bl) (fun hHeld => ?_)
      clear hK K
      (try simp only [Act.put, List.getElem_toArray, List.getElem_cons_succ, List.getElem_cons_zero, List.setIfInBounds_toArray, List.set_cons_zero, List.set_cons_succ, Act.eval, Array.getD_eq_getD_getElem?, List.getElem?_toArray, List.getElem?_cons_succ, List.getElem?_cons_zero, Option.getD_some])
      refine wpAnyH_take (i := 17) (v := ?_) rfl (by kernel_rfl) (by kernel_rfl) (by kernel_rfl) (fun _ _ _ h => h) (Or.inl ⟨by kernel_rfl, ?_⟩) (by assumption) ?_
      rotate_left
      · (intro w hSw; (try dsimp only at hSw); go_simp; (try with_reducible rfl))
      simp only [Act.put, List.getElem_toArray, List.getElem_cons_succ, List.getElem_cons_zero, List.setIfInBounds_toArray, List.set_cons_zero, List.set_cons_succ, Act.eval, Array.getD_eq_getD_getElem?, List.getElem?_toArray, List.getElem?_cons_succ, List.getElem?_cons_zero, Option.getD_some]
      refine wpAnyH_take (i := 18) (v := ?_) rfl (by kernel_rfl) (by kernel_rfl) (by kernel_rfl) (fun _ _ _ h => h) (Or.inl ⟨by kernel_rfl, ?_⟩) (by assumption) ?_
      rotate_left
      · (intro w hSw; (try dsimp only at hSw); go_simp; (try with_reducible rfl))
      simp only [Act.put, List.getElem_toArray, List.getElem_cons_succ, List.getElem_cons_zero, List.setIfInBounds_toArray, List.set_cons_zero, List.set_cons_succ, Act.eval, Array.getD_eq_getD_getElem?, List.getElem?_toArray, List.getElem?_cons_succ, List.getElem?_cons_zero, Option.getD_some]
      refine wpAnyH_take (i := 19) rfl (by kernel_rfl) (by kernel_rfl) (by kernel_rfl) (fun _ _ _ h => h) (yi_move (by kernel_rfl) rfl rfl) (by assumption) ?_
      simp only [Act.put, List.getElem_toArray, List.getElem_cons_succ, List.getElem_cons_zero, List.setIfInBounds_toArray, List.set_cons_zero, List.set_cons_succ, Act.eval, Array.getD_eq_getD_getElem?, List.getElem?_toArray, List.getElem?_cons_succ, List.getElem?_cons_zero, Option.getD_some]
      refine wpAnyH_take (i := 20) (v := .agg (List.toArray LH)) rfl (by kernel_rfl) (by kernel_rfl) (by kernel_rfl) (fun _ _ _ h => h) (yieldsIf_load_mid (by kernel_rfl) _ (.tmp 7) (by kernel_rfl) w2.heap.size 0 (by kernel_rfl) LH _ (fun W hW => range_of (Bl.heap hW RH5.out)) undH rfl HIH.out) (by assumption) ?_
      simp only [Act.put, List.getElem_toArray, List.getElem_cons_succ, List.getElem_cons_zero, List.setIfInBounds_toArray, List.set_cons_zero, List.set_cons_succ, Act.eval, Array.getD_eq_getD_getElem?, List.getElem?_toArray, List.getElem?_cons_succ, List.getElem?_cons_zero, Option.getD_some]
      refine wpAnyH_take (i := 21) (v := .agg (List.toArray LK)) rfl (by kernel_rfl) (by kernel_rfl) (by kernel_rfl) (fun _ _ _ h => h) (yieldsIf_load_mid (by kernel_rfl) _ (.tmp 5) (by kernel_rfl) W.heap.size 0 (by kernel_rfl) LK _ (fun W hW => range_of (Bl.heap hW RK5.out)) undD rfl HIK.out) (by assumption) ?_
      simp only [Act.put, List.getElem_toArray, List.getElem_cons_succ, List.getElem_cons_zero, List.setIfInBounds_toArray, List.set_cons_zero, List.set_cons_succ, Act.eval, Array.getD_eq_getD_getElem?, List.getElem?_toArray, List.getElem?_cons_succ, List.getElem?_cons_zero, Option.getD_some]
      refine wpAnyH_take (i := 23) (v := .agg (List.toArray LH)) rfl (by kernel_rfl) (by kernel_rfl) (by kernel_rfl) (fun _ _ _ h => h) (yieldsIf_load_mid (by kernel_rfl) _ (.tmp 7) (by kernel_rfl) w2.heap.size 0 (by kernel_rfl) LH _ (fun W hW => range_of (Bl.heap hW RH5.out)) undH rfl HIH.out) (by assumption) ?_
      simp only [Act.put, List.getElem_toArray, List.getElem_cons_succ, List.getElem_cons_zero, List.setIfInBounds_toArray, List.set_cons_zero, List.set_cons_succ, Act.eval, Array.getD_eq_getD_getElem?, List.getElem?_toArray, List.getElem?_cons_succ, List.getElem?_cons_zero, Option.getD_some]
      refine wpAnyH_take (i := 24) (v := .agg (List.toArray LK)) rfl (by kernel_rfl) (by kernel_rfl) (by kernel_rfl) (fun _ _ _ h => h) (yieldsIf_load_mid (by kernel_rfl) _ (.tmp 5) (by kernel_rfl) W.heap.size 0 (by kernel_rfl) LK _ (fun W hW => range_of (Bl.heap hW RK5.out)) undD rfl HIK.out) (by assumption) ?_
      simp only [Act.put, List.getElem_toArray, List.getElem_cons_succ, List.getElem_cons_zero, List.setIfInBounds_toArray, List.set_cons_zero, List.set_cons_succ, Act.eval, Array.getD_eq_getD_getElem?, List.getElem?_toArray, List.getElem?_cons_succ, List.getElem?_cons_zero, Option.getD_some]
      refine wpAnyH_ready (rs := [22]) (by kernel_rfl) (by simp) ?_
      refine AllReadyH.cons (o := _) rfl (fun K hK => ?_) AllReadyH.nil
      go_simp
      go_at_call 15; refine (C1.out _).mono ?_; rintro e V25 ⟨rfl, hV25⟩; have HB25 := (HB17).step hV25; clear hV25
      (try clear hHeld)
      refine hK.out _ _ ((HB25).bl) (fun hHeld => ?_)
      clear hK K
      (try simp only [Act.put, List.getElem_toArray, List.getElem_cons_succ, List.getElem_cons_zero, List.setIfInBounds_toArray, List.set_cons_zero, List.set_cons_succ, Act.eval, Array.getD_eq_getD_getElem?, List.getElem?_toArray, List.getElem?_cons_succ, List.getElem?_cons_zero, Option.getD_some])
      refine wpAnyH_ready (rs := [25]) (by kernel_rfl) (by simp) ?_
      refine AllReadyH.cons (o := _) rfl (fun K hK => ?_) AllReadyH.nil
      go_simp
      go_at_call 16; refine (C2.out _).mono ?_; rintro e V26 ⟨rfl, hV26⟩; have HB26 := (HB25).step hV26; clear hV26
      (try clear hHeld)
      refine hK.out _ _ ((HB26).bl) (fun hHeld => ?_)
      clear hK K
      (try simp only [Act.put, List.getElem_toArray, List.getElem_cons_succ, List.getElem_cons_zero, List.setIfInBounds_toArray, List.set_cons_zero, List.set_cons_succ, Act.eval, Array.getD_eq_getD_getElem?, List.getElem?_toArray, List.getElem?_cons_succ, List.getElem?_cons_zero, Option.getD_some])
      refine wpAnyH_take (i := 26) (v := ?_) rfl (by kernel_rfl) (by kernel_rfl) (by kernel_rfl) (fun _ _ _ h => h) (Or.inl ⟨by kernel_rfl, ?_⟩) (by assumption) ?_
      rotate_left
      · (intro w hSw; (try dsimp only at hSw); go_simp; (try with_reducible rfl))
      simp only [Act.put, List.getElem_toArray, List.getElem_cons_succ, List.getElem_cons_zero, List.setIfInBounds_toArray, List.set_cons_zero, List.set_cons_succ, Act.eval, Array.getD_eq_getD_getElem?, List.getElem?_toArray, List.getElem?_cons_succ, List.getElem?_cons_zero, Option.getD_some]
      refine wpAnyH_take (i := 27) (v := ?_) rfl (by kernel_rfl) (by kernel_rfl) (by kernel_rfl) (fun _ _ _ h => h) (Or.inl ⟨by kernel_rfl, ?_⟩) (by assumption) ?_
      rotate_left
      · (intro w hSw; (try dsimp only at hSw); go_simp; (try with_reducible rfl))
      simp only [Act.put, List.getElem_toArray, List.getElem_cons_succ, List.getElem_cons_zero, List.setIfInBounds_toArray, List.set_cons_zero, List.set_cons_succ, Act.eval, Array.getD_eq_getD_getElem?, List.getElem?_toArray, List.getElem?_cons_succ, List.getElem?_cons_zero, Option.getD_some]
      refine wpAnyH_take (i := 28) rfl (by kernel_rfl) (by kernel_rfl) (by kernel_rfl) (fun _ _ _ h => h) (yi_move (by kernel_rfl) rfl rfl) (by assumption) ?_
      simp only [Act.put, List.getElem_toArray, List.getElem_cons_succ, List.getElem_cons_zero, List.setIfInBounds_toArray, List.set_cons_zero, List.set_cons_succ, Act.eval, Array.getD_eq_getD_getElem?, List.getElem?_toArray, List.getElem?_cons_succ, List.getElem?_cons_zero, Option.getD_some]
      refine wpAnyH_take (i := 29) (v := .agg (List.toArray LG)) rfl (by kernel_rfl) (by kernel_rfl) (by kernel_rfl) (fun _ _ _ h => h) (yieldsIf_load_mid (by kernel_rfl) _ (.tmp 8) (by kernel_rfl) w4.heap.size 0 (by kernel_rfl) LG _ (fun W hW => range_of (Bl.heap hW RG5.out)) undH rfl HIG.out) (by assumption) ?_
      simp only [Act.put, List.getElem_toArray, List.getElem_cons_succ, List.getElem_cons_zero, List.setIfInBounds_toArray, List.set_cons_zero, List.set_cons_succ, Act.eval, Array.getD_eq_getD_getElem?, List.getElem?_toArray, List.getElem?_cons_succ, List.getElem?_cons_zero, Option.getD_some]
      refine wpAnyH_take (i := 30) (v := .agg (List.toArray LK)) rfl (by kernel_rfl) (by kernel_rfl) (by kernel_rfl) (fun _ _ _ h => h) (yieldsIf_load_mid (by kernel_rfl) _ (.tmp 5) (by kernel_rfl) W.heap.size 0 (by kernel_rfl) LK _ (fun W hW => range_of (Bl.heap hW RK5.out)) undD rfl HIK.out) (by assumption) ?_
      simp only [Act.put, List.getElem_toArray, List.getElem_cons_succ, List.getElem_cons_zero, List.setIfInBounds_toArray, List.set_cons_zero, List.set_cons_succ, Act.eval, Array.getD_eq_getD_getElem?, List.getElem?_toArray, List.getElem?_cons_succ, List.getElem?_cons_zero, Option.getD_some]
      refine wpAnyH_take (i := 32) (v := .agg (List.toArray LG)) rfl (by kernel_rfl) (by kernel_rfl) (by kernel_rfl) (fun _ _ _ h => h) (yieldsIf_load_mid (by kernel_rfl) _ (.tmp 8) (by kernel_rfl) w4.heap.size 0 (by kernel_rfl) LG _ (fun W hW => range_of (Bl.heap hW RG5.out)) undH rfl HIG.out) (by assumption) ?_
      simp only [Act.put, List.getElem_toArray, List.getElem_cons_succ, List.getElem_cons_zero, List.setIfInBounds_toArray, List.set_cons_zero, List.set_cons_succ, Act.eval, Array.getD_eq_getD_getElem?, List.getElem?_toArray, List.getElem?_cons_succ, List.getElem?_cons_zero, Option.getD_some]
      refine wpAnyH_take (i := 33) (v := .agg (List.toArray LK)) rfl (by kernel_rfl) (by kernel_rfl) (by kernel_rfl) (fun _ _ _ h => h) (yieldsIf_load_mid (by kernel_rfl) _ (.tmp 5) (by kernel_rfl) W.heap.size 0 (by kernel_rfl) LK _ (fun W hW => range_of (Bl.heap hW RK5.out)) undD rfl HIK.out) (by assumption) ?_
      simp only [Act.put, List.getElem_toArray, List.getElem_cons_succ, List.getElem_cons_zero, List.setIfInBounds_toArray, List.set_cons_zero, List.set_cons_succ, Act.eval, Array.getD_eq_getD_getElem?, List.getElem?_toArray, List.getElem?_cons_succ, List.getElem?_cons_zero, Option.getD_some]
      refine wpAnyH_ready (rs := [31]) (by kernel_rfl) (by simp) ?_
      refine AllReadyH.cons (o := _) rfl (fun K hK => ?_) AllReadyH.nil
      go_simp
      go_at_call 15; refine (C3.out _).mono ?_; rintro e V34 ⟨rfl, hV34⟩; have HB34 := (HB26).step hV34; clear hV34
      (try clear hHeld)
      refine hK.out _ _ ((HB34).bl) (fun hHeld => ?_)
      clear hK K
      (try simp only [Act.put, List.getElem_toArray, List.getElem_cons_succ, List.getElem_cons_zero, List.setIfInBounds_toArray, List.set_cons_zero, List.set_cons_succ, Act.eval, Array.getD_eq_getD_getElem?, List.getElem?_toArray, List.getElem?_cons_succ, List.getElem?_cons_zero, Option.getD_some])
      refine wpAnyH_ready (rs := [34]) (by kernel_rfl) (by simp) ?_
      refine AllReadyH.cons (o := _) rfl (fun K hK => ?_) AllReadyH.nil
      go_simp
      go_at_call 16; refine (C4.out _).mono ?_; rintro e V35 ⟨rfl, hV35⟩; have HB35 := (HB34).step hV35; clear hV35
      (try clear hHeld)
      refine hK.out _ _ ((HB35).bl) (fun hHeld => ?_)
      clear hK K
      (try simp only [Act.put, List.getElem_toArray, List.getElem_cons_succ, List.getElem_cons_zero, List.setIfInBounds_toArray, List.set_cons_zero, List.set_cons_succ, Act.eval, Array.getD_eq_getD_getElem?, List.getElem?_toArray, List.getElem?_cons_succ, List.getElem?_cons_zero, Option.getD_some])
      refine wpAnyH_take (i := 35) (v := ?_) rfl (by kernel_rfl) (by kernel_rfl) (by kernel_rfl) (fun _ _ _ h => h) (Or.inl ⟨by kernel_rfl, ?_⟩) (by assumption) ?_
      rotate_left
      · (intro w hSw; (try dsimp only at hSw); go_simp; (try with_reducible rfl))
      simp only [Act.put, List.getElem_toArray, List.getElem_cons_succ, List.getElem_cons_zero, List.setIfInBounds_toArray, List.set_cons_zero, List.set_cons_succ, Act.eval, Array.getD_eq_getD_getElem?, List.getElem?_toArray, List.getElem?_cons_succ, List.getElem?_cons_zero, Option.getD_some]
      refine wpAnyH_take (i := 36) (v := ?_) rfl (by kernel_rfl) (by kernel_rfl) (by kernel_rfl) (fun _ _ _ h => h) (Or.inl ⟨by kernel_rfl, ?_⟩) (by assumption) ?_
      rotate_left
      · (intro w hSw; (try dsimp only at hSw); go_simp; (try with_reducible rfl))
      simp only [Act.put, List.getElem_toArray, List.getElem_cons_succ, List.getElem_cons_zero, List.setIfInBounds_toArray, List.set_cons_zero, List.set_cons_succ, Act.eval, Array.getD_eq_getD_getElem?, List.getElem?_toArray, List.getElem?_cons_succ, List.getElem?_cons_zero, Option.getD_some]
      refine wpAnyH_take (i := 37) rfl (by kernel_rfl) (by kernel_rfl) (by kernel_rfl) (fun _ _ _ h => h) (yi_move (by kernel_rfl) rfl rfl) (by assumption) ?_
      simp only [Act.put, List.getElem_toArray, List.getElem_cons_succ, List.getElem_cons_zero, List.setIfInBounds_toArray, List.set_cons_zero, List.set_cons_succ, Act.eval, Array.getD_eq_getD_getElem?, List.getElem?_toArray, List.getElem?_cons_succ, List.getElem?_cons_zero, Option.getD_some]
      refine wpAnyH_take (i := 38) (v := .agg (List.toArray LH)) rfl (by kernel_rfl) (by kernel_rfl) (by kernel_rfl) (fun _ _ _ h => h) (yieldsIf_load_mid (by kernel_rfl) _ (.tmp 7) (by kernel_rfl) w2.heap.size 0 (by kernel_rfl) LH _ (fun W hW => range_of (Bl.heap hW RH5.out)) undH rfl HIH.out) (by assumption) ?_
      simp only [Act.put, List.getElem_toArray, List.getElem_cons_succ, List.getElem_cons_zero, List.setIfInBounds_toArray, List.set_cons_zero, List.set_cons_succ, Act.eval, Array.getD_eq_getD_getElem?, List.getElem?_toArray, List.getElem?_cons_succ, List.getElem?_cons_zero, Option.getD_some]
      refine wpAnyH_take (i := 40) (v := .agg (List.toArray LH)) rfl (by kernel_rfl) (by kernel_rfl) (by kernel_rfl) (fun _ _ _ h => h) (yieldsIf_load_mid (by kernel_rfl) _ (.tmp 7) (by kernel_rfl) w2.heap.size 0 (by kernel_rfl) LH _ (fun W hW => range_of (Bl.heap hW RH5.out)) undH rfl HIH.out) (by assumption) ?_
      simp only [Act.put, List.getElem_toArray, List.getElem_cons_succ, List.getElem_cons_zero, List.setIfInBounds_toArray, List.set_cons_zero, List.set_cons_succ, Act.eval, Array.getD_eq_getD_getElem?, List.getElem?_toArray, List.getElem?_cons_succ, List.getElem?_cons_zero, Option.getD_some]
      refine wpAnyH_ready (rs := [39]) (by kernel_rfl) (by simp) ?_
      refine AllReadyH.cons (o := _) rfl (fun K hK => ?_) AllReadyH.nil
      go_simp
      go_at_call 17; refine (C5.out _).mono ?_; rintro e V41 ⟨rfl, hV41⟩; have HB41 := (HB35).step hV41; clear hV41
      (try clear hHeld)
      refine hK.out _ _ ((HB41).bl) (fun hHeld => ?_)
      clear hK K
      (try simp only [Act.put, List.getElem_toArray, List.getElem_cons_succ, List.getElem_cons_zero, List.setIfInBounds_toArray, List.set_cons_zero, List.set_cons_succ, Act.eval, Array.getD_eq_getD_getElem?, List.getElem?_toArray, List.getElem?_cons_succ, List.getElem?_cons_zero, Option.getD_some])
      refine wpAnyH_ready (rs := [41]) (by kernel_rfl) (by simp) ?_
      refine AllReadyH.cons (o := _) rfl (fun K hK => ?_) AllReadyH.nil
      go_simp
      go_at_call 18; refine (C6.out _).mono ?_; rintro e V42 ⟨rfl, hV42⟩; have HB42 := (HB41).step hV42; clear hV42
      (try clear hHeld)
      refine hK.out _ _ ((HB42).bl) (fun hHeld => ?_)
      clear hK K
      (try simp only [Act.put, List.getElem_toArray, List.getElem_cons_succ, List.getElem_cons_zero, List.setIfInBounds_toArray, List.set_cons_zero, List.set_cons_succ, Act.eval, Array.getD_eq_getD_getElem?, List.getElem?_toArray, List.getElem?_cons_succ, List.getElem?_cons_zero, Option.getD_some])
      refine wpAnyH_take (i := 42) (v := ?_) rfl (by kernel_rfl) (by kernel_rfl) (by kernel_rfl) (fun _ _ _ h => h) (Or.inl ⟨by kernel_rfl, ?_⟩) (by assumption) ?_
      rotate_left
      · (intro w hSw; (try dsimp only at hSw); go_simp; (try with_reducible rfl))
      simp only [Act.put, List.getElem_toArray, List.getElem_cons_succ, List.getElem_cons_zero, List.setIfInBounds_toArray, List.set_cons_zero, List.set_cons_succ, Act.eval, Array.getD_eq_getD_getElem?, List.getElem?_toArray, List.getElem?_cons_succ, List.getElem?_cons_zero, Option.getD_some]
      refine wpAnyH_take (i := 43) (v := ?_) rfl (by kernel_rfl) (by kernel_rfl) (by kernel_rfl) (fun _ _ _ h => h) (Or.inl ⟨by kernel_rfl, ?_⟩) (by assumption) ?_
      rotate_left
      · (intro w hSw; (try dsimp only at hSw); go_simp; (try with_reducible rfl))
      simp only [Act.put, List.getElem_toArray, List.getElem_cons_succ, List.getElem_cons_zero, List.setIfInBounds_toArray, List.set_cons_zero, List.set_cons_succ, Act.eval, Array.getD_eq_getD_getElem?, List.getElem?_toArray, List.getElem?_cons_succ, List.getElem?_cons_zero, Option.getD_some]
      refine wpAnyH_take (i := 44) rfl (by kernel_rfl) (by kernel_rfl) (by kernel_rfl) (fun _ _ _ h => h) (yi_assign (by kernel_rfl) rfl rfl) (by assumption) ?_
      simp only [Act.put, List.getElem_toArray, List.getElem_cons_succ, List.getElem_cons_zero, List.setIfInBounds_toArray, List.set_cons_zero, List.set_cons_succ, Act.eval, Array.getD_eq_getD_getElem?, List.getElem?_toArray, List.getElem?_cons_succ, List.getElem?_cons_zero, Option.getD_some]
      refine wpAnyH_done (by kernel_rfl) ?_ _
      refine NoPanic.normal ?_
      go_wp2_with fail
      go_ret
      exact ⟨rfl, HB5.out.step (HB42).bl⟩
    · go_enter Try.func3, Try.ntmps3
      go_wp2_with (first
        | go_big_skip
        | (go_at_call 9; refine (C0.out _).mono ?_; clear C0; rintro e w1 ⟨rfl, hb1⟩; have HB1 : Hid (Bl W w1) := HB0.out.step hb1; clear hb1))
      go_ret
      exact ⟨rfl, HB1.out⟩
  · go_enter Try.func3, Try.ntmps3
    go_wp2_with (first
      | go_big_skip
      | (go_at_call 9; refine (C0.out _).mono ?_; clear C0; rintro e w1 ⟨rfl, hb1⟩; have HB1 : Hid (Bl W w1) := HB0.out.step hb1; clear hb1))
    go_ret
    exact ⟨rfl, HB1.out⟩
end Go.Proofs.Ytokicaacllaijaa
