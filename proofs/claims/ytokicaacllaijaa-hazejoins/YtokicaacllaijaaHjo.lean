/- HazeJoins' walk. -/
import Derived.Test.YtokicaacllaijaaHzS
namespace Go.Proofs.Ytokicaacllaijaa
open Go.RowKit
set_option linter.unusedVariables false
set_option linter.unusedSimpArgs false
attribute [local go_sem ↓] zeroH zeroD

set_option maxRecDepth 8000 in
set_option maxHeartbeats 4000000 in
theorem hazeJoins_walk (a b : HZ.H) (l : List HZ.D) (sl : Option Addr) (c : Nat) (W : World) (hv : RS lyD W sl l) (hn : l.length ≤ maxLen) (ht : ∀ t ∈ l, True) : Calls Try.prog 8 #[.agg (hC a).toArray, .agg (hC b).toArray, .slice sl l.length c] W fun e w' => e = .returned (.bool true) ∧ Bl W w' := by
  unfold maxLen at hn
  clear ht
  have C0 : Hid (∀ U, Calls Try.prog 9 #[] U fun e w' => e = .returned (.bool true) ∧ Bl U w') := awake_14
  have HV : Hid (RS lyD W sl l) := hv
  have CO : Hid (∀ U, Bl W U → Calls Try.prog 14 #[.slice sl l.length c] U fun e w' => e = .returned (.agg (hC (HZ.zero.wi l)).toArray) ∧ Bl U w') := fun U hU => Of_x l sl c (by unfold maxLen; omega) U (HV.out.bl hU)
  have CWW : Hid (∀ U, Bl W U → Calls Try.prog 11 #[.agg (hC (HZ.jo [a, b])).toArray, .slice sl l.length c] U fun e w' => e = .returned (.agg (hC (HZ.jo [a, HZ.jo [b, HZ.zero.wi l]])).toArray) ∧ Bl U w') := fun U hU => by
    have := With_x (HZ.jo [a, b]) l sl c (by unfold maxLen; omega) U (HV.out.bl hU)
    rw [HZ.joins_2] at this; exact this
  obtain ⟨le1, le2, le3⟩ := HZ.joins_le a b (HZ.zero.wi l)
  have hc1 : a.ct ≤ (HZ.jo [a, HZ.jo [b, HZ.zero.wi l]]).ct := HZ.ct_mono le1
  have hc2 : b.ct ≤ (HZ.jo [a, HZ.jo [b, HZ.zero.wi l]]).ct := HZ.ct_mono le2
  have HK1 : Hid (∀ k, k ∈ l → (HZ.jo [a, HZ.jo [b, HZ.zero.wi l]]).hs k = true) := fun k hk => HZ.hs_le le3 (HZ.wi_has hk)
  have HK2 : Hid (∀ k : HZ.D, a.hs k = true → (HZ.jo [b, a]).hs k = true) := fun k hk => HZ.hs_le (HZ.jo_le (by simp)) hk
  clear le1 le2 le3 hv
  obtain ⟨LBC, HLBC⟩ : ∃ X, Hid ([hC b, hC (HZ.zero.wi l)].flatten = X) := ⟨_, rfl⟩
  have CJ1 := join_c [b, HZ.zero.wi l] 2 rfl (by simp) _ rfl LBC HLBC.out
  obtain ⟨LAJ, HLAJ⟩ : ∃ X, Hid ([hC a, hC (HZ.jo [b, HZ.zero.wi l])].flatten = X) := ⟨_, rfl⟩
  have CJ2 := join_c [a, HZ.jo [b, HZ.zero.wi l]] 2 rfl (by simp) _ rfl LAJ HLAJ.out
  obtain ⟨LCA, HLCA⟩ : ∃ X, Hid ([hC (HZ.zero.wi l), hC a].flatten = X) := ⟨_, rfl⟩
  have CJ3 := join_c [HZ.zero.wi l, a] 2 rfl (by simp) _ rfl LCA HLCA.out
  obtain ⟨LPB, HLPB⟩ : ∃ X, Hid ([hC (HZ.jo [HZ.zero.wi l, a]), hC b, hC b].flatten = X) := ⟨_, rfl⟩
  have CJ4 := join_c [HZ.jo [HZ.zero.wi l, a], b, b] 3 rfl (by simp) _ (HZ.joins_1 a b _) LPB HLPB.out
  obtain ⟨LAB, HLAB⟩ : ∃ X, Hid ([hC a, hC b].flatten = X) := ⟨_, rfl⟩
  have CJ5 := join_c [a, b] 2 rfl (by simp) _ rfl LAB HLAB.out
  obtain ⟨LBA, HLBA⟩ : ∃ X, Hid ([hC b, hC a].flatten = X) := ⟨_, rfl⟩
  have CJ8 := join_c [b, a] 2 rfl (by simp) _ rfl LBA HLBA.out
  have CJ7 := join_c [a] 1 rfl (by simp) a (HZ.jo_one a) (hC a) (by simp)
  generalize HZ.zero.wi l = cc at *
  generalize HZ.jo [cc, a] = P at *
  generalize HZ.jo [b, cc] = J at *
  generalize HZ.jo [a, J] = X at *
  generalize HZ.jo [a, b] = M at *
  generalize HZ.jo [b, a] = N at *
  obtain ⟨LXX, HLXX⟩ : ∃ Z, Hid ([hC X, hC X].flatten = Z) := ⟨_, rfl⟩
  have CJ6 := join_c [X, X] 2 rfl (by simp) X (HZ.jo_same X) LXX HLXX.out
  have heq : ∀ U, (Op.equalIn 10000 tH (.agg (hC X).toArray) (.agg (hC X).toArray)).run Try.prog U = .ok true U := fun U => by rw [eqH, HZ.eqB_self]
  have heqA : ∀ U, (Op.equalIn 10000 tH (.agg (hC a).toArray) (.agg (hC a).toArray)).run Try.prog U = .ok true U := fun U => by rw [eqH, HZ.eqB_self]
  have CN1 : Hid (∀ U, Calls Try.prog 17 #[.agg (hC X).toArray] U fun e w' => e = .returned (.int .i64 (X.ct : Int)) ∧ Bl U w') := Count_x X
  have CN2 : Hid (∀ U, Calls Try.prog 17 #[.agg (hC a).toArray] U fun e w' => e = .returned (.int .i64 (a.ct : Int)) ∧ Bl U w') := Count_x a
  have CN3 : Hid (∀ U, Calls Try.prog 17 #[.agg (hC b).toArray] U fun e w' => e = .returned (.int .i64 (b.ct : Int)) ∧ Bl U w') := Count_x b
  obtain ⟨nx, ex⟩ : ∃ n : Nat, X.ct = n := ⟨_, rfl⟩
  obtain ⟨na, ea⟩ : ∃ n : Nat, a.ct = n := ⟨_, rfl⟩
  obtain ⟨nb, eb⟩ : ∃ n : Nat, b.ct = n := ⟨_, rfl⟩
  rw [ex] at CN1 hc1 hc2
  rw [ea] at CN2 hc1
  rw [eb] at CN3 hc2
  have k1 : (na : Int) ≤ (nx : Int) := by omega
  have k2 : (nb : Int) ≤ (nx : Int) := by omega
  have k1' : (nx : Int) ≥ (na : Int) := by omega
  have k2' : (nx : Int) ≥ (nb : Int) := by omega
  clear hc1 hc2 ex ea eb
  have CH1 : Hid (∀ (k : HZ.D) U, Calls Try.prog 15 #[.agg (hC X).toArray, .agg (dC k).toArray] U fun e w' => e = .returned (.bool (X.hs k)) ∧ Bl U w') := fun k U => Has_x X k U
  have CH2 : Hid (∀ (k : HZ.D) U, Calls Try.prog 15 #[.agg (hC a).toArray, .agg (dC k).toArray] U fun e w' => e = .returned (.bool (a.hs k)) ∧ Bl U w') := fun k U => Has_x a k U
  have CH3 : Hid (∀ (k : HZ.D) U, Calls Try.prog 15 #[.agg (hC N).toArray, .agg (dC k).toArray] U fun e w' => e = .returned (.bool (N.hs k)) ∧ Bl U w') := fun k U => Has_x N k U
  have HLAi : Hid ((Try.prog.info? tH).map (·.size) = some (hC a).length) := infoH' a
  have HLBi : Hid ((Try.prog.info? tH).map (·.size) = some (hC b).length) := infoH' b
  have HLCi : Hid ((Try.prog.info? tH).map (·.size) = some (hC cc).length) := infoH' cc
  have HLXi : Hid ((Try.prog.info? tH).map (·.size) = some (hC X).length) := infoH' X
  have HLAl : Hid ((hC a).length = 64) := hC_len a
  have HLBl : Hid ((hC b).length = 64) := hC_len b
  have HLCl : Hid ((hC cc).length = 64) := hC_len cc
  have HLXl : Hid ((hC X).length = 64) := hC_len X
  have HLJl : Hid ((hC J).length = 64) := hC_len J
  have HLPl : Hid ((hC P).length = 64) := hC_len P
  have HLCo : Hid (∀ u ∈ hC cc, u.oneCell' = true) := hC_one cc
  have HLXo : Hid (∀ u ∈ hC X, u.oneCell' = true) := hC_one X
  have HLA : Hid ([hC a].flatten = hC a) := by show _ = _; simp
  have HB0 : Hid (Bl W ((W.alloc (.cells (hC a).toArray tH)).alloc (.cells (hC b).toArray tH))) := ((Bl.refl W).alloc _).alloc _
  have RA0 : Hid (((W.alloc (.cells (hC a).toArray tH)).alloc (.cells (hC b).toArray tH)).heap[W.heap.size]? = some (.cells (hC a).toArray tH (0, 0))) := by
    show _ = _
    rw [Below.heap_alloc _ _ _ (by simp)]; exact heap_alloc_new W _
  have RB0 : Hid (((W.alloc (.cells (hC a).toArray tH)).alloc (.cells (hC b).toArray tH)).heap[W.heap.size + 1]? = some (.cells (hC b).toArray tH (0, 0))) := by
    show _ = _
    simpa using heap_alloc_new (W.alloc (.cells (hC a).toArray tH)) (.cells (hC b).toArray tH)
  have AX : Hid (∀ k, a.hs k = true → N.hs k = true) := HK2.out
  clear HK2
  generalize hC a = LA at *
  generalize hC b = LB at *
  generalize hC cc = LC at *
  generalize hC J = LJ at *
  generalize hC P = LP at *
  generalize hC X = LX at *
  generalize hC M = LM at *
  generalize hC N = LN at *
  by_cases hlen : l.length ≤ 60
  · go_enter Try.func8, Try.ntmps8
    go_upto_region 6 with (first
      | go_big_skip
      | (go_at_call 9; refine (C0.out _).mono ?_; clear C0; rintro e w1 ⟨rfl, hb1⟩; have HB1 : Hid (Bl W w1) := HB0.out.step hb1; have RA1 := hidI (hb1.heap RA0.out); have RB1 := hidI (hb1.heap RB0.out); clear hb1 HB0 RA0 RB0)
      | (go_at_call 14; refine (CO.out _ HB1.out).mono ?_; clear CO; rintro e w2 ⟨rfl, hb2⟩; have HB2 : Hid (Bl W w2) := HB1.out.step hb2; have RA2 := hidI (hb2.heap RA1.out); have RB2 := hidI (hb2.heap RB1.out); clear hb2 HB1 RA1 RB1)
      | (refine wl_rowU rfl tH _ _ rfl w2.heap.size LC rfl rfl tH zH (heap_alloc_new w2 _) 64 infoH HLCl.out zH_size HLCo.out ?_; intro U1 hU1 hO1 hs1; have hb1 : Bl w2 U1 := hO1.bl ((Bl.refl w2).alloc _) (Nat.le_refl _); have HB3 : Hid (Bl W U1) := HB2.out.step hb1; have RA3 := hidI (hb1.heap RA2.out); have RB3 := hidI (hb1.heap RB2.out); have RC3 := hidI hU1; clear hU1 hO1 hs1 hb1 HB2 RA2 RB2))
    (try simp only [Act.put, List.setIfInBounds_toArray, List.set_cons_zero, List.set_cons_succ])
    go_cut [8] (fun s8 wx => ∃ g, s8 = .pointer (some ⟨g, 0, none⟩) ∧ HF U1 wx [(g, .cells LX.toArray tH)])
    case first =>
      refine wp_region_noPanic ?_
      refine wp_region_held_drew (S := fun U => Bl U1 U) (by kernel_rfl) ((((HF.start U1).drew)).bl) (fun hHeld => ?_)
      refine wpAnyH_take (i := 0) (v := .agg (List.toArray LA)) rfl (by kernel_rfl) (by kernel_rfl) (by kernel_rfl) (fun _ _ _ h => h) (yieldsIf_load_mid (by kernel_rfl) _ (.tmp 3) (by kernel_rfl) W.heap.size 0 (by kernel_rfl) LA _ (fun W hW => range_of (Bl.heap hW RA3.out)) undH rfl HLAi.out) (by assumption) ?_
      simp only [Act.put, List.getElem_toArray, List.getElem_cons_succ, List.getElem_cons_zero, List.setIfInBounds_toArray, List.set_cons_zero, List.set_cons_succ, Act.eval, Array.getD_eq_getD_getElem?, List.getElem?_toArray, List.getElem?_cons_succ, List.getElem?_cons_zero, Option.getD_some]
      refine wpAnyH_take (i := 1) (v := .agg (List.toArray LB)) rfl (by kernel_rfl) (by kernel_rfl) (by kernel_rfl) (fun _ _ _ h => h) (yieldsIf_load_mid (by kernel_rfl) _ (.tmp 4) (by kernel_rfl) (W.heap.size + 1) 0 (by kernel_rfl) LB _ (fun W hW => range_of (Bl.heap hW RB3.out)) undH rfl HLBi.out) (by assumption) ?_
      simp only [Act.put, List.getElem_toArray, List.getElem_cons_succ, List.getElem_cons_zero, List.setIfInBounds_toArray, List.set_cons_zero, List.set_cons_succ, Act.eval, Array.getD_eq_getD_getElem?, List.getElem?_toArray, List.getElem?_cons_succ, List.getElem?_cons_zero, Option.getD_some]
      refine wpAnyH_take (i := 2) (v := .agg (List.toArray LC)) rfl (by kernel_rfl) (by kernel_rfl) (by kernel_rfl) (fun _ _ _ h => h) (yieldsIf_load_mid (by kernel_rfl) _ (.tmp 7) (by kernel_rfl) w2.heap.size 0 (by kernel_rfl) LC _ (fun W hW => range_of (Bl.heap hW RC3.out)) undH rfl HLCi.out) (by assumption) ?_
      simp only [Act.put, List.getElem_toArray, List.getElem_cons_succ, List.getElem_cons_zero, List.setIfInBounds_toArray, List.set_cons_zero, List.set_cons_succ, Act.eval, Array.getD_eq_getD_getElem?, List.getElem?_toArray, List.getElem?_cons_succ, List.getElem?_cons_zero, Option.getD_some]
      refine wpAnyH_ready (rs := [3, 7]) (by kernel_rfl) (by simp) ?_
      refine AllReadyH.cons (o := _) rfl (fun K hK => ?_) ?_
      · refine so_bs (by kernel_rfl) 22 tH 2 _ rfl [LB, LC] (by simp only [List.map_toArray, List.map_cons, List.map_nil]; rfl) rfl 64 (len2 HLBl HLCl) LBC HLBC.out 64 (.agg zH) undHs infoH3 (by omega) (by omega) (by omega) (by omega) (hK.out _ _ ((((((HF.start U1).drew)).al (.cells LBC.toArray tH))).bl) (fun hHeld => ?_))
        clear hK K
        (try simp only [Act.put, List.getElem_toArray, List.getElem_cons_succ, List.getElem_cons_zero, List.setIfInBounds_toArray, List.set_cons_zero, List.set_cons_succ, Act.eval, Array.getD_eq_getD_getElem?, List.getElem?_toArray, List.getElem?_cons_succ, List.getElem?_cons_zero, Option.getD_some])
        refine wpAnyH_ready (rs := [4, 7]) (by kernel_rfl) (by simp) ?_
        refine AllReadyH.cons (o := _) rfl (fun K hK => ?_) ?_
        · go_simp
          go_at_call 10; refine (CJ1.out _ _ ((((((HF.start U1).drew)).al (.cells LBC.toArray tH))).get (by simp))).mono ?_; rintro e V5 ⟨rfl, hV5⟩; have HB5 := (((((HF.start U1).drew)).al (.cells LBC.toArray tH))).step hV5; clear hV5
          (try clear hHeld)
          refine hK.out _ _ ((HB5).bl) (fun hHeld => ?_)
          clear hK K
          (try simp only [Act.put, List.getElem_toArray, List.getElem_cons_succ, List.getElem_cons_zero, List.setIfInBounds_toArray, List.set_cons_zero, List.set_cons_succ, Act.eval, Array.getD_eq_getD_getElem?, List.getElem?_toArray, List.getElem?_cons_succ, List.getElem?_cons_zero, Option.getD_some])
          refine wpAnyH_ready (rs := [5, 7]) (by kernel_rfl) (by simp) ?_
          refine AllReadyH.cons (o := _) rfl (fun K hK => ?_) ?_
          · refine so_bs (by kernel_rfl) 22 tH 2 _ rfl [LA, LJ] (by simp only [List.map_toArray, List.map_cons, List.map_nil]; rfl) rfl 64 (len2 HLAl HLJl) LAJ HLAJ.out 64 (.agg zH) undHs infoH3 (by omega) (by omega) (by omega) (by omega) (hK.out _ _ ((((HB5).al (.cells LAJ.toArray tH))).bl) (fun hHeld => ?_))
            clear hK K
            (try simp only [Act.put, List.getElem_toArray, List.getElem_cons_succ, List.getElem_cons_zero, List.setIfInBounds_toArray, List.set_cons_zero, List.set_cons_succ, Act.eval, Array.getD_eq_getD_getElem?, List.getElem?_toArray, List.getElem?_cons_succ, List.getElem?_cons_zero, Option.getD_some])
            refine wpAnyH_ready (rs := [6, 7]) (by kernel_rfl) (by simp) ?_
            refine AllReadyH.cons (o := _) rfl (fun K hK => ?_) ?_
            · go_simp
              go_at_call 10; refine (CJ2.out _ _ ((((HB5).al (.cells LAJ.toArray tH))).get (by simp))).mono ?_; rintro e V7 ⟨rfl, hV7⟩; have HB7 := (((HB5).al (.cells LAJ.toArray tH))).step hV7; clear hV7
              (try clear hHeld)
              refine hK.out _ _ ((HB7).bl) (fun hHeld => ?_)
              clear hK K
              (try simp only [Act.put, List.getElem_toArray, List.getElem_cons_succ, List.getElem_cons_zero, List.setIfInBounds_toArray, List.set_cons_zero, List.set_cons_succ, Act.eval, Array.getD_eq_getD_getElem?, List.getElem?_toArray, List.getElem?_cons_succ, List.getElem?_cons_zero, Option.getD_some])
              refine wpAnyH_ready (rs := [7]) (by kernel_rfl) (by simp) ?_
              refine AllReadyH.cons (o := _) rfl (fun K hK => ?_) AllReadyH.nil
              go_simp
              (try clear hHeld)
              refine hK.out _ _ ((((HB7).al _)).bl) (fun hHeld => ?_)
              clear hK K
              (try simp only [Act.put, List.getElem_toArray, List.getElem_cons_succ, List.getElem_cons_zero, List.setIfInBounds_toArray, List.set_cons_zero, List.set_cons_succ, Act.eval, Array.getD_eq_getD_getElem?, List.getElem?_toArray, List.getElem?_cons_succ, List.getElem?_cons_zero, Option.getD_some])
              refine wpAnyH_ready (rs := [8]) (by kernel_rfl) (by simp) ?_
              refine AllReadyH.cons (o := _) rfl (fun K hK => ?_) AllReadyH.nil
              refine so_rowU (by kernel_rfl) tH _ _ rfl _ LX rfl rfl tH zH ((((HB7).al _)).get (by simp)) 64 infoH HLXl.out zH_size HLXo.out (fun U9 hU9 hO9 => ?_)
              have HB9 := (((HB7).al _)).st (o := .cells zH tH (0, 0)) (by simp) hO9 hU9
              refine hK.out _ _ ((HB9).bl) (fun hHeld => ?_)
              clear hK K
              (try simp only [Act.put, List.getElem_toArray, List.getElem_cons_succ, List.getElem_cons_zero, List.setIfInBounds_toArray, List.set_cons_zero, List.set_cons_succ, Act.eval, Array.getD_eq_getD_getElem?, List.getElem?_toArray, List.getElem?_cons_succ, List.getElem?_cons_zero, Option.getD_some])
              refine wpAnyH_done (by kernel_rfl) ?_ _
              refine NoPanic.normal ?_
              go_wp2_with fail
              go_meet
              exact ⟨_, rfl, HB9⟩
            refine AllReadyH.cons (o := _) rfl (fun K hK => ?_) ?_
            · go_simp
              (try clear hHeld)
              refine hK.out _ _ ((((((HB5).al (.cells LAJ.toArray tH))).al _)).bl) (fun hHeld => ?_)
              clear hK K
              (try simp only [Act.put, List.getElem_toArray, List.getElem_cons_succ, List.getElem_cons_zero, List.setIfInBounds_toArray, List.set_cons_zero, List.set_cons_succ, Act.eval, Array.getD_eq_getD_getElem?, List.getElem?_toArray, List.getElem?_cons_succ, List.getElem?_cons_zero, Option.getD_some])
              refine wpAnyH_ready (rs := [6]) (by kernel_rfl) (by simp) ?_
              refine AllReadyH.cons (o := _) rfl (fun K hK => ?_) AllReadyH.nil
              go_simp
              go_at_call 10; refine (CJ2.out _ _ ((((((HB5).al (.cells LAJ.toArray tH))).al _)).get (by simp))).mono ?_; rintro e V10 ⟨rfl, hV10⟩; have HB10 := (((((HB5).al (.cells LAJ.toArray tH))).al _)).step hV10; clear hV10
              (try clear hHeld)
              refine hK.out _ _ ((HB10).bl) (fun hHeld => ?_)
              clear hK K
              (try simp only [Act.put, List.getElem_toArray, List.getElem_cons_succ, List.getElem_cons_zero, List.setIfInBounds_toArray, List.set_cons_zero, List.set_cons_succ, Act.eval, Array.getD_eq_getD_getElem?, List.getElem?_toArray, List.getElem?_cons_succ, List.getElem?_cons_zero, Option.getD_some])
              refine wpAnyH_ready (rs := [8]) (by kernel_rfl) (by simp) ?_
              refine AllReadyH.cons (o := _) rfl (fun K hK => ?_) AllReadyH.nil
              refine so_rowU (by kernel_rfl) tH _ _ rfl _ LX rfl rfl tH zH ((HB10).get (by simp)) 64 infoH HLXl.out zH_size HLXo.out (fun U11 hU11 hO11 => ?_)
              have HB11 := (HB10).st (o := .cells zH tH (0, 0)) (by simp) hO11 hU11
              refine hK.out _ _ ((HB11).bl) (fun hHeld => ?_)
              clear hK K
              (try simp only [Act.put, List.getElem_toArray, List.getElem_cons_succ, List.getElem_cons_zero, List.setIfInBounds_toArray, List.set_cons_zero, List.set_cons_succ, Act.eval, Array.getD_eq_getD_getElem?, List.getElem?_toArray, List.getElem?_cons_succ, List.getElem?_cons_zero, Option.getD_some])
              refine wpAnyH_done (by kernel_rfl) ?_ _
              refine NoPanic.normal ?_
              go_wp2_with fail
              go_meet
              exact ⟨_, rfl, HB11⟩
            exact AllReadyH.nil
          refine AllReadyH.cons (o := _) rfl (fun K hK => ?_) ?_
          · go_simp
            (try clear hHeld)
            refine hK.out _ _ ((((HB5).al _)).bl) (fun hHeld => ?_)
            clear hK K
            (try simp only [Act.put, List.getElem_toArray, List.getElem_cons_succ, List.getElem_cons_zero, List.setIfInBounds_toArray, List.set_cons_zero, List.set_cons_succ, Act.eval, Array.getD_eq_getD_getElem?, List.getElem?_toArray, List.getElem?_cons_succ, List.getElem?_cons_zero, Option.getD_some])
            refine wpAnyH_ready (rs := [5]) (by kernel_rfl) (by simp) ?_
            refine AllReadyH.cons (o := _) rfl (fun K hK => ?_) AllReadyH.nil
            refine so_bs (by kernel_rfl) 22 tH 2 _ rfl [LA, LJ] (by simp only [List.map_toArray, List.map_cons, List.map_nil]; rfl) rfl 64 (len2 HLAl HLJl) LAJ HLAJ.out 64 (.agg zH) undHs infoH3 (by omega) (by omega) (by omega) (by omega) (hK.out _ _ ((((((HB5).al _)).al (.cells LAJ.toArray tH))).bl) (fun hHeld => ?_))
            clear hK K
            (try simp only [Act.put, List.getElem_toArray, List.getElem_cons_succ, List.getElem_cons_zero, List.setIfInBounds_toArray, List.set_cons_zero, List.set_cons_succ, Act.eval, Array.getD_eq_getD_getElem?, List.getElem?_toArray, List.getElem?_cons_succ, List.getElem?_cons_zero, Option.getD_some])
            refine wpAnyH_ready (rs := [6]) (by kernel_rfl) (by simp) ?_
            refine AllReadyH.cons (o := _) rfl (fun K hK => ?_) AllReadyH.nil
            go_simp
            go_at_call 10; refine (CJ2.out _ _ ((((((HB5).al _)).al (.cells LAJ.toArray tH))).get (by simp))).mono ?_; rintro e V13 ⟨rfl, hV13⟩; have HB13 := (((((HB5).al _)).al (.cells LAJ.toArray tH))).step hV13; clear hV13
            (try clear hHeld)
            refine hK.out _ _ ((HB13).bl) (fun hHeld => ?_)
            clear hK K
            (try simp only [Act.put, List.getElem_toArray, List.getElem_cons_succ, List.getElem_cons_zero, List.setIfInBounds_toArray, List.set_cons_zero, List.set_cons_succ, Act.eval, Array.getD_eq_getD_getElem?, List.getElem?_toArray, List.getElem?_cons_succ, List.getElem?_cons_zero, Option.getD_some])
            refine wpAnyH_ready (rs := [8]) (by kernel_rfl) (by simp) ?_
            refine AllReadyH.cons (o := _) rfl (fun K hK => ?_) AllReadyH.nil
            refine so_rowU (by kernel_rfl) tH _ _ rfl _ LX rfl rfl tH zH ((HB13).get (by simp)) 64 infoH HLXl.out zH_size HLXo.out (fun U14 hU14 hO14 => ?_)
            have HB14 := (HB13).st (o := .cells zH tH (0, 0)) (by simp) hO14 hU14
            refine hK.out _ _ ((HB14).bl) (fun hHeld => ?_)
            clear hK K
            (try simp only [Act.put, List.getElem_toArray, List.getElem_cons_succ, List.getElem_cons_zero, List.setIfInBounds_toArray, List.set_cons_zero, List.set_cons_succ, Act.eval, Array.getD_eq_getD_getElem?, List.getElem?_toArray, List.getElem?_cons_succ, List.getElem?_cons_zero, Option.getD_some])
            refine wpAnyH_done (by kernel_rfl) ?_ _
            refine NoPanic.normal ?_
            go_wp2_with fail
            go_meet
            exact ⟨_, rfl, HB14⟩
          exact AllReadyH.nil
        refine AllReadyH.cons (o := _) rfl (fun K hK => ?_) ?_
        · go_simp
          (try clear hHeld)
          refine hK.out _ _ ((((((((HF.start U1).drew)).al (.cells LBC.toArray tH))).al _)).bl) (fun hHeld => ?_)
          clear hK K
          (try simp only [Act.put, List.getElem_toArray, List.getElem_cons_succ, List.getElem_cons_zero, List.setIfInBounds_toArray, List.set_cons_zero, List.set_cons_succ, Act.eval, Array.getD_eq_getD_getElem?, List.getElem?_toArray, List.getElem?_cons_succ, List.getElem?_cons_zero, Option.getD_some])
          refine wpAnyH_ready (rs := [4]) (by kernel_rfl) (by simp) ?_
          refine AllReadyH.cons (o := _) rfl (fun K hK => ?_) AllReadyH.nil
          go_simp
          go_at_call 10; refine (CJ1.out _ _ ((((((((HF.start U1).drew)).al (.cells LBC.toArray tH))).al _)).get (by simp))).mono ?_; rintro e V15 ⟨rfl, hV15⟩; have HB15 := (((((((HF.start U1).drew)).al (.cells LBC.toArray tH))).al _)).step hV15; clear hV15
          (try clear hHeld)
          refine hK.out _ _ ((HB15).bl) (fun hHeld => ?_)
          clear hK K
          (try simp only [Act.put, List.getElem_toArray, List.getElem_cons_succ, List.getElem_cons_zero, List.setIfInBounds_toArray, List.set_cons_zero, List.set_cons_succ, Act.eval, Array.getD_eq_getD_getElem?, List.getElem?_toArray, List.getElem?_cons_succ, List.getElem?_cons_zero, Option.getD_some])
          refine wpAnyH_ready (rs := [5]) (by kernel_rfl) (by simp) ?_
          refine AllReadyH.cons (o := _) rfl (fun K hK => ?_) AllReadyH.nil
          refine so_bs (by kernel_rfl) 22 tH 2 _ rfl [LA, LJ] (by simp only [List.map_toArray, List.map_cons, List.map_nil]; rfl) rfl 64 (len2 HLAl HLJl) LAJ HLAJ.out 64 (.agg zH) undHs infoH3 (by omega) (by omega) (by omega) (by omega) (hK.out _ _ ((((HB15).al (.cells LAJ.toArray tH))).bl) (fun hHeld => ?_))
          clear hK K
          (try simp only [Act.put, List.getElem_toArray, List.getElem_cons_succ, List.getElem_cons_zero, List.setIfInBounds_toArray, List.set_cons_zero, List.set_cons_succ, Act.eval, Array.getD_eq_getD_getElem?, List.getElem?_toArray, List.getElem?_cons_succ, List.getElem?_cons_zero, Option.getD_some])
          refine wpAnyH_ready (rs := [6]) (by kernel_rfl) (by simp) ?_
          refine AllReadyH.cons (o := _) rfl (fun K hK => ?_) AllReadyH.nil
          go_simp
          go_at_call 10; refine (CJ2.out _ _ ((((HB15).al (.cells LAJ.toArray tH))).get (by simp))).mono ?_; rintro e V17 ⟨rfl, hV17⟩; have HB17 := (((HB15).al (.cells LAJ.toArray tH))).step hV17; clear hV17
          (try clear hHeld)
          refine hK.out _ _ ((HB17).bl) (fun hHeld => ?_)
          clear hK K
          (try simp only [Act.put, List.getElem_toArray, List.getElem_cons_succ, List.getElem_cons_zero, List.setIfInBounds_toArray, List.set_cons_zero, List.set_cons_succ, Act.eval, Array.getD_eq_getD_getElem?, List.getElem?_toArray, List.getElem?_cons_succ, List.getElem?_cons_zero, Option.getD_some])
          refine wpAnyH_ready (rs := [8]) (by kernel_rfl) (by simp) ?_
          refine AllReadyH.cons (o := _) rfl (fun K hK => ?_) AllReadyH.nil
          refine so_rowU (by kernel_rfl) tH _ _ rfl _ LX rfl rfl tH zH ((HB17).get (by simp)) 64 infoH HLXl.out zH_size HLXo.out (fun U18 hU18 hO18 => ?_)
          have HB18 := (HB17).st (o := .cells zH tH (0, 0)) (by simp) hO18 hU18
          refine hK.out _ _ ((HB18).bl) (fun hHeld => ?_)
          clear hK K
          (try simp only [Act.put, List.getElem_toArray, List.getElem_cons_succ, List.getElem_cons_zero, List.setIfInBounds_toArray, List.set_cons_zero, List.set_cons_succ, Act.eval, Array.getD_eq_getD_getElem?, List.getElem?_toArray, List.getElem?_cons_succ, List.getElem?_cons_zero, Option.getD_some])
          refine wpAnyH_done (by kernel_rfl) ?_ _
          refine NoPanic.normal ?_
          go_wp2_with fail
          go_meet
          exact ⟨_, rfl, HB18⟩
        exact AllReadyH.nil
      refine AllReadyH.cons (o := _) rfl (fun K hK => ?_) ?_
      · go_simp
        (try clear hHeld)
        refine hK.out _ _ ((((((HF.start U1).drew)).al _)).bl) (fun hHeld => ?_)
        clear hK K
        (try simp only [Act.put, List.getElem_toArray, List.getElem_cons_succ, List.getElem_cons_zero, List.setIfInBounds_toArray, List.set_cons_zero, List.set_cons_succ, Act.eval, Array.getD_eq_getD_getElem?, List.getElem?_toArray, List.getElem?_cons_succ, List.getElem?_cons_zero, Option.getD_some])
        refine wpAnyH_ready (rs := [3]) (by kernel_rfl) (by simp) ?_
        refine AllReadyH.cons (o := _) rfl (fun K hK => ?_) AllReadyH.nil
        refine so_bs (by kernel_rfl) 22 tH 2 _ rfl [LB, LC] (by simp only [List.map_toArray, List.map_cons, List.map_nil]; rfl) rfl 64 (len2 HLBl HLCl) LBC HLBC.out 64 (.agg zH) undHs infoH3 (by omega) (by omega) (by omega) (by omega) (hK.out _ _ ((((((((HF.start U1).drew)).al _)).al (.cells LBC.toArray tH))).bl) (fun hHeld => ?_))
        clear hK K
        (try simp only [Act.put, List.getElem_toArray, List.getElem_cons_succ, List.getElem_cons_zero, List.setIfInBounds_toArray, List.set_cons_zero, List.set_cons_succ, Act.eval, Array.getD_eq_getD_getElem?, List.getElem?_toArray, List.getElem?_cons_succ, List.getElem?_cons_zero, Option.getD_some])
        refine wpAnyH_ready (rs := [4]) (by kernel_rfl) (by simp) ?_
        refine AllReadyH.cons (o := _) rfl (fun K hK => ?_) AllReadyH.nil
        go_simp
        go_at_call 10; refine (CJ1.out _ _ ((((((((HF.start U1).drew)).al _)).al (.cells LBC.toArray tH))).get (by simp))).mono ?_; rintro e V20 ⟨rfl, hV20⟩; have HB20 := (((((((HF.start U1).drew)).al _)).al (.cells LBC.toArray tH))).step hV20; clear hV20
        (try clear hHeld)
        refine hK.out _ _ ((HB20).bl) (fun hHeld => ?_)
        clear hK K
        (try simp only [Act.put, List.getElem_toArray, List.getElem_cons_succ, List.getElem_cons_zero, List.setIfInBounds_toArray, List.set_cons_zero, List.set_cons_succ, Act.eval, Array.getD_eq_getD_getElem?, List.getElem?_toArray, List.getElem?_cons_succ, List.getElem?_cons_zero, Option.getD_some])
        refine wpAnyH_ready (rs := [5]) (by kernel_rfl) (by simp) ?_
        refine AllReadyH.cons (o := _) rfl (fun K hK => ?_) AllReadyH.nil
        refine so_bs (by kernel_rfl) 22 tH 2 _ rfl [LA, LJ] (by simp only [List.map_toArray, List.map_cons, List.map_nil]; rfl) rfl 64 (len2 HLAl HLJl) LAJ HLAJ.out 64 (.agg zH) undHs infoH3 (by omega) (by omega) (by omega) (by omega) (hK.out _ _ ((((HB20).al (.cells LAJ.toArray tH))).bl) (fun hHeld => ?_))
        clear hK K
        (try simp only [Act.put, List.getElem_toArray, List.getElem_cons_succ, List.getElem_cons_zero, List.setIfInBounds_toArray, List.set_cons_zero, List.set_cons_succ, Act.eval, Array.getD_eq_getD_getElem?, List.getElem?_toArray, List.getElem?_cons_succ, List.getElem?_cons_zero, Option.getD_some])
        refine wpAnyH_ready (rs := [6]) (by kernel_rfl) (by simp) ?_
        refine AllReadyH.cons (o := _) rfl (fun K hK => ?_) AllReadyH.nil
        go_simp
        go_at_call 10; refine (CJ2.out _ _ ((((HB20).al (.cells LAJ.toArray tH))).get (by simp))).mono ?_; rintro e V22 ⟨rfl, hV22⟩; have HB22 := (((HB20).al (.cells LAJ.toArray tH))).step hV22; clear hV22
        (try clear hHeld)
        refine hK.out _ _ ((HB22).bl) (fun hHeld => ?_)
        clear hK K
        (try simp only [Act.put, List.getElem_toArray, List.getElem_cons_succ, List.getElem_cons_zero, List.setIfInBounds_toArray, List.set_cons_zero, List.set_cons_succ, Act.eval, Array.getD_eq_getD_getElem?, List.getElem?_toArray, List.getElem?_cons_succ, List.getElem?_cons_zero, Option.getD_some])
        refine wpAnyH_ready (rs := [8]) (by kernel_rfl) (by simp) ?_
        refine AllReadyH.cons (o := _) rfl (fun K hK => ?_) AllReadyH.nil
        refine so_rowU (by kernel_rfl) tH _ _ rfl _ LX rfl rfl tH zH ((HB22).get (by simp)) 64 infoH HLXl.out zH_size HLXo.out (fun U23 hU23 hO23 => ?_)
        have HB23 := (HB22).st (o := .cells zH tH (0, 0)) (by simp) hO23 hU23
        refine hK.out _ _ ((HB23).bl) (fun hHeld => ?_)
        clear hK K
        (try simp only [Act.put, List.getElem_toArray, List.getElem_cons_succ, List.getElem_cons_zero, List.setIfInBounds_toArray, List.set_cons_zero, List.set_cons_succ, Act.eval, Array.getD_eq_getD_getElem?, List.getElem?_toArray, List.getElem?_cons_succ, List.getElem?_cons_zero, Option.getD_some])
        refine wpAnyH_done (by kernel_rfl) ?_ _
        refine NoPanic.normal ?_
        go_wp2_with fail
        go_meet
        exact ⟨_, rfl, HB23⟩
      exact AllReadyH.nil
    case rest =>
      obtain ⟨g8, rfl, hF⟩ := hcut
      obtain ⟨w7, hw7⟩ : ∃ w, w = wc := ⟨_, rfl⟩
      subst hw7
      have HB4 : Hid (Bl W w7) := HB3.out.step hF.bl
      have RA4 := hidI (hF.bl.heap RA3.out)
      have RB4 := hidI (hF.bl.heap RB3.out)
      have RC4 := hidI (hF.bl.heap RC3.out)
      have RX4 := hidI (hF.get (List.mem_cons_self ..))
      clear hF HB3 RA3 RB3 RC3 CJ1 CJ2
      go_upto_region 7 with fail
      (try simp only [Act.put, List.setIfInBounds_toArray, List.set_cons_zero, List.set_cons_succ])
      go_cut [9] (fun s9 wx => ∃ g, s9 = .pointer (some ⟨g, 0, none⟩) ∧ HF w7 wx [(g, .cells LX.toArray tH)])
      case first =>
        refine wp_region_noPanic ?_
        refine wp_region_held_drew (S := fun U => Bl w7 U) (by kernel_rfl) ((((HF.start w7).drew)).bl) (fun hHeld => ?_)
        refine wpAnyH_take (i := 0) (v := .agg (List.toArray LC)) rfl (by kernel_rfl) (by kernel_rfl) (by kernel_rfl) (fun _ _ _ h => h) (yieldsIf_load_mid (by kernel_rfl) _ (.tmp 7) (by kernel_rfl) w2.heap.size 0 (by kernel_rfl) LC _ (fun W hW => range_of (Bl.heap hW RC4.out)) undH rfl HLCi.out) (by assumption) ?_
        simp only [Act.put, List.getElem_toArray, List.getElem_cons_succ, List.getElem_cons_zero, List.setIfInBounds_toArray, List.set_cons_zero, List.set_cons_succ, Act.eval, Array.getD_eq_getD_getElem?, List.getElem?_toArray, List.getElem?_cons_succ, List.getElem?_cons_zero, Option.getD_some]
        refine wpAnyH_take (i := 1) (v := .agg (List.toArray LA)) rfl (by kernel_rfl) (by kernel_rfl) (by kernel_rfl) (fun _ _ _ h => h) (yieldsIf_load_mid (by kernel_rfl) _ (.tmp 3) (by kernel_rfl) W.heap.size 0 (by kernel_rfl) LA _ (fun W hW => range_of (Bl.heap hW RA4.out)) undH rfl HLAi.out) (by assumption) ?_
        simp only [Act.put, List.getElem_toArray, List.getElem_cons_succ, List.getElem_cons_zero, List.setIfInBounds_toArray, List.set_cons_zero, List.set_cons_succ, Act.eval, Array.getD_eq_getD_getElem?, List.getElem?_toArray, List.getElem?_cons_succ, List.getElem?_cons_zero, Option.getD_some]
        refine wpAnyH_take (i := 4) (v := .agg (List.toArray LB)) rfl (by kernel_rfl) (by kernel_rfl) (by kernel_rfl) (fun _ _ _ h => h) (yieldsIf_load_mid (by kernel_rfl) _ (.tmp 4) (by kernel_rfl) (W.heap.size + 1) 0 (by kernel_rfl) LB _ (fun W hW => range_of (Bl.heap hW RB4.out)) undH rfl HLBi.out) (by assumption) ?_
        simp only [Act.put, List.getElem_toArray, List.getElem_cons_succ, List.getElem_cons_zero, List.setIfInBounds_toArray, List.set_cons_zero, List.set_cons_succ, Act.eval, Array.getD_eq_getD_getElem?, List.getElem?_toArray, List.getElem?_cons_succ, List.getElem?_cons_zero, Option.getD_some]
        refine wpAnyH_take (i := 5) (v := .agg (List.toArray LB)) rfl (by kernel_rfl) (by kernel_rfl) (by kernel_rfl) (fun _ _ _ h => h) (yieldsIf_load_mid (by kernel_rfl) _ (.tmp 4) (by kernel_rfl) (W.heap.size + 1) 0 (by kernel_rfl) LB _ (fun W hW => range_of (Bl.heap hW RB4.out)) undH rfl HLBi.out) (by assumption) ?_
        simp only [Act.put, List.getElem_toArray, List.getElem_cons_succ, List.getElem_cons_zero, List.setIfInBounds_toArray, List.set_cons_zero, List.set_cons_succ, Act.eval, Array.getD_eq_getD_getElem?, List.getElem?_toArray, List.getElem?_cons_succ, List.getElem?_cons_zero, Option.getD_some]
        refine wpAnyH_ready (rs := [2, 8]) (by kernel_rfl) (by simp) ?_
        refine AllReadyH.cons (o := _) rfl (fun K hK => ?_) ?_
        · refine so_bs (by kernel_rfl) 22 tH 2 _ rfl [LC, LA] (by simp only [List.map_toArray, List.map_cons, List.map_nil]; rfl) rfl 64 (len2 HLCl HLAl) LCA HLCA.out 64 (.agg zH) undHs infoH3 (by omega) (by omega) (by omega) (by omega) (hK.out _ _ ((((((HF.start w7).drew)).al (.cells LCA.toArray tH))).bl) (fun hHeld => ?_))
          clear hK K
          (try simp only [Act.put, List.getElem_toArray, List.getElem_cons_succ, List.getElem_cons_zero, List.setIfInBounds_toArray, List.set_cons_zero, List.set_cons_succ, Act.eval, Array.getD_eq_getD_getElem?, List.getElem?_toArray, List.getElem?_cons_succ, List.getElem?_cons_zero, Option.getD_some])
          refine wpAnyH_ready (rs := [3, 8]) (by kernel_rfl) (by simp) ?_
          refine AllReadyH.cons (o := _) rfl (fun K hK => ?_) ?_
          · go_simp
            go_at_call 10; refine (CJ3.out _ _ ((((((HF.start w7).drew)).al (.cells LCA.toArray tH))).get (by simp))).mono ?_; rintro e V6 ⟨rfl, hV6⟩; have HB6 := (((((HF.start w7).drew)).al (.cells LCA.toArray tH))).step hV6; clear hV6
            (try clear hHeld)
            refine hK.out _ _ ((HB6).bl) (fun hHeld => ?_)
            clear hK K
            (try simp only [Act.put, List.getElem_toArray, List.getElem_cons_succ, List.getElem_cons_zero, List.setIfInBounds_toArray, List.set_cons_zero, List.set_cons_succ, Act.eval, Array.getD_eq_getD_getElem?, List.getElem?_toArray, List.getElem?_cons_succ, List.getElem?_cons_zero, Option.getD_some])
            refine wpAnyH_ready (rs := [6, 8]) (by kernel_rfl) (by simp) ?_
            refine AllReadyH.cons (o := _) rfl (fun K hK => ?_) ?_
            · refine so_bs (by kernel_rfl) 22 tH 3 _ rfl [LP, LB, LB] (by simp only [List.map_toArray, List.map_cons, List.map_nil]; rfl) rfl 64 (len3 HLPl HLBl HLBl) LPB HLPB.out 64 (.agg zH) undHs infoH3 (by omega) (by omega) (by omega) (by omega) (hK.out _ _ ((((HB6).al (.cells LPB.toArray tH))).bl) (fun hHeld => ?_))
              clear hK K
              (try simp only [Act.put, List.getElem_toArray, List.getElem_cons_succ, List.getElem_cons_zero, List.setIfInBounds_toArray, List.set_cons_zero, List.set_cons_succ, Act.eval, Array.getD_eq_getD_getElem?, List.getElem?_toArray, List.getElem?_cons_succ, List.getElem?_cons_zero, Option.getD_some])
              refine wpAnyH_ready (rs := [7, 8]) (by kernel_rfl) (by simp) ?_
              refine AllReadyH.cons (o := _) rfl (fun K hK => ?_) ?_
              · go_simp
                go_at_call 10; refine (CJ4.out _ _ ((((HB6).al (.cells LPB.toArray tH))).get (by simp))).mono ?_; rintro e V8 ⟨rfl, hV8⟩; have HB8 := (((HB6).al (.cells LPB.toArray tH))).step hV8; clear hV8
                (try clear hHeld)
                refine hK.out _ _ ((HB8).bl) (fun hHeld => ?_)
                clear hK K
                (try simp only [Act.put, List.getElem_toArray, List.getElem_cons_succ, List.getElem_cons_zero, List.setIfInBounds_toArray, List.set_cons_zero, List.set_cons_succ, Act.eval, Array.getD_eq_getD_getElem?, List.getElem?_toArray, List.getElem?_cons_succ, List.getElem?_cons_zero, Option.getD_some])
                refine wpAnyH_ready (rs := [8]) (by kernel_rfl) (by simp) ?_
                refine AllReadyH.cons (o := _) rfl (fun K hK => ?_) AllReadyH.nil
                go_simp
                (try clear hHeld)
                refine hK.out _ _ ((((HB8).al _)).bl) (fun hHeld => ?_)
                clear hK K
                (try simp only [Act.put, List.getElem_toArray, List.getElem_cons_succ, List.getElem_cons_zero, List.setIfInBounds_toArray, List.set_cons_zero, List.set_cons_succ, Act.eval, Array.getD_eq_getD_getElem?, List.getElem?_toArray, List.getElem?_cons_succ, List.getElem?_cons_zero, Option.getD_some])
                refine wpAnyH_ready (rs := [9]) (by kernel_rfl) (by simp) ?_
                refine AllReadyH.cons (o := _) rfl (fun K hK => ?_) AllReadyH.nil
                refine so_rowU (by kernel_rfl) tH _ _ rfl _ LX rfl rfl tH zH ((((HB8).al _)).get (by simp)) 64 infoH HLXl.out zH_size HLXo.out (fun U10 hU10 hO10 => ?_)
                have HB10 := (((HB8).al _)).st (o := .cells zH tH (0, 0)) (by simp) hO10 hU10
                refine hK.out _ _ ((HB10).bl) (fun hHeld => ?_)
                clear hK K
                (try simp only [Act.put, List.getElem_toArray, List.getElem_cons_succ, List.getElem_cons_zero, List.setIfInBounds_toArray, List.set_cons_zero, List.set_cons_succ, Act.eval, Array.getD_eq_getD_getElem?, List.getElem?_toArray, List.getElem?_cons_succ, List.getElem?_cons_zero, Option.getD_some])
                refine wpAnyH_done (by kernel_rfl) ?_ _
                refine NoPanic.normal ?_
                go_wp2_with fail
                go_meet
                exact ⟨_, rfl, HB10⟩
              refine AllReadyH.cons (o := _) rfl (fun K hK => ?_) ?_
              · go_simp
                (try clear hHeld)
                refine hK.out _ _ ((((((HB6).al (.cells LPB.toArray tH))).al _)).bl) (fun hHeld => ?_)
                clear hK K
                (try simp only [Act.put, List.getElem_toArray, List.getElem_cons_succ, List.getElem_cons_zero, List.setIfInBounds_toArray, List.set_cons_zero, List.set_cons_succ, Act.eval, Array.getD_eq_getD_getElem?, List.getElem?_toArray, List.getElem?_cons_succ, List.getElem?_cons_zero, Option.getD_some])
                refine wpAnyH_ready (rs := [7]) (by kernel_rfl) (by simp) ?_
                refine AllReadyH.cons (o := _) rfl (fun K hK => ?_) AllReadyH.nil
                go_simp
                go_at_call 10; refine (CJ4.out _ _ ((((((HB6).al (.cells LPB.toArray tH))).al _)).get (by simp))).mono ?_; rintro e V11 ⟨rfl, hV11⟩; have HB11 := (((((HB6).al (.cells LPB.toArray tH))).al _)).step hV11; clear hV11
                (try clear hHeld)
                refine hK.out _ _ ((HB11).bl) (fun hHeld => ?_)
                clear hK K
                (try simp only [Act.put, List.getElem_toArray, List.getElem_cons_succ, List.getElem_cons_zero, List.setIfInBounds_toArray, List.set_cons_zero, List.set_cons_succ, Act.eval, Array.getD_eq_getD_getElem?, List.getElem?_toArray, List.getElem?_cons_succ, List.getElem?_cons_zero, Option.getD_some])
                refine wpAnyH_ready (rs := [9]) (by kernel_rfl) (by simp) ?_
                refine AllReadyH.cons (o := _) rfl (fun K hK => ?_) AllReadyH.nil
                refine so_rowU (by kernel_rfl) tH _ _ rfl _ LX rfl rfl tH zH ((HB11).get (by simp)) 64 infoH HLXl.out zH_size HLXo.out (fun U12 hU12 hO12 => ?_)
                have HB12 := (HB11).st (o := .cells zH tH (0, 0)) (by simp) hO12 hU12
                refine hK.out _ _ ((HB12).bl) (fun hHeld => ?_)
                clear hK K
                (try simp only [Act.put, List.getElem_toArray, List.getElem_cons_succ, List.getElem_cons_zero, List.setIfInBounds_toArray, List.set_cons_zero, List.set_cons_succ, Act.eval, Array.getD_eq_getD_getElem?, List.getElem?_toArray, List.getElem?_cons_succ, List.getElem?_cons_zero, Option.getD_some])
                refine wpAnyH_done (by kernel_rfl) ?_ _
                refine NoPanic.normal ?_
                go_wp2_with fail
                go_meet
                exact ⟨_, rfl, HB12⟩
              exact AllReadyH.nil
            refine AllReadyH.cons (o := _) rfl (fun K hK => ?_) ?_
            · go_simp
              (try clear hHeld)
              refine hK.out _ _ ((((HB6).al _)).bl) (fun hHeld => ?_)
              clear hK K
              (try simp only [Act.put, List.getElem_toArray, List.getElem_cons_succ, List.getElem_cons_zero, List.setIfInBounds_toArray, List.set_cons_zero, List.set_cons_succ, Act.eval, Array.getD_eq_getD_getElem?, List.getElem?_toArray, List.getElem?_cons_succ, List.getElem?_cons_zero, Option.getD_some])
              refine wpAnyH_ready (rs := [6]) (by kernel_rfl) (by simp) ?_
              refine AllReadyH.cons (o := _) rfl (fun K hK => ?_) AllReadyH.nil
              refine so_bs (by kernel_rfl) 22 tH 3 _ rfl [LP, LB, LB] (by simp only [List.map_toArray, List.map_cons, List.map_nil]; rfl) rfl 64 (len3 HLPl HLBl HLBl) LPB HLPB.out 64 (.agg zH) undHs infoH3 (by omega) (by omega) (by omega) (by omega) (hK.out _ _ ((((((HB6).al _)).al (.cells LPB.toArray tH))).bl) (fun hHeld => ?_))
              clear hK K
              (try simp only [Act.put, List.getElem_toArray, List.getElem_cons_succ, List.getElem_cons_zero, List.setIfInBounds_toArray, List.set_cons_zero, List.set_cons_succ, Act.eval, Array.getD_eq_getD_getElem?, List.getElem?_toArray, List.getElem?_cons_succ, List.getElem?_cons_zero, Option.getD_some])
              refine wpAnyH_ready (rs := [7]) (by kernel_rfl) (by simp) ?_
              refine AllReadyH.cons (o := _) rfl (fun K hK => ?_) AllReadyH.nil
              go_simp
              go_at_call 10; refine (CJ4.out _ _ ((((((HB6).al _)).al (.cells LPB.toArray tH))).get (by simp))).mono ?_; rintro e V14 ⟨rfl, hV14⟩; have HB14 := (((((HB6).al _)).al (.cells LPB.toArray tH))).step hV14; clear hV14
              (try clear hHeld)
              refine hK.out _ _ ((HB14).bl) (fun hHeld => ?_)
              clear hK K
              (try simp only [Act.put, List.getElem_toArray, List.getElem_cons_succ, List.getElem_cons_zero, List.setIfInBounds_toArray, List.set_cons_zero, List.set_cons_succ, Act.eval, Array.getD_eq_getD_getElem?, List.getElem?_toArray, List.getElem?_cons_succ, List.getElem?_cons_zero, Option.getD_some])
              refine wpAnyH_ready (rs := [9]) (by kernel_rfl) (by simp) ?_
              refine AllReadyH.cons (o := _) rfl (fun K hK => ?_) AllReadyH.nil
              refine so_rowU (by kernel_rfl) tH _ _ rfl _ LX rfl rfl tH zH ((HB14).get (by simp)) 64 infoH HLXl.out zH_size HLXo.out (fun U15 hU15 hO15 => ?_)
              have HB15 := (HB14).st (o := .cells zH tH (0, 0)) (by simp) hO15 hU15
              refine hK.out _ _ ((HB15).bl) (fun hHeld => ?_)
              clear hK K
              (try simp only [Act.put, List.getElem_toArray, List.getElem_cons_succ, List.getElem_cons_zero, List.setIfInBounds_toArray, List.set_cons_zero, List.set_cons_succ, Act.eval, Array.getD_eq_getD_getElem?, List.getElem?_toArray, List.getElem?_cons_succ, List.getElem?_cons_zero, Option.getD_some])
              refine wpAnyH_done (by kernel_rfl) ?_ _
              refine NoPanic.normal ?_
              go_wp2_with fail
              go_meet
              exact ⟨_, rfl, HB15⟩
            exact AllReadyH.nil
          refine AllReadyH.cons (o := _) rfl (fun K hK => ?_) ?_
          · go_simp
            (try clear hHeld)
            refine hK.out _ _ ((((((((HF.start w7).drew)).al (.cells LCA.toArray tH))).al _)).bl) (fun hHeld => ?_)
            clear hK K
            (try simp only [Act.put, List.getElem_toArray, List.getElem_cons_succ, List.getElem_cons_zero, List.setIfInBounds_toArray, List.set_cons_zero, List.set_cons_succ, Act.eval, Array.getD_eq_getD_getElem?, List.getElem?_toArray, List.getElem?_cons_succ, List.getElem?_cons_zero, Option.getD_some])
            refine wpAnyH_ready (rs := [3]) (by kernel_rfl) (by simp) ?_
            refine AllReadyH.cons (o := _) rfl (fun K hK => ?_) AllReadyH.nil
            go_simp
            go_at_call 10; refine (CJ3.out _ _ ((((((((HF.start w7).drew)).al (.cells LCA.toArray tH))).al _)).get (by simp))).mono ?_; rintro e V16 ⟨rfl, hV16⟩; have HB16 := (((((((HF.start w7).drew)).al (.cells LCA.toArray tH))).al _)).step hV16; clear hV16
            (try clear hHeld)
            refine hK.out _ _ ((HB16).bl) (fun hHeld => ?_)
            clear hK K
            (try simp only [Act.put, List.getElem_toArray, List.getElem_cons_succ, List.getElem_cons_zero, List.setIfInBounds_toArray, List.set_cons_zero, List.set_cons_succ, Act.eval, Array.getD_eq_getD_getElem?, List.getElem?_toArray, List.getElem?_cons_succ, List.getElem?_cons_zero, Option.getD_some])
            refine wpAnyH_ready (rs := [6]) (by kernel_rfl) (by simp) ?_
            refine AllReadyH.cons (o := _) rfl (fun K hK => ?_) AllReadyH.nil
            refine so_bs (by kernel_rfl) 22 tH 3 _ rfl [LP, LB, LB] (by simp only [List.map_toArray, List.map_cons, List.map_nil]; rfl) rfl 64 (len3 HLPl HLBl HLBl) LPB HLPB.out 64 (.agg zH) undHs infoH3 (by omega) (by omega) (by omega) (by omega) (hK.out _ _ ((((HB16).al (.cells LPB.toArray tH))).bl) (fun hHeld => ?_))
            clear hK K
            (try simp only [Act.put, List.getElem_toArray, List.getElem_cons_succ, List.getElem_cons_zero, List.setIfInBounds_toArray, List.set_cons_zero, List.set_cons_succ, Act.eval, Array.getD_eq_getD_getElem?, List.getElem?_toArray, List.getElem?_cons_succ, List.getElem?_cons_zero, Option.getD_some])
            refine wpAnyH_ready (rs := [7]) (by kernel_rfl) (by simp) ?_
            refine AllReadyH.cons (o := _) rfl (fun K hK => ?_) AllReadyH.nil
            go_simp
            go_at_call 10; refine (CJ4.out _ _ ((((HB16).al (.cells LPB.toArray tH))).get (by simp))).mono ?_; rintro e V18 ⟨rfl, hV18⟩; have HB18 := (((HB16).al (.cells LPB.toArray tH))).step hV18; clear hV18
            (try clear hHeld)
            refine hK.out _ _ ((HB18).bl) (fun hHeld => ?_)
            clear hK K
            (try simp only [Act.put, List.getElem_toArray, List.getElem_cons_succ, List.getElem_cons_zero, List.setIfInBounds_toArray, List.set_cons_zero, List.set_cons_succ, Act.eval, Array.getD_eq_getD_getElem?, List.getElem?_toArray, List.getElem?_cons_succ, List.getElem?_cons_zero, Option.getD_some])
            refine wpAnyH_ready (rs := [9]) (by kernel_rfl) (by simp) ?_
            refine AllReadyH.cons (o := _) rfl (fun K hK => ?_) AllReadyH.nil
            refine so_rowU (by kernel_rfl) tH _ _ rfl _ LX rfl rfl tH zH ((HB18).get (by simp)) 64 infoH HLXl.out zH_size HLXo.out (fun U19 hU19 hO19 => ?_)
            have HB19 := (HB18).st (o := .cells zH tH (0, 0)) (by simp) hO19 hU19
            refine hK.out _ _ ((HB19).bl) (fun hHeld => ?_)
            clear hK K
            (try simp only [Act.put, List.getElem_toArray, List.getElem_cons_succ, List.getElem_cons_zero, List.setIfInBounds_toArray, List.set_cons_zero, List.set_cons_succ, Act.eval, Array.getD_eq_getD_getElem?, List.getElem?_toArray, List.getElem?_cons_succ, List.getElem?_cons_zero, Option.getD_some])
            refine wpAnyH_done (by kernel_rfl) ?_ _
            refine NoPanic.normal ?_
            go_wp2_with fail
            go_meet
            exact ⟨_, rfl, HB19⟩
          exact AllReadyH.nil
        refine AllReadyH.cons (o := _) rfl (fun K hK => ?_) ?_
        · go_simp
          (try clear hHeld)
          refine hK.out _ _ ((((((HF.start w7).drew)).al _)).bl) (fun hHeld => ?_)
          clear hK K
          (try simp only [Act.put, List.getElem_toArray, List.getElem_cons_succ, List.getElem_cons_zero, List.setIfInBounds_toArray, List.set_cons_zero, List.set_cons_succ, Act.eval, Array.getD_eq_getD_getElem?, List.getElem?_toArray, List.getElem?_cons_succ, List.getElem?_cons_zero, Option.getD_some])
          refine wpAnyH_ready (rs := [2]) (by kernel_rfl) (by simp) ?_
          refine AllReadyH.cons (o := _) rfl (fun K hK => ?_) AllReadyH.nil
          refine so_bs (by kernel_rfl) 22 tH 2 _ rfl [LC, LA] (by simp only [List.map_toArray, List.map_cons, List.map_nil]; rfl) rfl 64 (len2 HLCl HLAl) LCA HLCA.out 64 (.agg zH) undHs infoH3 (by omega) (by omega) (by omega) (by omega) (hK.out _ _ ((((((((HF.start w7).drew)).al _)).al (.cells LCA.toArray tH))).bl) (fun hHeld => ?_))
          clear hK K
          (try simp only [Act.put, List.getElem_toArray, List.getElem_cons_succ, List.getElem_cons_zero, List.setIfInBounds_toArray, List.set_cons_zero, List.set_cons_succ, Act.eval, Array.getD_eq_getD_getElem?, List.getElem?_toArray, List.getElem?_cons_succ, List.getElem?_cons_zero, Option.getD_some])
          refine wpAnyH_ready (rs := [3]) (by kernel_rfl) (by simp) ?_
          refine AllReadyH.cons (o := _) rfl (fun K hK => ?_) AllReadyH.nil
          go_simp
          go_at_call 10; refine (CJ3.out _ _ ((((((((HF.start w7).drew)).al _)).al (.cells LCA.toArray tH))).get (by simp))).mono ?_; rintro e V21 ⟨rfl, hV21⟩; have HB21 := (((((((HF.start w7).drew)).al _)).al (.cells LCA.toArray tH))).step hV21; clear hV21
          (try clear hHeld)
          refine hK.out _ _ ((HB21).bl) (fun hHeld => ?_)
          clear hK K
          (try simp only [Act.put, List.getElem_toArray, List.getElem_cons_succ, List.getElem_cons_zero, List.setIfInBounds_toArray, List.set_cons_zero, List.set_cons_succ, Act.eval, Array.getD_eq_getD_getElem?, List.getElem?_toArray, List.getElem?_cons_succ, List.getElem?_cons_zero, Option.getD_some])
          refine wpAnyH_ready (rs := [6]) (by kernel_rfl) (by simp) ?_
          refine AllReadyH.cons (o := _) rfl (fun K hK => ?_) AllReadyH.nil
          refine so_bs (by kernel_rfl) 22 tH 3 _ rfl [LP, LB, LB] (by simp only [List.map_toArray, List.map_cons, List.map_nil]; rfl) rfl 64 (len3 HLPl HLBl HLBl) LPB HLPB.out 64 (.agg zH) undHs infoH3 (by omega) (by omega) (by omega) (by omega) (hK.out _ _ ((((HB21).al (.cells LPB.toArray tH))).bl) (fun hHeld => ?_))
          clear hK K
          (try simp only [Act.put, List.getElem_toArray, List.getElem_cons_succ, List.getElem_cons_zero, List.setIfInBounds_toArray, List.set_cons_zero, List.set_cons_succ, Act.eval, Array.getD_eq_getD_getElem?, List.getElem?_toArray, List.getElem?_cons_succ, List.getElem?_cons_zero, Option.getD_some])
          refine wpAnyH_ready (rs := [7]) (by kernel_rfl) (by simp) ?_
          refine AllReadyH.cons (o := _) rfl (fun K hK => ?_) AllReadyH.nil
          go_simp
          go_at_call 10; refine (CJ4.out _ _ ((((HB21).al (.cells LPB.toArray tH))).get (by simp))).mono ?_; rintro e V23 ⟨rfl, hV23⟩; have HB23 := (((HB21).al (.cells LPB.toArray tH))).step hV23; clear hV23
          (try clear hHeld)
          refine hK.out _ _ ((HB23).bl) (fun hHeld => ?_)
          clear hK K
          (try simp only [Act.put, List.getElem_toArray, List.getElem_cons_succ, List.getElem_cons_zero, List.setIfInBounds_toArray, List.set_cons_zero, List.set_cons_succ, Act.eval, Array.getD_eq_getD_getElem?, List.getElem?_toArray, List.getElem?_cons_succ, List.getElem?_cons_zero, Option.getD_some])
          refine wpAnyH_ready (rs := [9]) (by kernel_rfl) (by simp) ?_
          refine AllReadyH.cons (o := _) rfl (fun K hK => ?_) AllReadyH.nil
          refine so_rowU (by kernel_rfl) tH _ _ rfl _ LX rfl rfl tH zH ((HB23).get (by simp)) 64 infoH HLXl.out zH_size HLXo.out (fun U24 hU24 hO24 => ?_)
          have HB24 := (HB23).st (o := .cells zH tH (0, 0)) (by simp) hO24 hU24
          refine hK.out _ _ ((HB24).bl) (fun hHeld => ?_)
          clear hK K
          (try simp only [Act.put, List.getElem_toArray, List.getElem_cons_succ, List.getElem_cons_zero, List.setIfInBounds_toArray, List.set_cons_zero, List.set_cons_succ, Act.eval, Array.getD_eq_getD_getElem?, List.getElem?_toArray, List.getElem?_cons_succ, List.getElem?_cons_zero, Option.getD_some])
          refine wpAnyH_done (by kernel_rfl) ?_ _
          refine NoPanic.normal ?_
          go_wp2_with fail
          go_meet
          exact ⟨_, rfl, HB24⟩
        exact AllReadyH.nil
      case rest =>
        obtain ⟨g9, rfl, hF⟩ := hcut
        obtain ⟨w8, hw8⟩ : ∃ w, w = wc := ⟨_, rfl⟩
        subst hw8
        have HB5 : Hid (Bl W w8) := HB4.out.step hF.bl
        have RA5 := hidI (hF.bl.heap RA4.out)
        have RB5 := hidI (hF.bl.heap RB4.out)
        have RX5 := hidI (hF.bl.heap RX4.out)
        have RY5 := hidI (hF.get (List.mem_cons_self ..))
        have CWX : Hid (∀ U, Bl w8 U → Calls Try.prog 11 #[.agg LM.toArray, .slice sl l.length c] U fun e w' => e = .returned (.agg LX.toArray) ∧ Bl U w') := fun U hU => CWW.out U (HB5.out.step hU)
        clear hF HB4 RA4 RB4 RX4 RC4 CJ3 CJ4 CWW
        go_upto_region 8 with fail
        (try simp only [Act.put, List.setIfInBounds_toArray, List.set_cons_zero, List.set_cons_succ])
        go_cut [60] (fun s60 wx => s60 = .bool false ∧ Bl w8 wx)
        case first =>
          refine wp_region_noPanic ?_
          refine wp_region_held_drew (S := fun U => Bl w8 U) (by kernel_rfl) ((((HF.start w8).drew)).bl) (fun hHeld => ?_)
          refine wpAnyH_take (i := 0) (v := .agg (List.toArray LX)) rfl (by kernel_rfl) (by kernel_rfl) (by kernel_rfl) (fun _ _ _ h => h) (yieldsIf_load_mid (by kernel_rfl) _ (.tmp 8) (by kernel_rfl) g8 0 (by kernel_rfl) LX _ (fun W hW => range_of (Bl.heap hW RX5.out)) undH rfl HLXi.out) (by assumption) ?_
          simp only [Act.put, List.getElem_toArray, List.getElem_cons_succ, List.getElem_cons_zero, List.setIfInBounds_toArray, List.set_cons_zero, List.set_cons_succ, Act.eval, Array.getD_eq_getD_getElem?, List.getElem?_toArray, List.getElem?_cons_succ, List.getElem?_cons_zero, Option.getD_some]
          refine wpAnyH_take (i := 1) (v := .agg (List.toArray LX)) rfl (by kernel_rfl) (by kernel_rfl) (by kernel_rfl) (fun _ _ _ h => h) (yieldsIf_load_mid (by kernel_rfl) _ (.tmp 9) (by kernel_rfl) g9 0 (by kernel_rfl) LX _ (fun W hW => range_of (Bl.heap hW RY5.out)) undH rfl HLXi.out) (by assumption) ?_
          simp only [Act.put, List.getElem_toArray, List.getElem_cons_succ, List.getElem_cons_zero, List.setIfInBounds_toArray, List.set_cons_zero, List.set_cons_succ, Act.eval, Array.getD_eq_getD_getElem?, List.getElem?_toArray, List.getElem?_cons_succ, List.getElem?_cons_zero, Option.getD_some]
          refine wpAnyH_take (i := 2) (v := ?_) rfl (by kernel_rfl) (by kernel_rfl) (by kernel_rfl) (fun _ _ _ h => h) (Or.inl ⟨by kernel_rfl, ?_⟩) (by assumption) ?_
          rotate_left
          · (intro w hSw; (try dsimp only at hSw); go_simp; (try with_reducible rfl))
          simp only [Act.put, List.getElem_toArray, List.getElem_cons_succ, List.getElem_cons_zero, List.setIfInBounds_toArray, List.set_cons_zero, List.set_cons_succ, Act.eval, Array.getD_eq_getD_getElem?, List.getElem?_toArray, List.getElem?_cons_succ, List.getElem?_cons_zero, Option.getD_some]
          refine wpAnyH_take (i := 3) rfl (by kernel_rfl) (by kernel_rfl) (by kernel_rfl) (fun _ _ _ h => h) (yi_move (by kernel_rfl) rfl rfl) (by assumption) ?_
          simp only [Act.put, List.getElem_toArray, List.getElem_cons_succ, List.getElem_cons_zero, List.setIfInBounds_toArray, List.set_cons_zero, List.set_cons_succ, Act.eval, Array.getD_eq_getD_getElem?, List.getElem?_toArray, List.getElem?_cons_succ, List.getElem?_cons_zero, Option.getD_some]
          refine wpAnyH_take (i := 4) (v := .agg (List.toArray LA)) rfl (by kernel_rfl) (by kernel_rfl) (by kernel_rfl) (fun _ _ _ h => h) (yieldsIf_load_mid (by kernel_rfl) _ (.tmp 3) (by kernel_rfl) W.heap.size 0 (by kernel_rfl) LA _ (fun W hW => range_of (Bl.heap hW RA5.out)) undH rfl HLAi.out) (by assumption) ?_
          simp only [Act.put, List.getElem_toArray, List.getElem_cons_succ, List.getElem_cons_zero, List.setIfInBounds_toArray, List.set_cons_zero, List.set_cons_succ, Act.eval, Array.getD_eq_getD_getElem?, List.getElem?_toArray, List.getElem?_cons_succ, List.getElem?_cons_zero, Option.getD_some]
          refine wpAnyH_take (i := 5) (v := .agg (List.toArray LB)) rfl (by kernel_rfl) (by kernel_rfl) (by kernel_rfl) (fun _ _ _ h => h) (yieldsIf_load_mid (by kernel_rfl) _ (.tmp 4) (by kernel_rfl) (W.heap.size + 1) 0 (by kernel_rfl) LB _ (fun W hW => range_of (Bl.heap hW RB5.out)) undH rfl HLBi.out) (by assumption) ?_
          simp only [Act.put, List.getElem_toArray, List.getElem_cons_succ, List.getElem_cons_zero, List.setIfInBounds_toArray, List.set_cons_zero, List.set_cons_succ, Act.eval, Array.getD_eq_getD_getElem?, List.getElem?_toArray, List.getElem?_cons_succ, List.getElem?_cons_zero, Option.getD_some]
          refine wpAnyH_take (i := 8) rfl (by kernel_rfl) (by kernel_rfl) (by kernel_rfl) (fun _ _ _ h => h) (yi_move (by kernel_rfl) rfl rfl) (by assumption) ?_
          simp only [Act.put, List.getElem_toArray, List.getElem_cons_succ, List.getElem_cons_zero, List.setIfInBounds_toArray, List.set_cons_zero, List.set_cons_succ, Act.eval, Array.getD_eq_getD_getElem?, List.getElem?_toArray, List.getElem?_cons_succ, List.getElem?_cons_zero, Option.getD_some]
          refine wpAnyH_take (i := 10) (v := .agg (List.toArray LX)) rfl (by kernel_rfl) (by kernel_rfl) (by kernel_rfl) (fun _ _ _ h => h) (yieldsIf_load_mid (by kernel_rfl) _ (.tmp 8) (by kernel_rfl) g8 0 (by kernel_rfl) LX _ (fun W hW => range_of (Bl.heap hW RX5.out)) undH rfl HLXi.out) (by assumption) ?_
          simp only [Act.put, List.getElem_toArray, List.getElem_cons_succ, List.getElem_cons_zero, List.setIfInBounds_toArray, List.set_cons_zero, List.set_cons_succ, Act.eval, Array.getD_eq_getD_getElem?, List.getElem?_toArray, List.getElem?_cons_succ, List.getElem?_cons_zero, Option.getD_some]
          refine wpAnyH_ready (rs := [6]) (by kernel_rfl) (by simp) ?_
          refine AllReadyH.cons (o := _) rfl (fun K hK => ?_) AllReadyH.nil
          refine so_bs (by kernel_rfl) 22 tH 2 _ rfl [LA, LB] (by simp only [List.map_toArray, List.map_cons, List.map_nil]; rfl) rfl 64 (len2 HLAl HLBl) LAB HLAB.out 64 (.agg zH) undHs infoH3 (by omega) (by omega) (by omega) (by omega) (hK.out _ _ ((((((HF.start w8).drew)).al (.cells LAB.toArray tH))).bl) (fun hHeld => ?_))
          clear hK K
          (try simp only [Act.put, List.getElem_toArray, List.getElem_cons_succ, List.getElem_cons_zero, List.setIfInBounds_toArray, List.set_cons_zero, List.set_cons_succ, Act.eval, Array.getD_eq_getD_getElem?, List.getElem?_toArray, List.getElem?_cons_succ, List.getElem?_cons_zero, Option.getD_some])
          refine wpAnyH_ready (rs := [7]) (by kernel_rfl) (by simp) ?_
          refine AllReadyH.cons (o := _) rfl (fun K hK => ?_) AllReadyH.nil
          go_simp
          go_at_call 10; refine (CJ5.out _ _ ((((((HF.start w8).drew)).al (.cells LAB.toArray tH))).get (by simp))).mono ?_; rintro e V10 ⟨rfl, hV10⟩; have HB10 := (((((HF.start w8).drew)).al (.cells LAB.toArray tH))).step hV10; clear hV10
          (try clear hHeld)
          refine hK.out _ _ ((HB10).bl) (fun hHeld => ?_)
          clear hK K
          (try simp only [Act.put, List.getElem_toArray, List.getElem_cons_succ, List.getElem_cons_zero, List.setIfInBounds_toArray, List.set_cons_zero, List.set_cons_succ, Act.eval, Array.getD_eq_getD_getElem?, List.getElem?_toArray, List.getElem?_cons_succ, List.getElem?_cons_zero, Option.getD_some])
          refine wpAnyH_ready (rs := [9]) (by kernel_rfl) (by simp) ?_
          refine AllReadyH.cons (o := _) rfl (fun K hK => ?_) AllReadyH.nil
          go_simp
          go_at_call 11; refine (CWX.out _ (HB10).bl).mono ?_; rintro e V11 ⟨rfl, hV11⟩; have HB11 := (HB10).step hV11; clear hV11
          (try clear hHeld)
          refine hK.out _ _ ((HB11).bl) (fun hHeld => ?_)
          clear hK K
          (try simp only [Act.put, List.getElem_toArray, List.getElem_cons_succ, List.getElem_cons_zero, List.setIfInBounds_toArray, List.set_cons_zero, List.set_cons_succ, Act.eval, Array.getD_eq_getD_getElem?, List.getElem?_toArray, List.getElem?_cons_succ, List.getElem?_cons_zero, Option.getD_some])
          refine wpAnyH_take (i := 11) (v := ?_) rfl (by kernel_rfl) (by kernel_rfl) (by kernel_rfl) (fun _ _ _ h => h) (Or.inl ⟨by kernel_rfl, ?_⟩) (by assumption) ?_
          rotate_left
          · (intro w hSw; (try dsimp only at hSw); go_simp; (try with_reducible rfl))
          simp only [Act.put, List.getElem_toArray, List.getElem_cons_succ, List.getElem_cons_zero, List.setIfInBounds_toArray, List.set_cons_zero, List.set_cons_succ, Act.eval, Array.getD_eq_getD_getElem?, List.getElem?_toArray, List.getElem?_cons_succ, List.getElem?_cons_zero, Option.getD_some]
          refine wpAnyH_take (i := 12) (v := ?_) rfl (by kernel_rfl) (by kernel_rfl) (by kernel_rfl) (fun _ _ _ h => h) (Or.inl ⟨by kernel_rfl, ?_⟩) (by assumption) ?_
          rotate_left
          · (intro w hSw; (try dsimp only at hSw); go_simp; (try with_reducible rfl))
          simp only [Act.put, List.getElem_toArray, List.getElem_cons_succ, List.getElem_cons_zero, List.setIfInBounds_toArray, List.set_cons_zero, List.set_cons_succ, Act.eval, Array.getD_eq_getD_getElem?, List.getElem?_toArray, List.getElem?_cons_succ, List.getElem?_cons_zero, Option.getD_some]
          refine wpAnyH_take (i := 13) rfl (by kernel_rfl) (by kernel_rfl) (by kernel_rfl) (fun _ _ _ h => h) (yi_move (by kernel_rfl) rfl rfl) (by assumption) ?_
          simp only [Act.put, List.getElem_toArray, List.getElem_cons_succ, List.getElem_cons_zero, List.setIfInBounds_toArray, List.set_cons_zero, List.set_cons_succ, Act.eval, Array.getD_eq_getD_getElem?, List.getElem?_toArray, List.getElem?_cons_succ, List.getElem?_cons_zero, Option.getD_some]
          refine wpAnyH_take (i := 14) (v := .agg (List.toArray LX)) rfl (by kernel_rfl) (by kernel_rfl) (by kernel_rfl) (fun _ _ _ h => h) (yieldsIf_load_mid (by kernel_rfl) _ (.tmp 8) (by kernel_rfl) g8 0 (by kernel_rfl) LX _ (fun W hW => range_of (Bl.heap hW RX5.out)) undH rfl HLXi.out) (by assumption) ?_
          simp only [Act.put, List.getElem_toArray, List.getElem_cons_succ, List.getElem_cons_zero, List.setIfInBounds_toArray, List.set_cons_zero, List.set_cons_succ, Act.eval, Array.getD_eq_getD_getElem?, List.getElem?_toArray, List.getElem?_cons_succ, List.getElem?_cons_zero, Option.getD_some]
          refine wpAnyH_take (i := 15) (v := .agg (List.toArray LX)) rfl (by kernel_rfl) (by kernel_rfl) (by kernel_rfl) (fun _ _ _ h => h) (yieldsIf_load_mid (by kernel_rfl) _ (.tmp 8) (by kernel_rfl) g8 0 (by kernel_rfl) LX _ (fun W hW => range_of (Bl.heap hW RX5.out)) undH rfl HLXi.out) (by assumption) ?_
          simp only [Act.put, List.getElem_toArray, List.getElem_cons_succ, List.getElem_cons_zero, List.setIfInBounds_toArray, List.set_cons_zero, List.set_cons_succ, Act.eval, Array.getD_eq_getD_getElem?, List.getElem?_toArray, List.getElem?_cons_succ, List.getElem?_cons_zero, Option.getD_some]
          refine wpAnyH_take (i := 18) (v := .agg (List.toArray LX)) rfl (by kernel_rfl) (by kernel_rfl) (by kernel_rfl) (fun _ _ _ h => h) (yieldsIf_load_mid (by kernel_rfl) _ (.tmp 8) (by kernel_rfl) g8 0 (by kernel_rfl) LX _ (fun W hW => range_of (Bl.heap hW RX5.out)) undH rfl HLXi.out) (by assumption) ?_
          simp only [Act.put, List.getElem_toArray, List.getElem_cons_succ, List.getElem_cons_zero, List.setIfInBounds_toArray, List.set_cons_zero, List.set_cons_succ, Act.eval, Array.getD_eq_getD_getElem?, List.getElem?_toArray, List.getElem?_cons_succ, List.getElem?_cons_zero, Option.getD_some]
          refine wpAnyH_ready (rs := [16]) (by kernel_rfl) (by simp) ?_
          refine AllReadyH.cons (o := _) rfl (fun K hK => ?_) AllReadyH.nil
          refine so_bs (by kernel_rfl) 22 tH 2 _ rfl [LX, LX] (by simp only [List.map_toArray, List.map_cons, List.map_nil]; rfl) rfl 64 (len2 HLXl HLXl) LXX HLXX.out 64 (.agg zH) undHs infoH3 (by omega) (by omega) (by omega) (by omega) (hK.out _ _ ((((HB11).al (.cells LXX.toArray tH))).bl) (fun hHeld => ?_))
          clear hK K
          (try simp only [Act.put, List.getElem_toArray, List.getElem_cons_succ, List.getElem_cons_zero, List.setIfInBounds_toArray, List.set_cons_zero, List.set_cons_succ, Act.eval, Array.getD_eq_getD_getElem?, List.getElem?_toArray, List.getElem?_cons_succ, List.getElem?_cons_zero, Option.getD_some])
          refine wpAnyH_ready (rs := [17]) (by kernel_rfl) (by simp) ?_
          refine AllReadyH.cons (o := _) rfl (fun K hK => ?_) AllReadyH.nil
          go_simp
          go_at_call 10; refine (CJ6.out _ _ ((((HB11).al (.cells LXX.toArray tH))).get (by simp))).mono ?_; rintro e V19 ⟨rfl, hV19⟩; have HB19 := (((HB11).al (.cells LXX.toArray tH))).step hV19; clear hV19
          (try clear hHeld)
          refine hK.out _ _ ((HB19).bl) (fun hHeld => ?_)
          clear hK K
          (try simp only [Act.put, List.getElem_toArray, List.getElem_cons_succ, List.getElem_cons_zero, List.setIfInBounds_toArray, List.set_cons_zero, List.set_cons_succ, Act.eval, Array.getD_eq_getD_getElem?, List.getElem?_toArray, List.getElem?_cons_succ, List.getElem?_cons_zero, Option.getD_some])
          refine wpAnyH_take (i := 19) (v := ?_) rfl (by kernel_rfl) (by kernel_rfl) (by kernel_rfl) (fun _ _ _ h => h) (Or.inl ⟨by kernel_rfl, ?_⟩) (by assumption) ?_
          rotate_left
          · (intro w hSw; (try dsimp only at hSw); go_simp; (try with_reducible rfl))
          simp only [Act.put, List.getElem_toArray, List.getElem_cons_succ, List.getElem_cons_zero, List.setIfInBounds_toArray, List.set_cons_zero, List.set_cons_succ, Act.eval, Array.getD_eq_getD_getElem?, List.getElem?_toArray, List.getElem?_cons_succ, List.getElem?_cons_zero, Option.getD_some]
          refine wpAnyH_take (i := 20) (v := ?_) rfl (by kernel_rfl) (by kernel_rfl) (by kernel_rfl) (fun _ _ _ h => h) (Or.inl ⟨by kernel_rfl, ?_⟩) (by assumption) ?_
          rotate_left
          · (intro w hSw; (try dsimp only at hSw); go_simp; (try with_reducible rfl))
          simp only [Act.put, List.getElem_toArray, List.getElem_cons_succ, List.getElem_cons_zero, List.setIfInBounds_toArray, List.set_cons_zero, List.set_cons_succ, Act.eval, Array.getD_eq_getD_getElem?, List.getElem?_toArray, List.getElem?_cons_succ, List.getElem?_cons_zero, Option.getD_some]
          refine wpAnyH_take (i := 21) rfl (by kernel_rfl) (by kernel_rfl) (by kernel_rfl) (fun _ _ _ h => h) (yi_move (by kernel_rfl) rfl rfl) (by assumption) ?_
          simp only [Act.put, List.getElem_toArray, List.getElem_cons_succ, List.getElem_cons_zero, List.setIfInBounds_toArray, List.set_cons_zero, List.set_cons_succ, Act.eval, Array.getD_eq_getD_getElem?, List.getElem?_toArray, List.getElem?_cons_succ, List.getElem?_cons_zero, Option.getD_some]
          refine wpAnyH_take (i := 22) (v := .agg (List.toArray LA)) rfl (by kernel_rfl) (by kernel_rfl) (by kernel_rfl) (fun _ _ _ h => h) (yieldsIf_load_mid (by kernel_rfl) _ (.tmp 3) (by kernel_rfl) W.heap.size 0 (by kernel_rfl) LA _ (fun W hW => range_of (Bl.heap hW RA5.out)) undH rfl HLAi.out) (by assumption) ?_
          simp only [Act.put, List.getElem_toArray, List.getElem_cons_succ, List.getElem_cons_zero, List.setIfInBounds_toArray, List.set_cons_zero, List.set_cons_succ, Act.eval, Array.getD_eq_getD_getElem?, List.getElem?_toArray, List.getElem?_cons_succ, List.getElem?_cons_zero, Option.getD_some]
          refine wpAnyH_take (i := 25) (v := .agg (List.toArray LA)) rfl (by kernel_rfl) (by kernel_rfl) (by kernel_rfl) (fun _ _ _ h => h) (yieldsIf_load_mid (by kernel_rfl) _ (.tmp 3) (by kernel_rfl) W.heap.size 0 (by kernel_rfl) LA _ (fun W hW => range_of (Bl.heap hW RA5.out)) undH rfl HLAi.out) (by assumption) ?_
          simp only [Act.put, List.getElem_toArray, List.getElem_cons_succ, List.getElem_cons_zero, List.setIfInBounds_toArray, List.set_cons_zero, List.set_cons_succ, Act.eval, Array.getD_eq_getD_getElem?, List.getElem?_toArray, List.getElem?_cons_succ, List.getElem?_cons_zero, Option.getD_some]
          refine wpAnyH_ready (rs := [23]) (by kernel_rfl) (by simp) ?_
          refine AllReadyH.cons (o := _) rfl (fun K hK => ?_) AllReadyH.nil
          refine so_bs (by kernel_rfl) 22 tH 1 _ rfl [LA] (by simp only [List.map_toArray, List.map_cons, List.map_nil]; rfl) rfl 64 (len1 HLAl) LA HLA.out 64 (.agg zH) undHs infoH3 (by omega) (by omega) (by omega) (by omega) (hK.out _ _ ((((HB19).al (.cells LA.toArray tH))).bl) (fun hHeld => ?_))
          clear hK K
          (try simp only [Act.put, List.getElem_toArray, List.getElem_cons_succ, List.getElem_cons_zero, List.setIfInBounds_toArray, List.set_cons_zero, List.set_cons_succ, Act.eval, Array.getD_eq_getD_getElem?, List.getElem?_toArray, List.getElem?_cons_succ, List.getElem?_cons_zero, Option.getD_some])
          refine wpAnyH_ready (rs := [24]) (by kernel_rfl) (by simp) ?_
          refine AllReadyH.cons (o := _) rfl (fun K hK => ?_) AllReadyH.nil
          go_simp
          go_at_call 10; refine (CJ7.out _ _ ((((HB19).al (.cells LA.toArray tH))).get (by simp))).mono ?_; rintro e V26 ⟨rfl, hV26⟩; have HB26 := (((HB19).al (.cells LA.toArray tH))).step hV26; clear hV26
          (try clear hHeld)
          refine hK.out _ _ ((HB26).bl) (fun hHeld => ?_)
          clear hK K
          (try simp only [Act.put, List.getElem_toArray, List.getElem_cons_succ, List.getElem_cons_zero, List.setIfInBounds_toArray, List.set_cons_zero, List.set_cons_succ, Act.eval, Array.getD_eq_getD_getElem?, List.getElem?_toArray, List.getElem?_cons_succ, List.getElem?_cons_zero, Option.getD_some])
          refine wpAnyH_take (i := 26) (v := ?_) rfl (by kernel_rfl) (by kernel_rfl) (by kernel_rfl) (fun _ _ _ h => h) (Or.inl ⟨by kernel_rfl, ?_⟩) (by assumption) ?_
          rotate_left
          · (intro w hSw; (try dsimp only at hSw); go_simp; (try with_reducible rfl))
          simp only [Act.put, List.getElem_toArray, List.getElem_cons_succ, List.getElem_cons_zero, List.setIfInBounds_toArray, List.set_cons_zero, List.set_cons_succ, Act.eval, Array.getD_eq_getD_getElem?, List.getElem?_toArray, List.getElem?_cons_succ, List.getElem?_cons_zero, Option.getD_some]
          refine wpAnyH_take (i := 27) (v := ?_) rfl (by kernel_rfl) (by kernel_rfl) (by kernel_rfl) (fun _ _ _ h => h) (Or.inl ⟨by kernel_rfl, ?_⟩) (by assumption) ?_
          rotate_left
          · (intro w hSw; (try dsimp only at hSw); go_simp; (try with_reducible rfl))
          simp only [Act.put, List.getElem_toArray, List.getElem_cons_succ, List.getElem_cons_zero, List.setIfInBounds_toArray, List.set_cons_zero, List.set_cons_succ, Act.eval, Array.getD_eq_getD_getElem?, List.getElem?_toArray, List.getElem?_cons_succ, List.getElem?_cons_zero, Option.getD_some]
          refine wpAnyH_done (by kernel_rfl) ?_ _
          refine NoPanic.normal ?_
          go_wp2_with fail
          go_meet
          exact ⟨rfl, (HB26).bl⟩
        case rest =>
          obtain ⟨rfl, hb⟩ := hcut
          obtain ⟨w9, hw9⟩ : ∃ w, w = wc := ⟨_, rfl⟩
          subst hw9
          have HB6 : Hid (Bl W w9) := HB5.out.step hb
          have RA6 := hidI (hb.heap RA5.out)
          have RB6 := hidI (hb.heap RB5.out)
          have RX6 := hidI (hb.heap RX5.out)
          clear hb HB5 RA5 RB5 RX5 RY5 CJ5 CJ6 CJ7 CWX heq heqA
          go_wp2_with fail
          go_loopw [10] (fun u10 wr => ∃ i : Nat, i ≤ l.length ∧ u10 = .int .i64 (i : Int) ∧ Bl w9 wr) (fun u10 _ => l.length - (intOf u10).toNat)
          case atStart => exact ⟨0, by omega, rfl, Bl.refl w9⟩
          case round =>
            obtain ⟨i, hi, rfl, hb⟩ := hrel
            have HB7 : Hid (Bl W wr) := HB6.out.step hb
            have HB8 : Hid (Bl w9 wr) := hb
            have RA7 := hidI (hb.heap RA6.out)
            have RB7 := hidI (hb.heap RB6.out)
            have RX7 := hidI (hb.heap RX6.out)
            clear hb HB6 RA6 RB6 RX6
            by_cases hlt : i < l.length
            · obtain ⟨k, hk⟩ : ∃ k, l[i]? = some k := ⟨l[i], List.getElem?_eq_getElem hlt⟩
              obtain ⟨kb, off, rfl, hkb, hkr⟩ := (HV.out.bl HB7.out) i k hk
              have HKB : Hid (kb < wr.heap.size) := hkb
              have HKR : Hid (wr.rangeAt kb (off + i * 32) (dC k)) := hkr
              have HXK := HK1.out k (List.mem_of_getElem? hk)
              have HAK := AX.out k
              have C1 : Hid (∀ U, Calls Try.prog 15 #[.agg LX.toArray, .agg (dC k).toArray] U fun e w' => e = .returned (.bool true) ∧ Bl U w') := fun U => by
                have := CH1.out k U; rw [HXK] at this; exact this
              have C2 : Hid (∀ U, Calls Try.prog 15 #[.agg LA.toArray, .agg (dC k).toArray] U fun e w' => e = .returned (.bool (a.hs k)) ∧ Bl U w') := CH2.out k
              have C3 : Hid (a.hs k = true → ∀ U, Calls Try.prog 15 #[.agg LN.toArray, .agg (dC k).toArray] U fun e w' => e = .returned (.bool true) ∧ Bl U w') := fun e U => by
                have := CH3.out k U; rw [HAK e] at this; exact this
              have HKi : Hid ((Try.prog.info? tD).map (·.size) = some (dC k).length) := infoD' k
              clear HXK HAK hk hkb hkr CH1 CH2 CH3 HK1 AX HV
              generalize dC k = LK at *
              generalize a.hs k = q at *
              go_upto_region 13 with fail
              (try simp only [Act.put, List.setIfInBounds_toArray, List.set_cons_zero, List.set_cons_succ])
              go_cut [93] (fun s93 wx => s93 = .bool false ∧ Bl wr wx)
              case first =>
                cases q
                · refine wp_region_noPanic ?_
                  refine wp_region_held_drew (S := fun U => Bl wr U) (by kernel_rfl) ((((HF.start wr).drew)).bl) (fun hHeld => ?_)
                  refine wpAnyH_take (i := 0) (v := .agg (List.toArray LX)) rfl (by kernel_rfl) (by kernel_rfl) (by kernel_rfl) (fun _ _ _ h => h) (yieldsIf_load_mid (by kernel_rfl) _ (.tmp 8) (by kernel_rfl) g8 0 (by kernel_rfl) LX _ (fun W hW => range_of (Bl.heap hW RX7.out)) undH rfl HLXi.out) (by assumption) ?_
                  simp only [Act.put, List.getElem_toArray, List.getElem_cons_succ, List.getElem_cons_zero, List.setIfInBounds_toArray, List.set_cons_zero, List.set_cons_succ, Act.eval, Array.getD_eq_getD_getElem?, List.getElem?_toArray, List.getElem?_cons_succ, List.getElem?_cons_zero, Option.getD_some]
                  refine wpAnyH_take (i := 1) rfl (by kernel_rfl) (by kernel_rfl) (by kernel_rfl) (fun _ _ _ h => h) (yi_move (by kernel_rfl) rfl rfl) (by assumption) ?_
                  simp only [Act.put, List.getElem_toArray, List.getElem_cons_succ, List.getElem_cons_zero, List.setIfInBounds_toArray, List.set_cons_zero, List.set_cons_succ, Act.eval, Array.getD_eq_getD_getElem?, List.getElem?_toArray, List.getElem?_cons_succ, List.getElem?_cons_zero, Option.getD_some]
                  refine wpAnyH_take (i := 2) rfl (by kernel_rfl) (by kernel_rfl) (by kernel_rfl) (fun _ _ _ h => h) (yi_move (by kernel_rfl) rfl rfl) (by assumption) ?_
                  simp only [Act.put, List.getElem_toArray, List.getElem_cons_succ, List.getElem_cons_zero, List.setIfInBounds_toArray, List.set_cons_zero, List.set_cons_succ, Act.eval, Array.getD_eq_getD_getElem?, List.getElem?_toArray, List.getElem?_cons_succ, List.getElem?_cons_zero, Option.getD_some]
                  refine wpAnyH_take (i := 3) (v := ?_) rfl (by kernel_rfl) (by kernel_rfl) (by kernel_rfl) (fun _ _ _ h => h) (Or.inl ⟨by kernel_rfl, ?_⟩) (by assumption) ?_
                  rotate_left
                  · (intro w hSw; (try dsimp only at hSw); go_simp; (try with_reducible rfl))
                  simp only [Act.put, List.getElem_toArray, List.getElem_cons_succ, List.getElem_cons_zero, List.setIfInBounds_toArray, List.set_cons_zero, List.set_cons_succ, Act.eval, Array.getD_eq_getD_getElem?, List.getElem?_toArray, List.getElem?_cons_succ, List.getElem?_cons_zero, Option.getD_some]
                  refine wpAnyH_take (i := 4) (v := .agg (List.toArray LK)) rfl (by kernel_rfl) (by kernel_rfl) (by kernel_rfl) (fun _ _ _ h => h) (yieldsIf_load_mid (by kernel_rfl) _ (.tmp 70) (by kernel_rfl) kb (off + i * 32) (by kernel_rfl) LK _ (fun W hW => Bl.range hW HKB.out HKR.out) undD rfl HKi.out) (by assumption) ?_
                  simp only [Act.put, List.getElem_toArray, List.getElem_cons_succ, List.getElem_cons_zero, List.setIfInBounds_toArray, List.set_cons_zero, List.set_cons_succ, Act.eval, Array.getD_eq_getD_getElem?, List.getElem?_toArray, List.getElem?_cons_succ, List.getElem?_cons_zero, Option.getD_some]
                  refine wpAnyH_ready (rs := [5]) (by kernel_rfl) (by simp) ?_
                  refine AllReadyH.cons (o := _) rfl (fun K hK => ?_) AllReadyH.nil
                  go_simp
                  go_at_call 15; refine (C1.out _).mono ?_; rintro e V6 ⟨rfl, hV6⟩; have HB6 := (((HF.start wr).drew)).step hV6; clear hV6
                  (try clear hHeld)
                  refine hK.out _ _ ((HB6).bl) (fun hHeld => ?_)
                  clear hK K
                  (try simp only [Act.put, List.getElem_toArray, List.getElem_cons_succ, List.getElem_cons_zero, List.setIfInBounds_toArray, List.set_cons_zero, List.set_cons_succ, Act.eval, Array.getD_eq_getD_getElem?, List.getElem?_toArray, List.getElem?_cons_succ, List.getElem?_cons_zero, Option.getD_some])
                  refine wpAnyH_take (i := 6) (v := ?_) rfl (by kernel_rfl) (by kernel_rfl) (by kernel_rfl) (fun _ _ _ h => h) (Or.inl ⟨by kernel_rfl, ?_⟩) (by assumption) ?_
                  rotate_left
                  · (intro w hSw; (try dsimp only at hSw); go_simp; (try with_reducible rfl))
                  simp only [Act.put, List.getElem_toArray, List.getElem_cons_succ, List.getElem_cons_zero, List.setIfInBounds_toArray, List.set_cons_zero, List.set_cons_succ, Act.eval, Array.getD_eq_getD_getElem?, List.getElem?_toArray, List.getElem?_cons_succ, List.getElem?_cons_zero, Option.getD_some]
                  refine wpAnyH_take (i := 7) rfl (by kernel_rfl) (by kernel_rfl) (by kernel_rfl) (fun _ _ _ h => h) (yi_move (by kernel_rfl) rfl rfl) (by assumption) ?_
                  simp only [Act.put, List.getElem_toArray, List.getElem_cons_succ, List.getElem_cons_zero, List.setIfInBounds_toArray, List.set_cons_zero, List.set_cons_succ, Act.eval, Array.getD_eq_getD_getElem?, List.getElem?_toArray, List.getElem?_cons_succ, List.getElem?_cons_zero, Option.getD_some]
                  refine wpAnyH_take (i := 8) (v := .agg (List.toArray LA)) rfl (by kernel_rfl) (by kernel_rfl) (by kernel_rfl) (fun _ _ _ h => h) (yieldsIf_load_mid (by kernel_rfl) _ (.tmp 3) (by kernel_rfl) W.heap.size 0 (by kernel_rfl) LA _ (fun W hW => range_of (Bl.heap hW RA7.out)) undH rfl HLAi.out) (by assumption) ?_
                  simp only [Act.put, List.getElem_toArray, List.getElem_cons_succ, List.getElem_cons_zero, List.setIfInBounds_toArray, List.set_cons_zero, List.set_cons_succ, Act.eval, Array.getD_eq_getD_getElem?, List.getElem?_toArray, List.getElem?_cons_succ, List.getElem?_cons_zero, Option.getD_some]
                  refine wpAnyH_take (i := 9) rfl (by kernel_rfl) (by kernel_rfl) (by kernel_rfl) (fun _ _ _ h => h) (yi_move (by kernel_rfl) rfl rfl) (by assumption) ?_
                  simp only [Act.put, List.getElem_toArray, List.getElem_cons_succ, List.getElem_cons_zero, List.setIfInBounds_toArray, List.set_cons_zero, List.set_cons_succ, Act.eval, Array.getD_eq_getD_getElem?, List.getElem?_toArray, List.getElem?_cons_succ, List.getElem?_cons_zero, Option.getD_some]
                  refine wpAnyH_take (i := 10) rfl (by kernel_rfl) (by kernel_rfl) (by kernel_rfl) (fun _ _ _ h => h) (yi_move (by kernel_rfl) rfl rfl) (by assumption) ?_
                  simp only [Act.put, List.getElem_toArray, List.getElem_cons_succ, List.getElem_cons_zero, List.setIfInBounds_toArray, List.set_cons_zero, List.set_cons_succ, Act.eval, Array.getD_eq_getD_getElem?, List.getElem?_toArray, List.getElem?_cons_succ, List.getElem?_cons_zero, Option.getD_some]
                  refine wpAnyH_take (i := 11) (v := ?_) rfl (by kernel_rfl) (by kernel_rfl) (by kernel_rfl) (fun _ _ _ h => h) (Or.inl ⟨by kernel_rfl, ?_⟩) (by assumption) ?_
                  rotate_left
                  · (intro w hSw; (try dsimp only at hSw); go_simp; (try with_reducible rfl))
                  simp only [Act.put, List.getElem_toArray, List.getElem_cons_succ, List.getElem_cons_zero, List.setIfInBounds_toArray, List.set_cons_zero, List.set_cons_succ, Act.eval, Array.getD_eq_getD_getElem?, List.getElem?_toArray, List.getElem?_cons_succ, List.getElem?_cons_zero, Option.getD_some]
                  refine wpAnyH_take (i := 12) (v := .agg (List.toArray LK)) rfl (by kernel_rfl) (by kernel_rfl) (by kernel_rfl) (fun _ _ _ h => h) (yieldsIf_load_mid (by kernel_rfl) _ (.tmp 78) (by kernel_rfl) kb (off + i * 32) (by kernel_rfl) LK _ (fun W hW => Bl.range hW HKB.out HKR.out) undD rfl HKi.out) (by assumption) ?_
                  simp only [Act.put, List.getElem_toArray, List.getElem_cons_succ, List.getElem_cons_zero, List.setIfInBounds_toArray, List.set_cons_zero, List.set_cons_succ, Act.eval, Array.getD_eq_getD_getElem?, List.getElem?_toArray, List.getElem?_cons_succ, List.getElem?_cons_zero, Option.getD_some]
                  refine wpAnyH_ready (rs := [13]) (by kernel_rfl) (by simp) ?_
                  refine AllReadyH.cons (o := _) rfl (fun K hK => ?_) AllReadyH.nil
                  go_simp
                  go_at_call 15; refine (C2.out _).mono ?_; rintro e V14 ⟨rfl, hV14⟩; have HB14 := (HB6).step hV14; clear hV14
                  (try clear hHeld)
                  refine hK.out _ _ ((HB14).bl) (fun hHeld => ?_)
                  clear hK K
                  (try simp only [Act.put, List.getElem_toArray, List.getElem_cons_succ, List.getElem_cons_zero, List.setIfInBounds_toArray, List.set_cons_zero, List.set_cons_succ, Act.eval, Array.getD_eq_getD_getElem?, List.getElem?_toArray, List.getElem?_cons_succ, List.getElem?_cons_zero, Option.getD_some])
                  refine wpAnyH_take (i := 14) rfl (by kernel_rfl) (by kernel_rfl) (by kernel_rfl) (fun _ _ _ h => h) (yi_move (by kernel_rfl) rfl rfl) (by assumption) ?_
                  simp only [Act.put, List.getElem_toArray, List.getElem_cons_succ, List.getElem_cons_zero, List.setIfInBounds_toArray, List.set_cons_zero, List.set_cons_succ, Act.eval, Array.getD_eq_getD_getElem?, List.getElem?_toArray, List.getElem?_cons_succ, List.getElem?_cons_zero, Option.getD_some]
                  refine wpAnyH_take (i := 15) (v := undef) rfl (by kernel_rfl) (by kernel_rfl) (by kernel_rfl) (fun _ _ _ h => h) (Or.inr ⟨by kernel_rfl, rfl⟩) (by assumption) ?_
                  simp only [Act.put, List.getElem_toArray, List.getElem_cons_succ, List.getElem_cons_zero, List.setIfInBounds_toArray, List.set_cons_zero, List.set_cons_succ, Act.eval, Array.getD_eq_getD_getElem?, List.getElem?_toArray, List.getElem?_cons_succ, List.getElem?_cons_zero, Option.getD_some]
                  refine wpAnyH_take (i := 16) (v := undef) rfl (by kernel_rfl) (by kernel_rfl) (by kernel_rfl) (fun _ _ _ h => h) (Or.inr ⟨by kernel_rfl, rfl⟩) (by assumption) ?_
                  simp only [Act.put, List.getElem_toArray, List.getElem_cons_succ, List.getElem_cons_zero, List.setIfInBounds_toArray, List.set_cons_zero, List.set_cons_succ, Act.eval, Array.getD_eq_getD_getElem?, List.getElem?_toArray, List.getElem?_cons_succ, List.getElem?_cons_zero, Option.getD_some]
                  refine wpAnyH_take (i := 17) (v := undef) rfl (by kernel_rfl) (by kernel_rfl) (by kernel_rfl) (fun _ _ _ h => h) (Or.inr ⟨by kernel_rfl, rfl⟩) (by assumption) ?_
                  simp only [Act.put, List.getElem_toArray, List.getElem_cons_succ, List.getElem_cons_zero, List.setIfInBounds_toArray, List.set_cons_zero, List.set_cons_succ, Act.eval, Array.getD_eq_getD_getElem?, List.getElem?_toArray, List.getElem?_cons_succ, List.getElem?_cons_zero, Option.getD_some]
                  refine wpAnyH_take (i := 18) (v := undef) rfl (by kernel_rfl) (by kernel_rfl) (by kernel_rfl) (fun _ _ _ h => h) (Or.inr ⟨by kernel_rfl, rfl⟩) (by assumption) ?_
                  simp only [Act.put, List.getElem_toArray, List.getElem_cons_succ, List.getElem_cons_zero, List.setIfInBounds_toArray, List.set_cons_zero, List.set_cons_succ, Act.eval, Array.getD_eq_getD_getElem?, List.getElem?_toArray, List.getElem?_cons_succ, List.getElem?_cons_zero, Option.getD_some]
                  refine wpAnyH_take (i := 19) (v := undef) rfl (by kernel_rfl) (by kernel_rfl) (by kernel_rfl) (fun _ _ _ h => h) (Or.inr ⟨by kernel_rfl, rfl⟩) (by assumption) ?_
                  simp only [Act.put, List.getElem_toArray, List.getElem_cons_succ, List.getElem_cons_zero, List.setIfInBounds_toArray, List.set_cons_zero, List.set_cons_succ, Act.eval, Array.getD_eq_getD_getElem?, List.getElem?_toArray, List.getElem?_cons_succ, List.getElem?_cons_zero, Option.getD_some]
                  refine wpAnyH_take (i := 20) (v := undef) rfl (by kernel_rfl) (by kernel_rfl) (by kernel_rfl) (fun _ _ _ h => h) (Or.inr ⟨by kernel_rfl, rfl⟩) (by assumption) ?_
                  simp only [Act.put, List.getElem_toArray, List.getElem_cons_succ, List.getElem_cons_zero, List.setIfInBounds_toArray, List.set_cons_zero, List.set_cons_succ, Act.eval, Array.getD_eq_getD_getElem?, List.getElem?_toArray, List.getElem?_cons_succ, List.getElem?_cons_zero, Option.getD_some]
                  refine wpAnyH_take (i := 21) (v := undef) rfl (by kernel_rfl) (by kernel_rfl) (by kernel_rfl) (fun _ _ _ h => h) (Or.inr ⟨by kernel_rfl, rfl⟩) (by assumption) ?_
                  simp only [Act.put, List.getElem_toArray, List.getElem_cons_succ, List.getElem_cons_zero, List.setIfInBounds_toArray, List.set_cons_zero, List.set_cons_succ, Act.eval, Array.getD_eq_getD_getElem?, List.getElem?_toArray, List.getElem?_cons_succ, List.getElem?_cons_zero, Option.getD_some]
                  refine wpAnyH_take (i := 22) (v := undef) rfl (by kernel_rfl) (by kernel_rfl) (by kernel_rfl) (fun _ _ _ h => h) (Or.inr ⟨by kernel_rfl, rfl⟩) (by assumption) ?_
                  simp only [Act.put, List.getElem_toArray, List.getElem_cons_succ, List.getElem_cons_zero, List.setIfInBounds_toArray, List.set_cons_zero, List.set_cons_succ, Act.eval, Array.getD_eq_getD_getElem?, List.getElem?_toArray, List.getElem?_cons_succ, List.getElem?_cons_zero, Option.getD_some]
                  refine wpAnyH_take (i := 23) (v := undef) rfl (by kernel_rfl) (by kernel_rfl) (by kernel_rfl) (fun _ _ _ h => h) (Or.inr ⟨by kernel_rfl, rfl⟩) (by assumption) ?_
                  simp only [Act.put, List.getElem_toArray, List.getElem_cons_succ, List.getElem_cons_zero, List.setIfInBounds_toArray, List.set_cons_zero, List.set_cons_succ, Act.eval, Array.getD_eq_getD_getElem?, List.getElem?_toArray, List.getElem?_cons_succ, List.getElem?_cons_zero, Option.getD_some]
                  refine wpAnyH_take (i := 24) (v := undef) rfl (by kernel_rfl) (by kernel_rfl) (by kernel_rfl) (fun _ _ _ h => h) (Or.inr ⟨by kernel_rfl, rfl⟩) (by assumption) ?_
                  simp only [Act.put, List.getElem_toArray, List.getElem_cons_succ, List.getElem_cons_zero, List.setIfInBounds_toArray, List.set_cons_zero, List.set_cons_succ, Act.eval, Array.getD_eq_getD_getElem?, List.getElem?_toArray, List.getElem?_cons_succ, List.getElem?_cons_zero, Option.getD_some]
                  refine wpAnyH_take (i := 25) (v := ?_) rfl (by kernel_rfl) (by kernel_rfl) (by kernel_rfl) (fun _ _ _ h => h) (Or.inl ⟨by kernel_rfl, ?_⟩) (by assumption) ?_
                  rotate_left
                  · (intro w hSw; (try dsimp only at hSw); go_simp; (try with_reducible rfl))
                  simp only [Act.put, List.getElem_toArray, List.getElem_cons_succ, List.getElem_cons_zero, List.setIfInBounds_toArray, List.set_cons_zero, List.set_cons_succ, Act.eval, Array.getD_eq_getD_getElem?, List.getElem?_toArray, List.getElem?_cons_succ, List.getElem?_cons_zero, Option.getD_some]
                  refine wpAnyH_take (i := 26) (v := ?_) rfl (by kernel_rfl) (by kernel_rfl) (by kernel_rfl) (fun _ _ _ h => h) (Or.inl ⟨by kernel_rfl, ?_⟩) (by assumption) ?_
                  rotate_left
                  · (intro w hSw; (try dsimp only at hSw); go_simp; (try with_reducible rfl))
                  simp only [Act.put, List.getElem_toArray, List.getElem_cons_succ, List.getElem_cons_zero, List.setIfInBounds_toArray, List.set_cons_zero, List.set_cons_succ, Act.eval, Array.getD_eq_getD_getElem?, List.getElem?_toArray, List.getElem?_cons_succ, List.getElem?_cons_zero, Option.getD_some]
                  refine wpAnyH_done (by kernel_rfl) ?_ _
                  refine NoPanic.normal ?_
                  go_wp2_with fail
                  go_meet
                  exact ⟨rfl, (HB14).bl⟩
                · have C3' : Hid (∀ U, Calls Try.prog 15 #[.agg LN.toArray, .agg LK.toArray] U fun e w' => e = .returned (.bool true) ∧ Bl U w') := by first | exact C3.out rfl | exact C3.out trivial
                  refine wp_region_noPanic ?_
                  refine wp_region_held_drew (S := fun U => Bl wr U) (by kernel_rfl) ((((HF.start wr).drew)).bl) (fun hHeld => ?_)
                  refine wpAnyH_take (i := 0) (v := .agg (List.toArray LX)) rfl (by kernel_rfl) (by kernel_rfl) (by kernel_rfl) (fun _ _ _ h => h) (yieldsIf_load_mid (by kernel_rfl) _ (.tmp 8) (by kernel_rfl) g8 0 (by kernel_rfl) LX _ (fun W hW => range_of (Bl.heap hW RX7.out)) undH rfl HLXi.out) (by assumption) ?_
                  simp only [Act.put, List.getElem_toArray, List.getElem_cons_succ, List.getElem_cons_zero, List.setIfInBounds_toArray, List.set_cons_zero, List.set_cons_succ, Act.eval, Array.getD_eq_getD_getElem?, List.getElem?_toArray, List.getElem?_cons_succ, List.getElem?_cons_zero, Option.getD_some]
                  refine wpAnyH_take (i := 1) rfl (by kernel_rfl) (by kernel_rfl) (by kernel_rfl) (fun _ _ _ h => h) (yi_move (by kernel_rfl) rfl rfl) (by assumption) ?_
                  simp only [Act.put, List.getElem_toArray, List.getElem_cons_succ, List.getElem_cons_zero, List.setIfInBounds_toArray, List.set_cons_zero, List.set_cons_succ, Act.eval, Array.getD_eq_getD_getElem?, List.getElem?_toArray, List.getElem?_cons_succ, List.getElem?_cons_zero, Option.getD_some]
                  refine wpAnyH_take (i := 2) rfl (by kernel_rfl) (by kernel_rfl) (by kernel_rfl) (fun _ _ _ h => h) (yi_move (by kernel_rfl) rfl rfl) (by assumption) ?_
                  simp only [Act.put, List.getElem_toArray, List.getElem_cons_succ, List.getElem_cons_zero, List.setIfInBounds_toArray, List.set_cons_zero, List.set_cons_succ, Act.eval, Array.getD_eq_getD_getElem?, List.getElem?_toArray, List.getElem?_cons_succ, List.getElem?_cons_zero, Option.getD_some]
                  refine wpAnyH_take (i := 3) (v := ?_) rfl (by kernel_rfl) (by kernel_rfl) (by kernel_rfl) (fun _ _ _ h => h) (Or.inl ⟨by kernel_rfl, ?_⟩) (by assumption) ?_
                  rotate_left
                  · (intro w hSw; (try dsimp only at hSw); go_simp; (try with_reducible rfl))
                  simp only [Act.put, List.getElem_toArray, List.getElem_cons_succ, List.getElem_cons_zero, List.setIfInBounds_toArray, List.set_cons_zero, List.set_cons_succ, Act.eval, Array.getD_eq_getD_getElem?, List.getElem?_toArray, List.getElem?_cons_succ, List.getElem?_cons_zero, Option.getD_some]
                  refine wpAnyH_take (i := 4) (v := .agg (List.toArray LK)) rfl (by kernel_rfl) (by kernel_rfl) (by kernel_rfl) (fun _ _ _ h => h) (yieldsIf_load_mid (by kernel_rfl) _ (.tmp 70) (by kernel_rfl) kb (off + i * 32) (by kernel_rfl) LK _ (fun W hW => Bl.range hW HKB.out HKR.out) undD rfl HKi.out) (by assumption) ?_
                  simp only [Act.put, List.getElem_toArray, List.getElem_cons_succ, List.getElem_cons_zero, List.setIfInBounds_toArray, List.set_cons_zero, List.set_cons_succ, Act.eval, Array.getD_eq_getD_getElem?, List.getElem?_toArray, List.getElem?_cons_succ, List.getElem?_cons_zero, Option.getD_some]
                  refine wpAnyH_ready (rs := [5]) (by kernel_rfl) (by simp) ?_
                  refine AllReadyH.cons (o := _) rfl (fun K hK => ?_) AllReadyH.nil
                  go_simp
                  go_at_call 15; refine (C1.out _).mono ?_; rintro e V6 ⟨rfl, hV6⟩; have HB6 := (((HF.start wr).drew)).step hV6; clear hV6
                  (try clear hHeld)
                  refine hK.out _ _ ((HB6).bl) (fun hHeld => ?_)
                  clear hK K
                  (try simp only [Act.put, List.getElem_toArray, List.getElem_cons_succ, List.getElem_cons_zero, List.setIfInBounds_toArray, List.set_cons_zero, List.set_cons_succ, Act.eval, Array.getD_eq_getD_getElem?, List.getElem?_toArray, List.getElem?_cons_succ, List.getElem?_cons_zero, Option.getD_some])
                  refine wpAnyH_take (i := 6) (v := ?_) rfl (by kernel_rfl) (by kernel_rfl) (by kernel_rfl) (fun _ _ _ h => h) (Or.inl ⟨by kernel_rfl, ?_⟩) (by assumption) ?_
                  rotate_left
                  · (intro w hSw; (try dsimp only at hSw); go_simp; (try with_reducible rfl))
                  simp only [Act.put, List.getElem_toArray, List.getElem_cons_succ, List.getElem_cons_zero, List.setIfInBounds_toArray, List.set_cons_zero, List.set_cons_succ, Act.eval, Array.getD_eq_getD_getElem?, List.getElem?_toArray, List.getElem?_cons_succ, List.getElem?_cons_zero, Option.getD_some]
                  refine wpAnyH_take (i := 7) rfl (by kernel_rfl) (by kernel_rfl) (by kernel_rfl) (fun _ _ _ h => h) (yi_move (by kernel_rfl) rfl rfl) (by assumption) ?_
                  simp only [Act.put, List.getElem_toArray, List.getElem_cons_succ, List.getElem_cons_zero, List.setIfInBounds_toArray, List.set_cons_zero, List.set_cons_succ, Act.eval, Array.getD_eq_getD_getElem?, List.getElem?_toArray, List.getElem?_cons_succ, List.getElem?_cons_zero, Option.getD_some]
                  refine wpAnyH_take (i := 8) (v := .agg (List.toArray LA)) rfl (by kernel_rfl) (by kernel_rfl) (by kernel_rfl) (fun _ _ _ h => h) (yieldsIf_load_mid (by kernel_rfl) _ (.tmp 3) (by kernel_rfl) W.heap.size 0 (by kernel_rfl) LA _ (fun W hW => range_of (Bl.heap hW RA7.out)) undH rfl HLAi.out) (by assumption) ?_
                  simp only [Act.put, List.getElem_toArray, List.getElem_cons_succ, List.getElem_cons_zero, List.setIfInBounds_toArray, List.set_cons_zero, List.set_cons_succ, Act.eval, Array.getD_eq_getD_getElem?, List.getElem?_toArray, List.getElem?_cons_succ, List.getElem?_cons_zero, Option.getD_some]
                  refine wpAnyH_take (i := 9) rfl (by kernel_rfl) (by kernel_rfl) (by kernel_rfl) (fun _ _ _ h => h) (yi_move (by kernel_rfl) rfl rfl) (by assumption) ?_
                  simp only [Act.put, List.getElem_toArray, List.getElem_cons_succ, List.getElem_cons_zero, List.setIfInBounds_toArray, List.set_cons_zero, List.set_cons_succ, Act.eval, Array.getD_eq_getD_getElem?, List.getElem?_toArray, List.getElem?_cons_succ, List.getElem?_cons_zero, Option.getD_some]
                  refine wpAnyH_take (i := 10) rfl (by kernel_rfl) (by kernel_rfl) (by kernel_rfl) (fun _ _ _ h => h) (yi_move (by kernel_rfl) rfl rfl) (by assumption) ?_
                  simp only [Act.put, List.getElem_toArray, List.getElem_cons_succ, List.getElem_cons_zero, List.setIfInBounds_toArray, List.set_cons_zero, List.set_cons_succ, Act.eval, Array.getD_eq_getD_getElem?, List.getElem?_toArray, List.getElem?_cons_succ, List.getElem?_cons_zero, Option.getD_some]
                  refine wpAnyH_take (i := 11) (v := ?_) rfl (by kernel_rfl) (by kernel_rfl) (by kernel_rfl) (fun _ _ _ h => h) (Or.inl ⟨by kernel_rfl, ?_⟩) (by assumption) ?_
                  rotate_left
                  · (intro w hSw; (try dsimp only at hSw); go_simp; (try with_reducible rfl))
                  simp only [Act.put, List.getElem_toArray, List.getElem_cons_succ, List.getElem_cons_zero, List.setIfInBounds_toArray, List.set_cons_zero, List.set_cons_succ, Act.eval, Array.getD_eq_getD_getElem?, List.getElem?_toArray, List.getElem?_cons_succ, List.getElem?_cons_zero, Option.getD_some]
                  refine wpAnyH_take (i := 12) (v := .agg (List.toArray LK)) rfl (by kernel_rfl) (by kernel_rfl) (by kernel_rfl) (fun _ _ _ h => h) (yieldsIf_load_mid (by kernel_rfl) _ (.tmp 78) (by kernel_rfl) kb (off + i * 32) (by kernel_rfl) LK _ (fun W hW => Bl.range hW HKB.out HKR.out) undD rfl HKi.out) (by assumption) ?_
                  simp only [Act.put, List.getElem_toArray, List.getElem_cons_succ, List.getElem_cons_zero, List.setIfInBounds_toArray, List.set_cons_zero, List.set_cons_succ, Act.eval, Array.getD_eq_getD_getElem?, List.getElem?_toArray, List.getElem?_cons_succ, List.getElem?_cons_zero, Option.getD_some]
                  refine wpAnyH_ready (rs := [13]) (by kernel_rfl) (by simp) ?_
                  refine AllReadyH.cons (o := _) rfl (fun K hK => ?_) AllReadyH.nil
                  go_simp
                  go_at_call 15; refine (C2.out _).mono ?_; rintro e V14 ⟨rfl, hV14⟩; have HB14 := (HB6).step hV14; clear hV14
                  (try clear hHeld)
                  refine hK.out _ _ ((HB14).bl) (fun hHeld => ?_)
                  clear hK K
                  (try simp only [Act.put, List.getElem_toArray, List.getElem_cons_succ, List.getElem_cons_zero, List.setIfInBounds_toArray, List.set_cons_zero, List.set_cons_succ, Act.eval, Array.getD_eq_getD_getElem?, List.getElem?_toArray, List.getElem?_cons_succ, List.getElem?_cons_zero, Option.getD_some])
                  refine wpAnyH_take (i := 14) rfl (by kernel_rfl) (by kernel_rfl) (by kernel_rfl) (fun _ _ _ h => h) (yi_move (by kernel_rfl) rfl rfl) (by assumption) ?_
                  simp only [Act.put, List.getElem_toArray, List.getElem_cons_succ, List.getElem_cons_zero, List.setIfInBounds_toArray, List.set_cons_zero, List.set_cons_succ, Act.eval, Array.getD_eq_getD_getElem?, List.getElem?_toArray, List.getElem?_cons_succ, List.getElem?_cons_zero, Option.getD_some]
                  refine wpAnyH_take (i := 15) (v := .agg (List.toArray LB)) rfl (by kernel_rfl) (by kernel_rfl) (by kernel_rfl) (fun _ _ _ h => h) (yieldsIf_load_mid (by kernel_rfl) _ (.tmp 4) (by kernel_rfl) (W.heap.size + 1) 0 (by kernel_rfl) LB _ (fun W hW => range_of (Bl.heap hW RB7.out)) undH rfl HLBi.out) (by assumption) ?_
                  simp only [Act.put, List.getElem_toArray, List.getElem_cons_succ, List.getElem_cons_zero, List.setIfInBounds_toArray, List.set_cons_zero, List.set_cons_succ, Act.eval, Array.getD_eq_getD_getElem?, List.getElem?_toArray, List.getElem?_cons_succ, List.getElem?_cons_zero, Option.getD_some]
                  refine wpAnyH_take (i := 16) (v := .agg (List.toArray LA)) rfl (by kernel_rfl) (by kernel_rfl) (by kernel_rfl) (fun _ _ _ h => h) (yieldsIf_load_mid (by kernel_rfl) _ (.tmp 3) (by kernel_rfl) W.heap.size 0 (by kernel_rfl) LA _ (fun W hW => range_of (Bl.heap hW RA7.out)) undH rfl HLAi.out) (by assumption) ?_
                  simp only [Act.put, List.getElem_toArray, List.getElem_cons_succ, List.getElem_cons_zero, List.setIfInBounds_toArray, List.set_cons_zero, List.set_cons_succ, Act.eval, Array.getD_eq_getD_getElem?, List.getElem?_toArray, List.getElem?_cons_succ, List.getElem?_cons_zero, Option.getD_some]
                  refine wpAnyH_take (i := 19) rfl (by kernel_rfl) (by kernel_rfl) (by kernel_rfl) (fun _ _ _ h => h) (yi_move (by kernel_rfl) rfl rfl) (by assumption) ?_
                  simp only [Act.put, List.getElem_toArray, List.getElem_cons_succ, List.getElem_cons_zero, List.setIfInBounds_toArray, List.set_cons_zero, List.set_cons_succ, Act.eval, Array.getD_eq_getD_getElem?, List.getElem?_toArray, List.getElem?_cons_succ, List.getElem?_cons_zero, Option.getD_some]
                  refine wpAnyH_take (i := 20) rfl (by kernel_rfl) (by kernel_rfl) (by kernel_rfl) (fun _ _ _ h => h) (yi_move (by kernel_rfl) rfl rfl) (by assumption) ?_
                  simp only [Act.put, List.getElem_toArray, List.getElem_cons_succ, List.getElem_cons_zero, List.setIfInBounds_toArray, List.set_cons_zero, List.set_cons_succ, Act.eval, Array.getD_eq_getD_getElem?, List.getElem?_toArray, List.getElem?_cons_succ, List.getElem?_cons_zero, Option.getD_some]
                  refine wpAnyH_take (i := 21) (v := ?_) rfl (by kernel_rfl) (by kernel_rfl) (by kernel_rfl) (fun _ _ _ h => h) (Or.inl ⟨by kernel_rfl, ?_⟩) (by assumption) ?_
                  rotate_left
                  · (intro w hSw; (try dsimp only at hSw); go_simp; (try with_reducible rfl))
                  simp only [Act.put, List.getElem_toArray, List.getElem_cons_succ, List.getElem_cons_zero, List.setIfInBounds_toArray, List.set_cons_zero, List.set_cons_succ, Act.eval, Array.getD_eq_getD_getElem?, List.getElem?_toArray, List.getElem?_cons_succ, List.getElem?_cons_zero, Option.getD_some]
                  refine wpAnyH_take (i := 22) (v := .agg (List.toArray LK)) rfl (by kernel_rfl) (by kernel_rfl) (by kernel_rfl) (fun _ _ _ h => h) (yieldsIf_load_mid (by kernel_rfl) _ (.tmp 88) (by kernel_rfl) kb (off + i * 32) (by kernel_rfl) LK _ (fun W hW => Bl.range hW HKB.out HKR.out) undD rfl HKi.out) (by assumption) ?_
                  simp only [Act.put, List.getElem_toArray, List.getElem_cons_succ, List.getElem_cons_zero, List.setIfInBounds_toArray, List.set_cons_zero, List.set_cons_succ, Act.eval, Array.getD_eq_getD_getElem?, List.getElem?_toArray, List.getElem?_cons_succ, List.getElem?_cons_zero, Option.getD_some]
                  refine wpAnyH_ready (rs := [17]) (by kernel_rfl) (by simp) ?_
                  refine AllReadyH.cons (o := _) rfl (fun K hK => ?_) AllReadyH.nil
                  refine so_bs (by kernel_rfl) 22 tH 2 _ rfl [LB, LA] (by simp only [List.map_toArray, List.map_cons, List.map_nil]; rfl) rfl 64 (len2 HLBl HLAl) LBA HLBA.out 64 (.agg zH) undHs infoH3 (by omega) (by omega) (by omega) (by omega) (hK.out _ _ ((((HB14).al (.cells LBA.toArray tH))).bl) (fun hHeld => ?_))
                  clear hK K
                  (try simp only [Act.put, List.getElem_toArray, List.getElem_cons_succ, List.getElem_cons_zero, List.setIfInBounds_toArray, List.set_cons_zero, List.set_cons_succ, Act.eval, Array.getD_eq_getD_getElem?, List.getElem?_toArray, List.getElem?_cons_succ, List.getElem?_cons_zero, Option.getD_some])
                  refine wpAnyH_ready (rs := [18]) (by kernel_rfl) (by simp) ?_
                  refine AllReadyH.cons (o := _) rfl (fun K hK => ?_) AllReadyH.nil
                  go_simp
                  go_at_call 10; refine (CJ8.out _ _ ((((HB14).al (.cells LBA.toArray tH))).get (by simp))).mono ?_; rintro e V23 ⟨rfl, hV23⟩; have HB23 := (((HB14).al (.cells LBA.toArray tH))).step hV23; clear hV23
                  (try clear hHeld)
                  refine hK.out _ _ ((HB23).bl) (fun hHeld => ?_)
                  clear hK K
                  (try simp only [Act.put, List.getElem_toArray, List.getElem_cons_succ, List.getElem_cons_zero, List.setIfInBounds_toArray, List.set_cons_zero, List.set_cons_succ, Act.eval, Array.getD_eq_getD_getElem?, List.getElem?_toArray, List.getElem?_cons_succ, List.getElem?_cons_zero, Option.getD_some])
                  refine wpAnyH_ready (rs := [23]) (by kernel_rfl) (by simp) ?_
                  refine AllReadyH.cons (o := _) rfl (fun K hK => ?_) AllReadyH.nil
                  go_simp
                  go_at_call 15; refine (C3'.out _).mono ?_; rintro e V24 ⟨rfl, hV24⟩; have HB24 := (HB23).step hV24; clear hV24
                  (try clear hHeld)
                  refine hK.out _ _ ((HB24).bl) (fun hHeld => ?_)
                  clear hK K
                  (try simp only [Act.put, List.getElem_toArray, List.getElem_cons_succ, List.getElem_cons_zero, List.setIfInBounds_toArray, List.set_cons_zero, List.set_cons_succ, Act.eval, Array.getD_eq_getD_getElem?, List.getElem?_toArray, List.getElem?_cons_succ, List.getElem?_cons_zero, Option.getD_some])
                  refine wpAnyH_take (i := 24) (v := ?_) rfl (by kernel_rfl) (by kernel_rfl) (by kernel_rfl) (fun _ _ _ h => h) (Or.inl ⟨by kernel_rfl, ?_⟩) (by assumption) ?_
                  rotate_left
                  · (intro w hSw; (try dsimp only at hSw); go_simp; (try with_reducible rfl))
                  simp only [Act.put, List.getElem_toArray, List.getElem_cons_succ, List.getElem_cons_zero, List.setIfInBounds_toArray, List.set_cons_zero, List.set_cons_succ, Act.eval, Array.getD_eq_getD_getElem?, List.getElem?_toArray, List.getElem?_cons_succ, List.getElem?_cons_zero, Option.getD_some]
                  refine wpAnyH_take (i := 25) (v := ?_) rfl (by kernel_rfl) (by kernel_rfl) (by kernel_rfl) (fun _ _ _ h => h) (Or.inl ⟨by kernel_rfl, ?_⟩) (by assumption) ?_
                  rotate_left
                  · (intro w hSw; (try dsimp only at hSw); go_simp; (try with_reducible rfl))
                  simp only [Act.put, List.getElem_toArray, List.getElem_cons_succ, List.getElem_cons_zero, List.setIfInBounds_toArray, List.set_cons_zero, List.set_cons_succ, Act.eval, Array.getD_eq_getD_getElem?, List.getElem?_toArray, List.getElem?_cons_succ, List.getElem?_cons_zero, Option.getD_some]
                  refine wpAnyH_take (i := 26) (v := ?_) rfl (by kernel_rfl) (by kernel_rfl) (by kernel_rfl) (fun _ _ _ h => h) (Or.inl ⟨by kernel_rfl, ?_⟩) (by assumption) ?_
                  rotate_left
                  · (intro w hSw; (try dsimp only at hSw); go_simp; (try with_reducible rfl))
                  simp only [Act.put, List.getElem_toArray, List.getElem_cons_succ, List.getElem_cons_zero, List.setIfInBounds_toArray, List.set_cons_zero, List.set_cons_succ, Act.eval, Array.getD_eq_getD_getElem?, List.getElem?_toArray, List.getElem?_cons_succ, List.getElem?_cons_zero, Option.getD_some]
                  refine wpAnyH_done (by kernel_rfl) ?_ _
                  refine NoPanic.normal ?_
                  go_wp2_with fail
                  go_meet
                  exact ⟨rfl, (HB24).bl⟩
              case rest =>
                obtain ⟨rfl, hb⟩ := hcut
                go_wp2_with fail
                go_roundw
                case rel => exact ⟨i + 1, by omega, by go_num, HB8.out.step hb⟩
                case measure => simp [intOf]; omega
            · obtain rfl : i = l.length := by omega
              go_upto_region 15 with fail
              refine wp_region_noPanic ?_
              refine wp_region_held_drew (S := fun U => Bl wr U) (by kernel_rfl) ((((HF.start wr).drew)).bl) (fun hHeld => ?_)
              refine wpAnyH_take (i := 0) (v := .agg (List.toArray LX)) rfl (by kernel_rfl) (by kernel_rfl) (by kernel_rfl) (fun _ _ _ h => h) (yieldsIf_load_mid (by kernel_rfl) _ (.tmp 8) (by kernel_rfl) g8 0 (by kernel_rfl) LX _ (fun W hW => range_of (Bl.heap hW RX7.out)) undH rfl HLXi.out) (by assumption) ?_
              simp only [Act.put, List.getElem_toArray, List.getElem_cons_succ, List.getElem_cons_zero, List.setIfInBounds_toArray, List.set_cons_zero, List.set_cons_succ, Act.eval, Array.getD_eq_getD_getElem?, List.getElem?_toArray, List.getElem?_cons_succ, List.getElem?_cons_zero, Option.getD_some]
              refine wpAnyH_take (i := 2) (v := .agg (List.toArray LA)) rfl (by kernel_rfl) (by kernel_rfl) (by kernel_rfl) (fun _ _ _ h => h) (yieldsIf_load_mid (by kernel_rfl) _ (.tmp 3) (by kernel_rfl) W.heap.size 0 (by kernel_rfl) LA _ (fun W hW => range_of (Bl.heap hW RA7.out)) undH rfl HLAi.out) (by assumption) ?_
              simp only [Act.put, List.getElem_toArray, List.getElem_cons_succ, List.getElem_cons_zero, List.setIfInBounds_toArray, List.set_cons_zero, List.set_cons_succ, Act.eval, Array.getD_eq_getD_getElem?, List.getElem?_toArray, List.getElem?_cons_succ, List.getElem?_cons_zero, Option.getD_some]
              refine wpAnyH_ready (rs := [1]) (by kernel_rfl) (by simp) ?_
              refine AllReadyH.cons (o := _) rfl (fun K hK => ?_) AllReadyH.nil
              go_simp
              go_at_call 17; refine (CN1.out _).mono ?_; rintro e V3 ⟨rfl, hV3⟩; have HB3 := (((HF.start wr).drew)).step hV3; clear hV3
              (try clear hHeld)
              refine hK.out _ _ ((HB3).bl) (fun hHeld => ?_)
              clear hK K
              (try simp only [Act.put, List.getElem_toArray, List.getElem_cons_succ, List.getElem_cons_zero, List.setIfInBounds_toArray, List.set_cons_zero, List.set_cons_succ, Act.eval, Array.getD_eq_getD_getElem?, List.getElem?_toArray, List.getElem?_cons_succ, List.getElem?_cons_zero, Option.getD_some])
              refine wpAnyH_ready (rs := [3]) (by kernel_rfl) (by simp) ?_
              refine AllReadyH.cons (o := _) rfl (fun K hK => ?_) AllReadyH.nil
              go_simp
              go_at_call 17; refine (CN2.out _).mono ?_; rintro e V4 ⟨rfl, hV4⟩; have HB4 := (HB3).step hV4; clear hV4
              (try clear hHeld)
              refine hK.out _ _ ((HB4).bl) (fun hHeld => ?_)
              clear hK K
              (try simp only [Act.put, List.getElem_toArray, List.getElem_cons_succ, List.getElem_cons_zero, List.setIfInBounds_toArray, List.set_cons_zero, List.set_cons_succ, Act.eval, Array.getD_eq_getD_getElem?, List.getElem?_toArray, List.getElem?_cons_succ, List.getElem?_cons_zero, Option.getD_some])
              refine wpAnyH_take (i := 4) (v := ?_) rfl (by kernel_rfl) (by kernel_rfl) (by kernel_rfl) (fun _ _ _ h => h) (Or.inl ⟨by kernel_rfl, ?_⟩) (by assumption) ?_
              rotate_left
              · (intro w hSw; (try dsimp only at hSw); go_simp; (try with_reducible rfl))
              simp only [Act.put, List.getElem_toArray, List.getElem_cons_succ, List.getElem_cons_zero, List.setIfInBounds_toArray, List.set_cons_zero, List.set_cons_succ, Act.eval, Array.getD_eq_getD_getElem?, List.getElem?_toArray, List.getElem?_cons_succ, List.getElem?_cons_zero, Option.getD_some]
              refine wpAnyH_take (i := 5) rfl (by kernel_rfl) (by kernel_rfl) (by kernel_rfl) (fun _ _ _ h => h) (yi_move (by kernel_rfl) rfl rfl) (by assumption) ?_
              simp only [Act.put, List.getElem_toArray, List.getElem_cons_succ, List.getElem_cons_zero, List.setIfInBounds_toArray, List.set_cons_zero, List.set_cons_succ, Act.eval, Array.getD_eq_getD_getElem?, List.getElem?_toArray, List.getElem?_cons_succ, List.getElem?_cons_zero, Option.getD_some]
              refine wpAnyH_take (i := 6) (v := .agg (List.toArray LX)) rfl (by kernel_rfl) (by kernel_rfl) (by kernel_rfl) (fun _ _ _ h => h) (yieldsIf_load_mid (by kernel_rfl) _ (.tmp 8) (by kernel_rfl) g8 0 (by kernel_rfl) LX _ (fun W hW => range_of (Bl.heap hW RX7.out)) undH rfl HLXi.out) (by assumption) ?_
              simp only [Act.put, List.getElem_toArray, List.getElem_cons_succ, List.getElem_cons_zero, List.setIfInBounds_toArray, List.set_cons_zero, List.set_cons_succ, Act.eval, Array.getD_eq_getD_getElem?, List.getElem?_toArray, List.getElem?_cons_succ, List.getElem?_cons_zero, Option.getD_some]
              refine wpAnyH_take (i := 8) (v := .agg (List.toArray LB)) rfl (by kernel_rfl) (by kernel_rfl) (by kernel_rfl) (fun _ _ _ h => h) (yieldsIf_load_mid (by kernel_rfl) _ (.tmp 4) (by kernel_rfl) (W.heap.size + 1) 0 (by kernel_rfl) LB _ (fun W hW => range_of (Bl.heap hW RB7.out)) undH rfl HLBi.out) (by assumption) ?_
              simp only [Act.put, List.getElem_toArray, List.getElem_cons_succ, List.getElem_cons_zero, List.setIfInBounds_toArray, List.set_cons_zero, List.set_cons_succ, Act.eval, Array.getD_eq_getD_getElem?, List.getElem?_toArray, List.getElem?_cons_succ, List.getElem?_cons_zero, Option.getD_some]
              refine wpAnyH_ready (rs := [7]) (by kernel_rfl) (by simp) ?_
              refine AllReadyH.cons (o := _) rfl (fun K hK => ?_) AllReadyH.nil
              go_simp
              go_at_call 17; refine (CN1.out _).mono ?_; rintro e V9 ⟨rfl, hV9⟩; have HB9 := (HB4).step hV9; clear hV9
              (try clear hHeld)
              refine hK.out _ _ ((HB9).bl) (fun hHeld => ?_)
              clear hK K
              (try simp only [Act.put, List.getElem_toArray, List.getElem_cons_succ, List.getElem_cons_zero, List.setIfInBounds_toArray, List.set_cons_zero, List.set_cons_succ, Act.eval, Array.getD_eq_getD_getElem?, List.getElem?_toArray, List.getElem?_cons_succ, List.getElem?_cons_zero, Option.getD_some])
              refine wpAnyH_ready (rs := [9]) (by kernel_rfl) (by simp) ?_
              refine AllReadyH.cons (o := _) rfl (fun K hK => ?_) AllReadyH.nil
              go_simp
              go_at_call 17; refine (CN3.out _).mono ?_; rintro e V10 ⟨rfl, hV10⟩; have HB10 := (HB9).step hV10; clear hV10
              (try clear hHeld)
              refine hK.out _ _ ((HB10).bl) (fun hHeld => ?_)
              clear hK K
              (try simp only [Act.put, List.getElem_toArray, List.getElem_cons_succ, List.getElem_cons_zero, List.setIfInBounds_toArray, List.set_cons_zero, List.set_cons_succ, Act.eval, Array.getD_eq_getD_getElem?, List.getElem?_toArray, List.getElem?_cons_succ, List.getElem?_cons_zero, Option.getD_some])
              refine wpAnyH_take (i := 10) (v := ?_) rfl (by kernel_rfl) (by kernel_rfl) (by kernel_rfl) (fun _ _ _ h => h) (Or.inl ⟨by kernel_rfl, ?_⟩) (by assumption) ?_
              rotate_left
              · (intro w hSw; (try dsimp only at hSw); go_simp; (try with_reducible rfl))
              simp only [Act.put, List.getElem_toArray, List.getElem_cons_succ, List.getElem_cons_zero, List.setIfInBounds_toArray, List.set_cons_zero, List.set_cons_succ, Act.eval, Array.getD_eq_getD_getElem?, List.getElem?_toArray, List.getElem?_cons_succ, List.getElem?_cons_zero, Option.getD_some]
              refine wpAnyH_take (i := 11) (v := ?_) rfl (by kernel_rfl) (by kernel_rfl) (by kernel_rfl) (fun _ _ _ h => h) (Or.inl ⟨by kernel_rfl, ?_⟩) (by assumption) ?_
              rotate_left
              · (intro w hSw; (try dsimp only at hSw); go_simp; (try with_reducible rfl))
              simp only [Act.put, List.getElem_toArray, List.getElem_cons_succ, List.getElem_cons_zero, List.setIfInBounds_toArray, List.set_cons_zero, List.set_cons_succ, Act.eval, Array.getD_eq_getD_getElem?, List.getElem?_toArray, List.getElem?_cons_succ, List.getElem?_cons_zero, Option.getD_some]
              refine wpAnyH_take (i := 12) rfl (by kernel_rfl) (by kernel_rfl) (by kernel_rfl) (fun _ _ _ h => h) (yi_assign (by kernel_rfl) rfl rfl) (by assumption) ?_
              simp only [Act.put, List.getElem_toArray, List.getElem_cons_succ, List.getElem_cons_zero, List.setIfInBounds_toArray, List.set_cons_zero, List.set_cons_succ, Act.eval, Array.getD_eq_getD_getElem?, List.getElem?_toArray, List.getElem?_cons_succ, List.getElem?_cons_zero, Option.getD_some]
              refine wpAnyH_done (by kernel_rfl) ?_ _
              refine NoPanic.normal ?_
              go_wp2_with fail
              go_ret
              exact ⟨rfl, HB7.out.step (HB10).bl⟩
  · go_enter Try.func8, Try.ntmps8
    go_wp2_with (first
      | go_big_skip
      | (go_at_call 9; refine (C0.out _).mono ?_; clear C0; rintro e w1 ⟨rfl, hb1⟩; have HB1 : Hid (Bl W w1) := HB0.out.step hb1; clear hb1))
    go_ret
    exact ⟨rfl, HB1.out⟩
end Go.Proofs.Ytokicaacllaijaa
