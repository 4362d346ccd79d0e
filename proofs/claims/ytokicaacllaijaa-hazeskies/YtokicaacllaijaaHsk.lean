/- HazeSkies' walk. -/
import Derived.Test.YtokicaacllaijaaHzQ
namespace Go.Proofs.Ytokicaacllaijaa
open Go.RowKit
set_option linter.unusedVariables false
set_option linter.unusedSimpArgs false
attribute [local go_sem ↓] zeroH zeroD zeroA

set_option maxRecDepth 8000 in
set_option maxHeartbeats 4000000 in
theorem hazeSkies_walk (W : World) (l : List Az) (sl : Option Addr) (c : Nat) (hv : RS lyA W sl l) (hn : l.length ≤ maxLen) (hl : ∀ t ∈ l, okA t) : Calls Try.prog 4 #[.slice sl l.length c] W fun e w' => e = .returned (.bool true) ∧ Bl W w' := by
  unfold maxLen at hn
  have C0 : Hid (∀ U, Calls Try.prog 9 #[] U fun e w' => e = .returned (.bool true) ∧ Bl U w') := awake_14
  have HV : Hid (RS lyA W sl l) := hv
  have HOK : Hid (∀ t ∈ l, okA t) := hl
  have CN : Hid (∀ U, Calls Try.prog 19 #[] U fun e w' => e = .returned (.pointer (some ⟨U.heap.size, 0, none⟩)) ∧ SKY U U.heap.size sk0 w') := New_x
  clear hv hl
  go_enter Try.func4, Try.ntmps4
  go_wp2_with (first
    | go_big_skip
    | (go_at_call 9; refine (C0.out _).mono ?_; clear C0; rintro e w1 ⟨rfl, hb1⟩; have HB1 := hidI hb1; clear hb1)
    | (go_at_call 19; refine (CN.out _).mono ?_; clear CN; rintro e w2 ⟨rfl, HS⟩)
    | (refine wl_build rfl tRs #[] rfl [] (by simp) rkZ.toArray builtRs ?_))
  have HSS : SKS w1 w1.heap.size w2.heap.size sk0 sk0 (w2.alloc (.cells rkZ.toArray tRs)) := ⟨HS.grow ((Bl.refl w2).alloc _), ⟨HS.bl.step rsk_new.bl, Below.size HS.bl, rsk_new.ex⟩⟩
  obtain ⟨p, hp⟩ : ∃ p, p = w1.heap.size := ⟨_, rfl⟩
  obtain ⟨q, hq⟩ : ∃ q, q = w2.heap.size := ⟨_, rfl⟩
  have HGE : Hid (w1.heap.size ≤ p) := by show _ ≤ _; omega
  have HGQ : Hid (w1.heap.size ≤ q) := by show _ ≤ _; rw [hq]; exact Below.size HS.bl
  rw [← hp, ← hq] at HSS
  rw [← hp, ← hq]
  clear hp HS
  go_loopw [5] (fun u5 wr => ∃ (i : Nat) (f : SkF), i ≤ l.length ∧ i ≤ 100 ∧ u5 = .int .i64 (i : Int) ∧ SKS w1 p q f f wr ∧ OKF f) (fun u5 _ => l.length - (intOf u5).toNat)
  case atStart => exact ⟨0, sk0, by omega, by omega, rfl, by rw [hq] at HSS ⊢; exact HSS, okf0⟩
  case round =>
    clear HSS hq
    obtain ⟨i, f, hi, hi2, rfl, hS, hO⟩ := hrel
    have HS := hidI hS
    have HO := hidI hO
    have HBW : Hid (Bl W wr) := HB1.out.step hS.sky.bl
    clear hS hO
    by_cases hlt : i < l.length
    · by_cases h100 : i < 100
      · obtain ⟨x, hx⟩ : ∃ x, l[i]? = some x := ⟨l[i], List.getElem?_eq_getElem hlt⟩
        obtain ⟨ab, off, rfl, hab, har⟩ := (HV.out.bl HBW.out) i x hx
        have HAR : wr.rangeAt ab (off + i * 99) (azC x) := har
        obtain ⟨hk1, hk2, hk3⟩ := HOK.out x (List.mem_of_getElem? hx)
        have HN3 := hidI hk3
        have HAI : Hid ((Try.prog.info? tA).map (·.size) = some (azC x).length) := by show _ = _; rw [azC_len]; exact infoA
        have HAL : Hid ((azC x).length = 99) := azC_len x
        have HAO : Hid (∀ u ∈ azC x, u.oneCell' = true) := azC_one x
        clear hk1 hk2 hk3 hx hab har
        go_upto_block 2 with (first
          | (refine wl_midG (by rfl) tA _ rfl ab (off + i * 99) rfl (azC x) _ HAR Try.underlying47 rfl HAI.out ?_; clear HAR)
          | (refine wl_rowU rfl tA _ _ rfl wr.heap.size (azC x) rfl rfl tA zA (heap_alloc_new wr _) 99 infoA HAL.out zA_size HAO.out ?_; intro U1 hU1 hO1 hs1; have hb1 : Bl wr U1 := hO1.bl ((Bl.refl wr).alloc _) (Nat.le_refl _); have HX1 := hidI hU1; have HS1 := hidI (HS.out.grow hb1); have HNP : Hid (wr.heap.size ≠ p) := (by intro e; obtain ⟨_, _, L, _, h4, _⟩ := HS.out.sky; have := lt_heap h4; omega); have HNQ : Hid (wr.heap.size ≠ q) := (by intro e; obtain ⟨_, _, CL, R, h3, _⟩ := HS.out.rsk; have := lt_heap h3; omega); have HBU : Hid (Bl W U1) := HBW.out.step hb1; have hk0 := az_0 hU1; clear hU1 hO1 hs1 hb1 HS HBW))
        have HHI : Hid ((Try.prog.info? tH).map (·.size) = some (hC x.h).length) := infoH' x.h
        have HKI : Hid ((Try.prog.info? tD).map (·.size) = some (dC x.k).length) := infoD' x.k
        have c1 := az_1 HX1.out
        have c98 := az_98 HX1.out
        have R2 := az_h HX1.out
        clear hk0
        obtain ⟨g, hg⟩ : ∃ g, g = wr.heap.size := ⟨_, rfl⟩
        rw [← hg] at HX1 HNP HNQ c1 c98 R2 ⊢
        clear hg
        obtain ⟨kd, hkd⟩ : ∃ z, x.kind = z := ⟨_, rfl⟩
        obtain ⟨nd, hnd⟩ : ∃ z, x.node = z := ⟨_, rfl⟩
        obtain ⟨tm, htm⟩ : ∃ z, x.now = z := ⟨_, rfl⟩
        have HND := hidI hnd
        have HTM := hidI htm
        rw [hkd]
        rw [hnd] at c1
        rw [htm] at c98
        rw [htm] at HN3
        clear hnd htm hkd
        go_cut [27] (fun s27 wx => ∃ f', SKS w1 p q f' f' wx ∧ OKF f' ∧ wx.heap[g]? = some (.cells (azC x).toArray tA (0, 0)))
        case first =>
          by_cases e1 : kd = 1
          · go_wp2_with (first
              | (refine wl_midG (by rfl) tH _ rfl g 2 rfl (hC x.h) _ R2 undH rfl HHI.out ?_)
              | (go_at_call 20; refine (HS1.out.put nd tm x.h).mono ?_; rintro e U2 ⟨rfl, hS2, hO2⟩; have HX2 := hidI (hO2.hp HNP.out HX1.out); have HS2 := hidI hS2; clear c1 c98 R2 hS2 hO2 HX1 HS1; have c1 := az_1 HX2.out; have c98 := az_98 HX2.out; have R2 := az_h HX2.out; rw [HND.out] at c1; rw [HTM.out] at c98)
              | (go_at_call 21; refine (HS2.out.rput nd tm x.h).mono ?_; rintro e U3 ⟨rfl, hS3, hO3⟩; have HX3 := hidI (hO3.hp HNQ.out HX2.out); have HS3 := hidI hS3; clear c1 c98 R2 hS3 hO3 HX2 HS2))
            go_meet
            exact ⟨_, HS3.out, HO.out.pa _ _ _, HX3.out⟩
          · by_cases e2 : kd = 2
            · go_wp2_with (first
                | (go_at_call 22; refine (HS1.out.drop nd).mono ?_; rintro e U2 ⟨rfl, hS2, hO2⟩; have HX2 := hidI (hO2.hp HNP.out HX1.out); have HS2 := hidI hS2; clear c1 c98 R2 hS2 hO2 HX1 HS1; have c1 := az_1 HX2.out; rw [HND.out] at c1)
                | (go_at_call 23; refine (HS2.out.rdrop nd).mono ?_; rintro e U3 ⟨rfl, hS3, hO3⟩; have HX3 := hidI (hO3.hp HNQ.out HX2.out); have HS3 := hidI hS3; clear c1 hS3 hO3 HX2 HS2))
              go_meet
              exact ⟨_, HS3.out, HO.out.da _, HX3.out⟩
            · go_wp2_with fail
              go_meet
              exact ⟨f, HS1.out, HO.out, HX1.out⟩
        case rest =>
          obtain ⟨f', hS, hO, hX⟩ := hcut
          obtain ⟨w5, hw5⟩ : ∃ w, w = wc := ⟨_, rfl⟩
          subst hw5
          have HS5 := hidI hS
          have HO5 := hidI hO
          have HX5 := hidI hX
          clear c1 c98 R2 HS1 HX1 HO hS hO hX HHI HNP HNQ HBU HV HOK
          obtain ⟨LM, hLM⟩ : ∃ L, mayN f' x.k tm 7 = L := ⟨_, rfl⟩
          have HLM : LM.length ≤ 7 := by rw [← hLM]; exact mayN_len f' x.k tm 7
          have CM1 : Hid (∀ U, Bl w5 U → Calls Try.prog 25 #[.pointer (some ⟨p, 0, none⟩), .agg (dC x.k).toArray, .int .i64 tm] U fun e w' => ∃ a c, e = .returned (.slice a LM.length c) ∧ RS lyI w' a LM ∧ Bl U w') := fun U hU => by
            have := May_x (HS5.out.grow hU).sky x.k tm HN3.out HO5.out.t
            rw [hLM] at this; exact this
          have CM2 : Hid (∀ U, Bl w5 U → Calls Try.prog 26 #[.pointer (some ⟨q, 0, none⟩), .agg (dC x.k).toArray, .int .i64 tm] U fun e w' => ∃ a c, e = .returned (.slice a LM.length c) ∧ RS lyI w' a LM ∧ Bl U w') := fun U hU => by
            have := rMay_x (HS5.out.grow hU).rsk x.k tm HN3.out HO5.out.z
            rw [hLM] at this; exact this
          have CI : Hid (∀ a1 c1 a2 c2 U, RS lyI U a1 LM → RS lyI U a2 LM → Calls Try.prog 24 #[.slice a1 LM.length c1, .slice a2 LM.length c2] U fun e w' => e = .returned (.bool true) ∧ ∃ n, w' = U.drewN n) := fun a1 c1 a2 c2 U h1 h2 => by
            have := Ints_x LM LM a1 a2 c1 c2 U h1 h2 (by unfold maxLen; omega) (by unfold maxLen; omega)
            rw [decide_eq_true rfl] at this; exact this
          have HC8 : Hid (∀ U, Bl w5 U → U.cell? ⟨g, 98, none⟩ = some (.int .i64 tm)) := fun U hU => by
            have := az_98 (hU.heap HX5.out); rw [HTM.out] at this; exact this
          have HRK : Hid (∀ U, Bl w5 U → U.rangeAt g 66 (dC x.k)) := fun U hU => az_k (hU.heap HX5.out)
          clear hLM HN3 HND HTM
          generalize dC x.k = LK at *
          go_upto_region 16 with fail
          refine wp_region_noPanic ?_
          refine wp_region_held_drew (S := fun U => Bl w5 U) (by kernel_rfl) ((((Bl.refl w5).drew))) (fun hHeld => ?_)
          refine wpAnyH_take (i := 0) rfl (by kernel_rfl) (by kernel_rfl) (by kernel_rfl) (fun _ _ _ h => h) (yi_move (by kernel_rfl) rfl rfl) (by assumption) ?_
          simp only [Act.put, List.getElem_toArray, List.getElem_cons_succ, List.getElem_cons_zero, List.setIfInBounds_toArray, List.set_cons_zero, List.set_cons_succ, Act.eval, Array.getD_eq_getD_getElem?, List.getElem?_toArray, List.getElem?_cons_succ, List.getElem?_cons_zero, Option.getD_some]
          refine wpAnyH_take (i := 1) (v := ?_) rfl (by kernel_rfl) (by kernel_rfl) (by kernel_rfl) (fun _ _ _ h => h) (Or.inl ⟨by kernel_rfl, ?_⟩) (by assumption) ?_
          rotate_left
          · (intro w hSw; (try dsimp only at hSw); go_simp; (try with_reducible rfl))
          simp only [Act.put, List.getElem_toArray, List.getElem_cons_succ, List.getElem_cons_zero, List.setIfInBounds_toArray, List.set_cons_zero, List.set_cons_succ, Act.eval, Array.getD_eq_getD_getElem?, List.getElem?_toArray, List.getElem?_cons_succ, List.getElem?_cons_zero, Option.getD_some]
          refine wpAnyH_take (i := 2) (v := .agg (List.toArray LK)) rfl (by kernel_rfl) (by kernel_rfl) (by kernel_rfl) (fun _ _ _ h => h) (yieldsIf_load_mid (by kernel_rfl) _ (.tmp 57) (by kernel_rfl) g 66 (by kernel_rfl) LK _ (fun W hW => HRK.out _ hW) undD rfl HKI.out) (by assumption) ?_
          simp only [Act.put, List.getElem_toArray, List.getElem_cons_succ, List.getElem_cons_zero, List.setIfInBounds_toArray, List.set_cons_zero, List.set_cons_succ, Act.eval, Array.getD_eq_getD_getElem?, List.getElem?_toArray, List.getElem?_cons_succ, List.getElem?_cons_zero, Option.getD_some]
          refine wpAnyH_take (i := 3) (v := ?_) rfl (by kernel_rfl) (by kernel_rfl) (by kernel_rfl) (fun _ _ _ h => h) (Or.inl ⟨by kernel_rfl, ?_⟩) (by assumption) ?_
          rotate_left
          · (intro w hSw; (try dsimp only at hSw); go_simp; (try with_reducible rfl))
          simp only [Act.put, List.getElem_toArray, List.getElem_cons_succ, List.getElem_cons_zero, List.setIfInBounds_toArray, List.set_cons_zero, List.set_cons_succ, Act.eval, Array.getD_eq_getD_getElem?, List.getElem?_toArray, List.getElem?_cons_succ, List.getElem?_cons_zero, Option.getD_some]
          refine wpAnyH_take (i := 4) (v := ?_) rfl (by kernel_rfl) (by kernel_rfl) (by kernel_rfl) (fun _ _ _ h => h) (Or.inl ⟨by kernel_rfl, ?_⟩) (by assumption) ?_
          rotate_left
          · (intro w hSw; have hcc := HC8.out w hSw; go_simp; (try with_reducible rfl))
          simp only [Act.put, List.getElem_toArray, List.getElem_cons_succ, List.getElem_cons_zero, List.setIfInBounds_toArray, List.set_cons_zero, List.set_cons_succ, Act.eval, Array.getD_eq_getD_getElem?, List.getElem?_toArray, List.getElem?_cons_succ, List.getElem?_cons_zero, Option.getD_some]
          refine wpAnyH_take (i := 6) rfl (by kernel_rfl) (by kernel_rfl) (by kernel_rfl) (fun _ _ _ h => h) (yi_move (by kernel_rfl) rfl rfl) (by assumption) ?_
          simp only [Act.put, List.getElem_toArray, List.getElem_cons_succ, List.getElem_cons_zero, List.setIfInBounds_toArray, List.set_cons_zero, List.set_cons_succ, Act.eval, Array.getD_eq_getD_getElem?, List.getElem?_toArray, List.getElem?_cons_succ, List.getElem?_cons_zero, Option.getD_some]
          refine wpAnyH_take (i := 7) (v := ?_) rfl (by kernel_rfl) (by kernel_rfl) (by kernel_rfl) (fun _ _ _ h => h) (Or.inl ⟨by kernel_rfl, ?_⟩) (by assumption) ?_
          rotate_left
          · (intro w hSw; (try dsimp only at hSw); go_simp; (try with_reducible rfl))
          simp only [Act.put, List.getElem_toArray, List.getElem_cons_succ, List.getElem_cons_zero, List.setIfInBounds_toArray, List.set_cons_zero, List.set_cons_succ, Act.eval, Array.getD_eq_getD_getElem?, List.getElem?_toArray, List.getElem?_cons_succ, List.getElem?_cons_zero, Option.getD_some]
          refine wpAnyH_take (i := 8) (v := .agg (List.toArray LK)) rfl (by kernel_rfl) (by kernel_rfl) (by kernel_rfl) (fun _ _ _ h => h) (yieldsIf_load_mid (by kernel_rfl) _ (.tmp 63) (by kernel_rfl) g 66 (by kernel_rfl) LK _ (fun W hW => HRK.out _ hW) undD rfl HKI.out) (by assumption) ?_
          simp only [Act.put, List.getElem_toArray, List.getElem_cons_succ, List.getElem_cons_zero, List.setIfInBounds_toArray, List.set_cons_zero, List.set_cons_succ, Act.eval, Array.getD_eq_getD_getElem?, List.getElem?_toArray, List.getElem?_cons_succ, List.getElem?_cons_zero, Option.getD_some]
          refine wpAnyH_take (i := 9) (v := ?_) rfl (by kernel_rfl) (by kernel_rfl) (by kernel_rfl) (fun _ _ _ h => h) (Or.inl ⟨by kernel_rfl, ?_⟩) (by assumption) ?_
          rotate_left
          · (intro w hSw; (try dsimp only at hSw); go_simp; (try with_reducible rfl))
          simp only [Act.put, List.getElem_toArray, List.getElem_cons_succ, List.getElem_cons_zero, List.setIfInBounds_toArray, List.set_cons_zero, List.set_cons_succ, Act.eval, Array.getD_eq_getD_getElem?, List.getElem?_toArray, List.getElem?_cons_succ, List.getElem?_cons_zero, Option.getD_some]
          refine wpAnyH_take (i := 10) (v := ?_) rfl (by kernel_rfl) (by kernel_rfl) (by kernel_rfl) (fun _ _ _ h => h) (Or.inl ⟨by kernel_rfl, ?_⟩) (by assumption) ?_
          rotate_left
          · (intro w hSw; have hcc := HC8.out w hSw; go_simp; (try with_reducible rfl))
          simp only [Act.put, List.getElem_toArray, List.getElem_cons_succ, List.getElem_cons_zero, List.setIfInBounds_toArray, List.set_cons_zero, List.set_cons_succ, Act.eval, Array.getD_eq_getD_getElem?, List.getElem?_toArray, List.getElem?_cons_succ, List.getElem?_cons_zero, Option.getD_some]
          refine wpAnyH_ready (rs := [5]) (by kernel_rfl) (by simp) ?_
          refine AllReadyH.cons (o := _) rfl (fun K hK => ?_) AllReadyH.nil
          go_simp
          go_at_call 25; refine (CM1.out _ (((Bl.refl w5).drew))).mono ?_; rintro e V11 ⟨a1, d1, rfl, hr1, hV11⟩; have HB11 := (((Bl.refl w5).drew)).step hV11; clear hV11
          (try clear hHeld)
          refine hK.out _ _ ((HB11)) (fun hHeld => ?_)
          clear hK K
          (try simp only [Act.put, List.getElem_toArray, List.getElem_cons_succ, List.getElem_cons_zero, List.setIfInBounds_toArray, List.set_cons_zero, List.set_cons_succ, Act.eval, Array.getD_eq_getD_getElem?, List.getElem?_toArray, List.getElem?_cons_succ, List.getElem?_cons_zero, Option.getD_some])
          refine wpAnyH_ready (rs := [11]) (by kernel_rfl) (by simp) ?_
          refine AllReadyH.cons (o := _) rfl (fun K hK => ?_) AllReadyH.nil
          go_simp
          go_at_call 26; refine (CM2.out _ (HB11)).mono ?_; rintro e V12 ⟨a2, d2, rfl, hr2, hV12⟩; have HB12 := (HB11).step hV12; have hr3 := hr1.bl hV12; clear hV12
          (try clear hHeld)
          refine hK.out _ _ ((HB12)) (fun hHeld => ?_)
          clear hK K
          (try simp only [Act.put, List.getElem_toArray, List.getElem_cons_succ, List.getElem_cons_zero, List.setIfInBounds_toArray, List.set_cons_zero, List.set_cons_succ, Act.eval, Array.getD_eq_getD_getElem?, List.getElem?_toArray, List.getElem?_cons_succ, List.getElem?_cons_zero, Option.getD_some])
          refine wpAnyH_ready (rs := [12]) (by kernel_rfl) (by simp) ?_
          refine AllReadyH.cons (o := _) rfl (fun K hK => ?_) AllReadyH.nil
          go_simp
          go_at_call 24; refine (CI.out _ _ _ _ _ hr3 hr2).mono ?_; rintro e V13 ⟨rfl, m, hw⟩; rw [hw]; clear hw; have HB13 := (HB12).drewN m
          (try clear hHeld)
          refine hK.out _ _ ((HB13)) (fun hHeld => ?_)
          clear hK K
          (try simp only [Act.put, List.getElem_toArray, List.getElem_cons_succ, List.getElem_cons_zero, List.setIfInBounds_toArray, List.set_cons_zero, List.set_cons_succ, Act.eval, Array.getD_eq_getD_getElem?, List.getElem?_toArray, List.getElem?_cons_succ, List.getElem?_cons_zero, Option.getD_some])
          refine wpAnyH_take (i := 13) (v := ?_) rfl (by kernel_rfl) (by kernel_rfl) (by kernel_rfl) (fun _ _ _ h => h) (Or.inl ⟨by kernel_rfl, ?_⟩) (by assumption) ?_
          rotate_left
          · (intro w hSw; (try dsimp only at hSw); go_simp; (try with_reducible rfl))
          simp only [Act.put, List.getElem_toArray, List.getElem_cons_succ, List.getElem_cons_zero, List.setIfInBounds_toArray, List.set_cons_zero, List.set_cons_succ, Act.eval, Array.getD_eq_getD_getElem?, List.getElem?_toArray, List.getElem?_cons_succ, List.getElem?_cons_zero, Option.getD_some]
          refine wpAnyH_done (by kernel_rfl) ?_ _
          refine NoPanic.normal ?_
          go_wp2_with fail
          go_roundw
          case rel => exact ⟨i + 1, f', by omega, by omega, by go_num, HS5.out.grow (HB13), HO5.out⟩
          case measure => simp [intOf]; omega
      · have h1 : i = 100 := by omega
        subst h1
        go_wp2_with go_big_skip
        go_ret
        exact ⟨rfl, HBW.out⟩
    · obtain rfl : i = l.length := by omega
      go_wp2_with go_big_skip
      go_ret
      exact ⟨rfl, HBW.out⟩
end Go.Proofs.Ytokicaacllaijaa
