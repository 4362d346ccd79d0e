/- OvenKeys: the walk. -/
import Derived.Test.YtlblbdfpcaplkaaGreatDoorRK
import Derived.Test.YtlblbdfpcaplkaaGreatDoorRM9
import Derived.Test.YtlblbdfpcaplkaaGreatDoorRR9
import Derived.Test.YtlblbdfpcaplkaaGreatDoorAw9
namespace Go.Proofs.YtlblbdfpcaplkaaGreatDoor
open Go.RowKit
set_option linter.unusedVariables false
set_option linter.unusedSimpArgs false
attribute [local go_sem ↓] zero27 zero35

theorem fit_self9 (k : List UInt8) (r : O.Re) : fitB (recO k r) r = true := by
  have e : (recO k r).key = k := by unfold recO; split <;> rfl
  unfold fitB; rw [e]; simp [e]
set_option maxRecDepth 8000 in
set_option maxHeartbeats 40000000 in
theorem keys_walk (code : List UInt8) (l : List O.Re) (a : Option Addr) (c : Nat) (x : Go.Proofs.YtlblbdfpcaplkaaGreatDoor.V.Rc) {w W : World} (hG : GW w) (hT : Tab w) (HB : Bl w W) (hv : RS lyR W a l) (hn : l.length ≤ 9223372036854775807) (hok : ∀ r ∈ l, -9223372036854775808 ≤ r.1 ∧ r.1 ≤ 9223372036854775807 ∧ r.2.length ≤ 9223372036854775807) (hc : code.length ≤ 9223372036854775807) (hx : Rc32 x) :
    Calls Tryz.prog 4 #[.string (M.bs code), .slice a l.length c, .agg (rv x)] W fun e w' => e = .returned (.bool true) ∧ Bl w w' := by
  have hsz := M.bs_size code
  have HWZ : Hid (Bl W (W.alloc (.cells (rv x) 44))) := (Bl.refl W).alloc _
  have CA : Hid (Calls Tryz.prog 9 #[] (W.alloc (.cells (rv x) 44)) fun e w' => e = .returned (.bool true) ∧ Bl (W.alloc (.cells (rv x) 44)) w') := awake_9 (hG.below (HB.step HWZ.out) hG.z) (hT.below (HB.step HWZ.out)) (Bl.refl _)
  have FIN : Hid (∀ U, Bl (W.alloc (.cells (rv x) 44)) U → Bl w U) := fun U hU => (HB.step HWZ.out).step hU
  have HXB : Hid (∀ U, Bl (W.alloc (.cells (rv x) 44)) U → U.rangeAt W.heap.size 0 (rvL x) ∧ U.rangeAt W.heap.size 0 (x.key.map vb)) := fun U hU => by
    have b0 := heap_alloc_new W (.cells (rv x) 44)
    have u0 := Below.block hU _ (TA.lt_heap b0)
    rw [b0] at u0
    exact ⟨range_part u0 [] (rvL x) [] 0 (by simp [rv]) rfl, range_part u0 [] (x.key.map vb) (.int .i64 x.code :: x.out.map vb) 0 (by simp [rv, rvL]) rfl⟩
  have HV : Hid (∀ U, Bl (W.alloc (.cells (rv x) 44)) U → RS lyR U a l) := fun U hU => (hv.bl HWZ.out).bl hU
  by_cases h1 : 30 < l.length
  · clear hG hT HB
    go_enter Tryz.func4, Tryz.ntmps4
    go_wp2_with (go_at_call 9; refine CA.out.mono ?_; clear CA; rintro e w1 ⟨rfl, H1⟩)
    go_ret
    exact ⟨rfl, FIN.out _ H1⟩
  by_cases h2 : 1000 < code.length
  · clear hG hT HB
    go_enter Tryz.func4, Tryz.ntmps4
    go_wp2_with (go_at_call 9; refine CA.out.mono ?_; clear CA; rintro e w1 ⟨rfl, H1⟩)
    go_ret
    exact ⟨rfl, FIN.out _ H1⟩
  have HO : Hid (∀ r ∈ l, -9223372036854775808 ≤ r.1 ∧ r.1 ≤ 9223372036854775807 ∧ r.2.length ≤ 9223372036854775807) := hok
  have HG : Hid (GW w) := hG
  have HT : Hid (Tab w) := hT
  clear hG hT HB hok hv
  go_enter Tryz.func4, Tryz.ntmps4
  go_wp2_with (go_at_call 9; refine CA.out.mono ?_; clear CA; rintro e w1 ⟨rfl, H1⟩)
  have HW1 : Hid (Bl (W.alloc (.cells (rv x) 44)) w1) := H1
  clear H1
  go_loop [7] (fun u7 => ∃ k : Nat, k ≤ l.length ∧ u7 = .int .i64 k ∧ ∀ i (r : O.Re), i < k → l[i]? = some r → r.2.length ≤ 1000) (fun u7 => l.length - (intOf u7).toNat)
  case atStart => exact ⟨0, Nat.zero_le _, rfl, fun i e hi => by omega⟩
  case round =>
    obtain ⟨k, hk, rfl, hpre⟩ := hrel
    have HP : Hid (∀ i (r : O.Re), i < k → l[i]? = some r → r.2.length ≤ 1000) := hpre
    clear hpre
    by_cases hlt : k < l.length
    · obtain ⟨r, hr⟩ : ∃ r, l[k]? = some r := ⟨l[k], List.getElem?_eq_getElem hlt⟩
      obtain ⟨b, off, rfl, hb, hrg⟩ := HV.out w1 HW1.out k r hr
      have hro := (HO.out r (List.mem_of_getElem? hr)).2.2
      obtain ⟨rc, rb⟩ := r
      simp only at hro
      have q1 : w1.cell? ⟨b, off + k * 2 + 1, none⟩ = some (.string (M.bs rb)) := hrg 1 _ rfl
      have hbs := M.bs_size rb
      by_cases hbig : 1000 < rb.length
      · clear hr hrg
        go_wp2_with fail
        go_ret
        exact ⟨rfl, FIN.out _ HW1.out⟩
      · have HE : Hid (∀ i (r : O.Re), i < k + 1 → l[i]? = some r → r.2.length ≤ 1000) := fun i r hi hx => by
          rcases (by omega : i < k ∨ i = k) with h' | rfl
          · exact HP.out i r h' hx
          · rw [hr] at hx; cases hx; simp only; omega
        clear hr hrg
        go_wp2_with fail
        go_round
        case rel => exact ⟨k + 1, by omega, by go_num, HE.out⟩
        case measure => simp [intOf]; omega
    · obtain rfl : k = l.length := by omega
      have hro : ∀ r ∈ l, ReOk r := fun r hr => by
        obtain ⟨i, hi⟩ := List.mem_iff_getElem?.1 hr
        have h3 := HP.out i r (List.getElem?_eq_some_iff.1 hi).1 hi
        have h4 := HO.out r hr
        exact ⟨h4.1, h4.2.1, by omega⟩
      have hmk := (mk_ok code l).1
      have hkl : (O.key code l).length = 32 := S.sha_length _
      have CM := fun U (hU : Bl (W.alloc (.cells (rv x) 44)) U) => Make_x code l a c HG.out HT.out (FIN.out U hU) (HV.out U hU) (by omega) hro (by omega)
      have CM2 := fun U (hU : Bl (W.alloc (.cells (rv x) 44)) U) => rMake_x code l a c (HV.out U hU) (by omega) hro (by omega)
      have CK := fun U (hU : Bl (W.alloc (.cells (rv x) 44)) U) => Key_x code l a c (HG.out.below (FIN.out U hU) HG.out.z) (Bl.refl U) (HV.out U hU) (by omega) hro (by omega)
      have CK2 := fun U (hU : Bl (W.alloc (.cells (rv x) 44)) U) => rKey_x code l a c (HV.out U hU) (by omega) hro (by omega)
      have CR := fun (k : List UInt8) (hk : k.length = 32) U (hU : Bl (W.alloc (.cells (rv x) 44)) U) => Record_x k (O.mk code l) HG.out (FIN.out U hU) hk hmk
      have CR2 := fun (k : List UInt8) (hk : k.length = 32) U => rRecord_x k (O.mk code l) U hk hmk
      have CF := fun (y : Go.Proofs.YtlblbdfpcaplkaaGreatDoor.V.Rc) (hy : Rc32 y) U (hU : Bl (W.alloc (.cells (rv x) 44)) U) => Fits_x y (O.mk code l) HG.out (FIN.out U hU) hy hmk
      have HRC := recO_ok (k := O.key code l) hkl hmk
      have CR1 := CR (O.key code l) hkl
      have CR2a := CR2 (O.key code l) hkl
      have CR2b := CR2 x.key hx.k
      have CFt := CF (recO (O.key code l) (O.mk code l)) HRC
      have CFx := CF x hx
      have hTl := rv_size HRC
      have hiT : (Tryz.prog.info? 44).map (·.size) = some (rvL (recO (O.key code l) (O.mk code l))).length := by rw [rvL_length HRC]; exact info35
      clear CR CR2 CF
      have hFS := fit_self9 (O.key code l) (O.mk code l)
      have hFX : ∀ U, (Op.equalIn 10000 44 (.agg (rvL x).toArray) (.agg (rv (recO x.key (O.mk code l))))).run Tryz.prog U = .ok (fitB x (O.mk code l)) U := fun U => eqRc x (recO x.key (O.mk code l)) hx (recO_ok hx.k hmk) U
      have hFT : ∀ U, (Op.equalIn 10000 44 (.agg (rvL (recO (O.key code l) (O.mk code l))).toArray) (.agg (rv (recO (O.key code l) (O.mk code l))))).run Tryz.prog U = .ok true U := fun U => by
        have := eqRc (recO (O.key code l) (O.mk code l)) (recO (O.key code l) (O.mk code l)) HRC HRC U
        simpa [rv] using this
      have hFK : ∀ U, (Op.equalIn 10000 42 (.agg ((O.key code l).map vb).toArray) (.agg (dg (O.key code l)))).run Tryz.prog U = .ok true U := fun U => by
        have := eqDg (O.key code l) (O.key code l) hkl hkl U
        simpa [dg] using this
      generalize recO (O.key code l) (O.mk code l) = T at *
      generalize O.key code l = KY at *
      obtain ⟨⟨rc, rb⟩, hR⟩ : ∃ R, O.mk code l = R := ⟨_, rfl⟩
      rw [hR] at CM CM2 CR1 CR2a CR2b CFt CFx hFS hFX hmk
      unfold resV at CM CM2 CR1 CR2a CR2b CFt CFx
      simp only at CM CM2 CR1 CR2a CR2b CFt CFx
      rw [hFS] at CFt
      have hFR : ∀ U, (Op.equalIn 10000 46 (.agg #[.int .i64 rc, .string (M.bs rb)]) (.agg #[.int .i64 rc, .string (M.bs rb)])).run Tryz.prog U = .ok true U := fun U => by
        have := eqRe9 rc rc rb rb U
        simpa using this
      have hzl := rv_size zr32
      have hik : (Tryz.prog.info? 42).map (·.size) = some (KY.map vb).length := by rw [List.length_map, hkl]; exact info27
      have hixk : (Tryz.prog.info? 42).map (·.size) = some (x.key.map vb).length := by rw [List.length_map, hx.k]; exact info27
      have hix : (Tryz.prog.info? 44).map (·.size) = some (rvL x).length := by rw [rvL_length hx]; exact info35
      obtain ⟨fs, hum⟩ := und35
      obtain ⟨fr, hur⟩ := undRes
      generalize hQ : fitB x (rc, rb) = q at *
      generalize hRX : recO x.key (rc, rb) = RX at *
      have C1 : Hid (Calls Tryz.prog 17 #[.string (M.bs code), .slice a l.length c] w1 fun e w' => e = .returned (.agg #[.int .i64 rc, .string (M.bs rb)]) ∧ Bl w1 w') := CM w1 HW1.out
      have C2 : Hid (∀ U, Bl (W.alloc (.cells (rv x) 44)) U → Calls Tryz.prog 18 #[.string (M.bs code), .slice a l.length c] U fun e w' => e = .returned (.agg (dg KY)) ∧ Bl U w') := CK
      have C3 : Hid (∀ U, Bl (W.alloc (.cells (rv x) 44)) U → Calls Tryz.prog 19 #[.agg (KY.map vb).toArray, .agg #[.int .i64 rc, .string (M.bs rb)]] U fun e w' => e = .returned (.agg (rv T)) ∧ Bl U w') := CR1
      have D1 : Hid (∀ V U, Bl (W.alloc (.cells (rv x) 44)) V → Bl V U → Calls Tryz.prog 20 #[.string (M.bs code), .slice a l.length c] U fun e w' => e = .returned (.agg (dg KY)) ∧ Bl V w') := fun V U hV hU => (CK2 U (hV.step hU)).mono fun e w' h => ⟨h.1, hU.step h.2⟩
      have D2 : Hid (∀ V U, Bl (W.alloc (.cells (rv x) 44)) V → Bl V U → Calls Tryz.prog 21 #[.string (M.bs code), .slice a l.length c] U fun e w' => e = .returned (.agg #[.int .i64 rc, .string (M.bs rb)]) ∧ Bl V w') := fun V U hV hU => (CM2 U (hV.step hU)).mono fun e w' h => ⟨h.1, hU.step h.2⟩
      have D3 : Hid (∀ V U, Bl (W.alloc (.cells (rv x) 44)) V → Bl V U → Calls Tryz.prog 22 #[.agg (KY.map vb).toArray, .agg #[.int .i64 rc, .string (M.bs rb)]] U fun e w' => e = .returned (.agg (rv T)) ∧ Bl V w') := fun V U hV hU => (CR2a U).mono fun e w' h => ⟨h.1, hU.step h.2⟩
      have D4 : Hid (∀ V U, Bl (W.alloc (.cells (rv x) 44)) V → Bl V U → Calls Tryz.prog 23 #[.agg (rvL T).toArray, .agg #[.int .i64 rc, .string (M.bs rb)]] U fun e w' => e = .returned (.bool true) ∧ Bl V w') := fun V U hV hU => (CFt U (hV.step hU)).mono fun e w' h => ⟨h.1, hU.step h.2⟩
      have D5 : Hid (∀ V U, Bl (W.alloc (.cells (rv x) 44)) V → Bl V U → Calls Tryz.prog 23 #[.agg (rvL x).toArray, .agg #[.int .i64 rc, .string (M.bs rb)]] U fun e w' => e = .returned (.bool q) ∧ Bl V w') := fun V U hV hU => (CFx U (hV.step hU)).mono fun e w' h => ⟨h.1, hU.step h.2⟩
      have D6 : Hid (∀ V U, Bl (W.alloc (.cells (rv x) 44)) V → Bl V U → Calls Tryz.prog 22 #[.agg (x.key.map vb).toArray, .agg #[.int .i64 rc, .string (M.bs rb)]] U fun e w' => e = .returned (.agg (rv RX)) ∧ Bl V w') := fun V U hV hU => (CR2b U).mono fun e w' h => ⟨h.1, hU.step h.2⟩
      have HR8 : Hid (∀ (V U : World), Bl (V.alloc (.cells #[.int .i64 rc, .string (M.bs rb)] 46)) U → U.cell? ⟨V.heap.size, 0, none⟩ = some (.int .i64 rc) ∧ U.cell? ⟨V.heap.size, 1, none⟩ = some (.string (M.bs rb)) ∧ U.rangeAt V.heap.size 0 [.int .i64 rc, .string (M.bs rb)]) := fun V U hU => by
        have b0 := heap_alloc_new V (.cells #[.int .i64 rc, .string (M.bs rb)] 46)
        have u0 := Below.block hU _ (TA.lt_heap b0)
        rw [b0] at u0
        exact ⟨by rw [Lib.cell_of_heap u0]; rfl, by rw [Lib.cell_of_heap u0]; rfl, range_part u0 [] [.int .i64 rc, .string (M.bs rb)] [] 0 (by simp) rfl⟩
      have HR9 : Hid (∀ (V U : World), Bl (V.alloc (.cells (dg KY) 42)) U → U.rangeAt V.heap.size 0 (KY.map vb)) := fun V U hU => by
        have b0 := heap_alloc_new V (.cells (dg KY) 42)
        have u0 := Below.block hU _ (TA.lt_heap b0)
        rw [b0] at u0
        exact range_part u0 [] (KY.map vb) [] 0 (by simp [dg]) rfl
      have HR10 : Hid (∀ (V U : World), Bl (V.alloc (.cells (rv T) 44)) U → U.rangeAt V.heap.size 0 (rvL T)) := fun V U hU => by
        have b0 := heap_alloc_new V (.cells (rv T) 44)
        have u0 := Below.block hU _ (TA.lt_heap b0)
        rw [b0] at u0
        exact range_part u0 [] (rvL T) [] 0 (by simp [rv]) rfl
      have HZ9 : Hid (∀ V : World, (V.alloc (.cells zero32 42)).heap[V.heap.size]? = some (.cells zero32 42 (0, 0))) := fun V => heap_alloc_new _ _
      have HZ10 : Hid (∀ V : World, (V.alloc (.cells (rv Go.Proofs.YtlblbdfpcaplkaaGreatDoor.V.zr) 44)).heap[V.heap.size]? = some (.cells (rv Go.Proofs.YtlblbdfpcaplkaaGreatDoor.V.zr) 44 (0, 0))) := fun V => heap_alloc_new _ _
      clear CM CM2 CK CK2 CR1 CR2a CR2b CFt CFx hro hmk HRC hFS hQ hRX hR
      go_wp2_with (first
        | (go_at_call 17; refine C1.out.mono ?_; clear C1; rintro e w2 ⟨rfl, H2⟩; have K2 : Hid (Bl (W.alloc (.cells (rv x) 44)) (w2.alloc (.cells #[.int .i64 rc, .string (M.bs rb)] 46))) := (HW1.out.step H2).alloc _; clear H2)
        | (go_at_call 18; refine (C2.out _ K2.out).mono ?_; clear C2; rintro e w3 ⟨rfl, H3⟩; have K3 : Hid (Bl (w2.alloc (.cells #[.int .i64 rc, .string (M.bs rb)] 46)) (w3.alloc (.cells (dg KY) 42))) := Bl.alloc H3 _; clear H3; obtain ⟨r0, r1, _⟩ := HR8.out w2 _ K3.out; have R9 : Hid _ := HR9.out w3 _ (Bl.refl _))
        | (refine wpList_store_row rfl 42 _ _ rfl w3.heap.size (dg KY) rfl rfl 42 zero32 (HZ9.out w3) (by rw [dg_size, hkl]; exact info27) (by rw [dg_size, hkl]; exact zero32_size) (dg_one _) ?_; clear HZ9; rw [World.setRow_alloc_new])
        | (refine wl_mid8 rfl 42 _ rfl w3.heap.size 0 rfl (KY.map vb) _ R9.out und27 rfl hik ?_; clear R9)
        | (go_at_call 19; refine (C3.out _ (K2.out.step K3.out)).mono ?_; clear C3; rintro e w4 ⟨rfl, H4⟩; have K4 : Hid (Bl (w3.alloc (.cells (dg KY) 42)) (w4.alloc (.cells (rv T) 44))) := Bl.alloc H4 _; clear H4)
        | (refine wpList_store_row rfl 44 _ _ rfl w4.heap.size (rv T) rfl rfl 44 (rv Go.Proofs.YtlblbdfpcaplkaaGreatDoor.V.zr) (HZ10.out w4) (by rw [hTl]; exact info35) (by rw [hzl, hTl]) (rv_one _) ?_; clear HZ10; rw [World.setRow_alloc_new]))
      have KP : Hid (∀ U, Bl (w4.alloc (.cells (rv T) 44)) U → U.rangeAt w2.heap.size 0 [.int .i64 rc, .string (M.bs rb)] ∧ U.rangeAt w3.heap.size 0 (KY.map vb) ∧ U.rangeAt w4.heap.size 0 (rvL T) ∧ U.rangeAt W.heap.size 0 (rvL x) ∧ U.rangeAt W.heap.size 0 (x.key.map vb)) := fun U hU => by
        have y := HXB.out U ((K2.out.step K3.out).step (K4.out.step hU))
        exact ⟨(HR8.out w2 U (K3.out.step (K4.out.step hU))).2.2, HR9.out w3 U (K4.out.step hU), HR10.out w4 U hU, y.1, y.2⟩
      have HVZ : Hid (Bl (W.alloc (.cells (rv x) 44)) (w4.alloc (.cells (rv T) 44))) := (K2.out.step K3.out).step K4.out
      clear r0 r1 HR8 HR9 HR10 K2 K3 K4 HXB HV HO HP
      generalize (w4.alloc (.cells (rv T) 44)) = V at *
      generalize w2.heap.size = b8 at *
      generalize w3.heap.size = b9 at *
      generalize w4.heap.size = b10 at *
      (try simp only [List.append_eq, List.cons_append, List.nil_append])
      refine wp_region_noPanic ?_
      refine wp_region_held_drew (S := fun U => U.rangeAt b8 0 [.int .i64 rc, .string (M.bs rb)] ∧ U.rangeAt b9 0 (KY.map vb) ∧ U.rangeAt b10 0 (rvL T) ∧ U.rangeAt W.heap.size 0 (rvL x) ∧ U.rangeAt W.heap.size 0 (x.key.map vb)) (by kernel_rfl) (KP.out _ ((Bl.refl V).drewN 1)) (fun hHeld => ?_)
      refine wpAnyH_take (i := 0) (v := .agg (List.toArray (KY.map vb))) rfl (by kernel_rfl) (by kernel_rfl) (by kernel_rfl) (fun _ _ _ h => h) (yieldsIf_load_mid (by kernel_rfl) _ (.tmp 9) (by kernel_rfl) b9 0 (by kernel_rfl) (KY.map vb) _ (fun W hW => hW.2.1) und27 rfl hik) (by assumption) ?_
      simp only [Act.put, List.getElem_toArray, List.getElem_cons_succ, List.getElem_cons_zero, List.setIfInBounds_toArray, List.set_cons_zero, List.set_cons_succ]
      refine wpAnyH_take (i := 1) rfl (by kernel_rfl) (by kernel_rfl) (by kernel_rfl) (fun _ _ _ h => h) (yi_move (by kernel_rfl) rfl rfl) (by assumption) ?_
      simp only [Act.put, List.getElem_toArray, List.getElem_cons_succ, List.getElem_cons_zero, List.setIfInBounds_toArray, List.set_cons_zero, List.set_cons_succ]
      refine wpAnyH_take (i := 2) rfl (by kernel_rfl) (by kernel_rfl) (by kernel_rfl) (fun _ _ _ h => h) (yi_move (by kernel_rfl) rfl rfl) (by assumption) ?_
      simp only [Act.put, List.getElem_toArray, List.getElem_cons_succ, List.getElem_cons_zero, List.setIfInBounds_toArray, List.set_cons_zero, List.set_cons_succ]
      refine wpAnyH_ready (rs := [3]) (by kernel_rfl) (by simp) ?_
      refine AllReadyH.cons (o := _) rfl (fun K hK => ?_) AllReadyH.nil
      go_simp
      go_at_call 20; refine (D1.out _ _ HVZ.out ((Bl.refl V).drewN 1)).mono ?_; rintro e w4 ⟨rfl, HB4⟩
      refine hK.out _ _ (KP.out _ HB4) (fun hHeld => ?_)
      clear hK K
      (try simp only [Act.put, List.getElem_toArray, List.getElem_cons_succ, List.getElem_cons_zero, List.setIfInBounds_toArray, List.set_cons_zero, List.set_cons_succ])
      refine wpAnyH_take (i := 4) (v := ?_) rfl (by kernel_rfl) (by kernel_rfl) (by kernel_rfl) (fun _ _ _ h => h) (Or.inl ⟨by kernel_rfl, ?_⟩) (by assumption) ?_
      rotate_left
      · (intro w hSw; (try dsimp only at hSw); go_simp; (try with_reducible rfl))
      simp only [Act.put, List.getElem_toArray, List.getElem_cons_succ, List.getElem_cons_zero, List.setIfInBounds_toArray, List.set_cons_zero, List.set_cons_succ]
      refine wpAnyH_take (i := 5) rfl (by kernel_rfl) (by kernel_rfl) (by kernel_rfl) (fun _ _ _ h => h) (yi_move (by kernel_rfl) rfl rfl) (by assumption) ?_
      simp only [Act.put, List.getElem_toArray, List.getElem_cons_succ, List.getElem_cons_zero, List.setIfInBounds_toArray, List.set_cons_zero, List.set_cons_succ]
      refine wpAnyH_take (i := 6) (v := .agg (List.toArray [.int .i64 rc, .string (M.bs rb)])) rfl (by kernel_rfl) (by kernel_rfl) (by kernel_rfl) (fun _ _ _ h => h) (yieldsIf_load_mid (by kernel_rfl) _ (.tmp 8) (by kernel_rfl) b8 0 (by kernel_rfl) [.int .i64 rc, .string (M.bs rb)] _ (fun W hW => hW.1) hur rfl infoRes) (by assumption) ?_
      simp only [Act.put, List.getElem_toArray, List.getElem_cons_succ, List.getElem_cons_zero, List.setIfInBounds_toArray, List.set_cons_zero, List.set_cons_succ]
      refine wpAnyH_take (i := 7) rfl (by kernel_rfl) (by kernel_rfl) (by kernel_rfl) (fun _ _ _ h => h) (yi_move (by kernel_rfl) rfl rfl) (by assumption) ?_
      simp only [Act.put, List.getElem_toArray, List.getElem_cons_succ, List.getElem_cons_zero, List.setIfInBounds_toArray, List.set_cons_zero, List.set_cons_succ]
      refine wpAnyH_take (i := 8) rfl (by kernel_rfl) (by kernel_rfl) (by kernel_rfl) (fun _ _ _ h => h) (yi_move (by kernel_rfl) rfl rfl) (by assumption) ?_
      simp only [Act.put, List.getElem_toArray, List.getElem_cons_succ, List.getElem_cons_zero, List.setIfInBounds_toArray, List.set_cons_zero, List.set_cons_succ]
      refine wpAnyH_ready (rs := [9]) (by kernel_rfl) (by simp) ?_
      refine AllReadyH.cons (o := _) rfl (fun K hK => ?_) AllReadyH.nil
      go_simp
      go_at_call 21; refine (D2.out _ _ HVZ.out HB4).mono ?_; rintro e w10 ⟨rfl, HB10⟩
      refine hK.out _ _ (KP.out _ HB10) (fun hHeld => ?_)
      clear hK K
      (try simp only [Act.put, List.getElem_toArray, List.getElem_cons_succ, List.getElem_cons_zero, List.setIfInBounds_toArray, List.set_cons_zero, List.set_cons_succ])
      refine wpAnyH_take (i := 10) (v := ?_) rfl (by kernel_rfl) (by kernel_rfl) (by kernel_rfl) (fun _ _ _ h => h) (Or.inl ⟨by kernel_rfl, ?_⟩) (by assumption) ?_
      rotate_left
      · (intro w hSw; (try dsimp only at hSw); go_simp; (try with_reducible rfl))
      simp only [Act.put, List.getElem_toArray, List.getElem_cons_succ, List.getElem_cons_zero, List.setIfInBounds_toArray, List.set_cons_zero, List.set_cons_succ]
      refine wpAnyH_take (i := 11) (v := ?_) rfl (by kernel_rfl) (by kernel_rfl) (by kernel_rfl) (fun _ _ _ h => h) (Or.inl ⟨by kernel_rfl, ?_⟩) (by assumption) ?_
      rotate_left
      · (intro w hSw; (try dsimp only at hSw); go_simp; (try with_reducible rfl))
      simp only [Act.put, List.getElem_toArray, List.getElem_cons_succ, List.getElem_cons_zero, List.setIfInBounds_toArray, List.set_cons_zero, List.set_cons_succ]
      refine wpAnyH_take (i := 12) rfl (by kernel_rfl) (by kernel_rfl) (by kernel_rfl) (fun _ _ _ h => h) (yi_move (by kernel_rfl) rfl rfl) (by assumption) ?_
      simp only [Act.put, List.getElem_toArray, List.getElem_cons_succ, List.getElem_cons_zero, List.setIfInBounds_toArray, List.set_cons_zero, List.set_cons_succ]
      refine wpAnyH_take (i := 13) (v := .agg (List.toArray (rvL T))) rfl (by kernel_rfl) (by kernel_rfl) (by kernel_rfl) (fun _ _ _ h => h) (yieldsIf_load_mid (by kernel_rfl) _ (.tmp 10) (by kernel_rfl) b10 0 (by kernel_rfl) (rvL T) _ (fun W hW => hW.2.2.1) hum rfl hiT) (by assumption) ?_
      simp only [Act.put, List.getElem_toArray, List.getElem_cons_succ, List.getElem_cons_zero, List.setIfInBounds_toArray, List.set_cons_zero, List.set_cons_succ]
      refine wpAnyH_take (i := 14) (v := .agg (List.toArray (KY.map vb))) rfl (by kernel_rfl) (by kernel_rfl) (by kernel_rfl) (fun _ _ _ h => h) (yieldsIf_load_mid (by kernel_rfl) _ (.tmp 9) (by kernel_rfl) b9 0 (by kernel_rfl) (KY.map vb) _ (fun W hW => hW.2.1) und27 rfl hik) (by assumption) ?_
      simp only [Act.put, List.getElem_toArray, List.getElem_cons_succ, List.getElem_cons_zero, List.setIfInBounds_toArray, List.set_cons_zero, List.set_cons_succ]
      refine wpAnyH_take (i := 15) (v := .agg (List.toArray [.int .i64 rc, .string (M.bs rb)])) rfl (by kernel_rfl) (by kernel_rfl) (by kernel_rfl) (fun _ _ _ h => h) (yieldsIf_load_mid (by kernel_rfl) _ (.tmp 8) (by kernel_rfl) b8 0 (by kernel_rfl) [.int .i64 rc, .string (M.bs rb)] _ (fun W hW => hW.1) hur rfl infoRes) (by assumption) ?_
      simp only [Act.put, List.getElem_toArray, List.getElem_cons_succ, List.getElem_cons_zero, List.setIfInBounds_toArray, List.set_cons_zero, List.set_cons_succ]
      refine wpAnyH_ready (rs := [16]) (by kernel_rfl) (by simp) ?_
      refine AllReadyH.cons (o := _) rfl (fun K hK => ?_) AllReadyH.nil
      go_simp
      go_at_call 22; refine (D3.out _ _ HVZ.out HB10).mono ?_; rintro e w17 ⟨rfl, HB17⟩
      refine hK.out _ _ (KP.out _ HB17) (fun hHeld => ?_)
      clear hK K
      (try simp only [Act.put, List.getElem_toArray, List.getElem_cons_succ, List.getElem_cons_zero, List.setIfInBounds_toArray, List.set_cons_zero, List.set_cons_succ])
      refine wpAnyH_take (i := 17) (v := ?_) rfl (by kernel_rfl) (by kernel_rfl) (by kernel_rfl) (fun _ _ _ h => h) (Or.inl ⟨by kernel_rfl, ?_⟩) (by assumption) ?_
      rotate_left
      · (intro w hSw; (try dsimp only at hSw); go_simp; (try with_reducible rfl))
      simp only [Act.put, List.getElem_toArray, List.getElem_cons_succ, List.getElem_cons_zero, List.setIfInBounds_toArray, List.set_cons_zero, List.set_cons_succ]
      refine wpAnyH_take (i := 18) (v := ?_) rfl (by kernel_rfl) (by kernel_rfl) (by kernel_rfl) (fun _ _ _ h => h) (Or.inl ⟨by kernel_rfl, ?_⟩) (by assumption) ?_
      rotate_left
      · (intro w hSw; (try dsimp only at hSw); go_simp; (try with_reducible rfl))
      simp only [Act.put, List.getElem_toArray, List.getElem_cons_succ, List.getElem_cons_zero, List.setIfInBounds_toArray, List.set_cons_zero, List.set_cons_succ]
      refine wpAnyH_take (i := 19) rfl (by kernel_rfl) (by kernel_rfl) (by kernel_rfl) (fun _ _ _ h => h) (yi_move (by kernel_rfl) rfl rfl) (by assumption) ?_
      simp only [Act.put, List.getElem_toArray, List.getElem_cons_succ, List.getElem_cons_zero, List.setIfInBounds_toArray, List.set_cons_zero, List.set_cons_succ]
      refine wpAnyH_take (i := 20) (v := .agg (List.toArray (rvL T))) rfl (by kernel_rfl) (by kernel_rfl) (by kernel_rfl) (fun _ _ _ h => h) (yieldsIf_load_mid (by kernel_rfl) _ (.tmp 10) (by kernel_rfl) b10 0 (by kernel_rfl) (rvL T) _ (fun W hW => hW.2.2.1) hum rfl hiT) (by assumption) ?_
      simp only [Act.put, List.getElem_toArray, List.getElem_cons_succ, List.getElem_cons_zero, List.setIfInBounds_toArray, List.set_cons_zero, List.set_cons_succ]
      refine wpAnyH_take (i := 21) (v := .agg (List.toArray [.int .i64 rc, .string (M.bs rb)])) rfl (by kernel_rfl) (by kernel_rfl) (by kernel_rfl) (fun _ _ _ h => h) (yieldsIf_load_mid (by kernel_rfl) _ (.tmp 8) (by kernel_rfl) b8 0 (by kernel_rfl) [.int .i64 rc, .string (M.bs rb)] _ (fun W hW => hW.1) hur rfl infoRes) (by assumption) ?_
      simp only [Act.put, List.getElem_toArray, List.getElem_cons_succ, List.getElem_cons_zero, List.setIfInBounds_toArray, List.set_cons_zero, List.set_cons_succ]
      refine wpAnyH_ready (rs := [22]) (by kernel_rfl) (by simp) ?_
      refine AllReadyH.cons (o := _) rfl (fun K hK => ?_) AllReadyH.nil
      go_simp
      go_at_call 23; refine (D4.out _ _ HVZ.out HB17).mono ?_; rintro e w23 ⟨rfl, HB23⟩
      refine hK.out _ _ (KP.out _ HB23) (fun hHeld => ?_)
      clear hK K
      (try simp only [Act.put, List.getElem_toArray, List.getElem_cons_succ, List.getElem_cons_zero, List.setIfInBounds_toArray, List.set_cons_zero, List.set_cons_succ])
      refine wpAnyH_take (i := 23) (v := ?_) rfl (by kernel_rfl) (by kernel_rfl) (by kernel_rfl) (fun _ _ _ h => h) (Or.inl ⟨by kernel_rfl, ?_⟩) (by assumption) ?_
      rotate_left
      · (intro w hSw; (try dsimp only at hSw); go_simp; (try with_reducible rfl))
      simp only [Act.put, List.getElem_toArray, List.getElem_cons_succ, List.getElem_cons_zero, List.setIfInBounds_toArray, List.set_cons_zero, List.set_cons_succ]
      refine wpAnyH_take (i := 24) rfl (by kernel_rfl) (by kernel_rfl) (by kernel_rfl) (fun _ _ _ h => h) (yi_move (by kernel_rfl) rfl rfl) (by assumption) ?_
      simp only [Act.put, List.getElem_toArray, List.getElem_cons_succ, List.getElem_cons_zero, List.setIfInBounds_toArray, List.set_cons_zero, List.set_cons_succ]
      refine wpAnyH_take (i := 25) (v := .agg (List.toArray (rvL x))) rfl (by kernel_rfl) (by kernel_rfl) (by kernel_rfl) (fun _ _ _ h => h) (yieldsIf_load_mid (by kernel_rfl) _ (.tmp 5) (by kernel_rfl) W.heap.size 0 (by kernel_rfl) (rvL x) _ (fun W hW => hW.2.2.2.1) hum rfl hix) (by assumption) ?_
      simp only [Act.put, List.getElem_toArray, List.getElem_cons_succ, List.getElem_cons_zero, List.setIfInBounds_toArray, List.set_cons_zero, List.set_cons_succ]
      refine wpAnyH_take (i := 26) (v := .agg (List.toArray [.int .i64 rc, .string (M.bs rb)])) rfl (by kernel_rfl) (by kernel_rfl) (by kernel_rfl) (fun _ _ _ h => h) (yieldsIf_load_mid (by kernel_rfl) _ (.tmp 8) (by kernel_rfl) b8 0 (by kernel_rfl) [.int .i64 rc, .string (M.bs rb)] _ (fun W hW => hW.1) hur rfl infoRes) (by assumption) ?_
      simp only [Act.put, List.getElem_toArray, List.getElem_cons_succ, List.getElem_cons_zero, List.setIfInBounds_toArray, List.set_cons_zero, List.set_cons_succ]
      refine wpAnyH_take (i := 28) (v := .agg (List.toArray (rvL x))) rfl (by kernel_rfl) (by kernel_rfl) (by kernel_rfl) (fun _ _ _ h => h) (yieldsIf_load_mid (by kernel_rfl) _ (.tmp 5) (by kernel_rfl) W.heap.size 0 (by kernel_rfl) (rvL x) _ (fun W hW => hW.2.2.2.1) hum rfl hix) (by assumption) ?_
      simp only [Act.put, List.getElem_toArray, List.getElem_cons_succ, List.getElem_cons_zero, List.setIfInBounds_toArray, List.set_cons_zero, List.set_cons_succ]
      refine wpAnyH_take (i := 29) (v := ?_) rfl (by kernel_rfl) (by kernel_rfl) (by kernel_rfl) (fun _ _ _ h => h) (Or.inl ⟨by kernel_rfl, ?_⟩) (by assumption) ?_
      rotate_left
      · (intro w hSw; (try dsimp only at hSw); go_simp; (try with_reducible rfl))
      simp only [Act.put, List.getElem_toArray, List.getElem_cons_succ, List.getElem_cons_zero, List.setIfInBounds_toArray, List.set_cons_zero, List.set_cons_succ]
      refine wpAnyH_take (i := 30) (v := .agg (List.toArray (x.key.map vb))) rfl (by kernel_rfl) (by kernel_rfl) (by kernel_rfl) (fun _ _ _ h => h) (yieldsIf_load_mid (by kernel_rfl) _ (.tmp 72) (by kernel_rfl) W.heap.size 0 (by kernel_rfl) (x.key.map vb) _ (fun W hW => hW.2.2.2.2) und27 rfl hixk) (by assumption) ?_
      simp only [Act.put, List.getElem_toArray, List.getElem_cons_succ, List.getElem_cons_zero, List.setIfInBounds_toArray, List.set_cons_zero, List.set_cons_succ]
      refine wpAnyH_take (i := 31) (v := .agg (List.toArray [.int .i64 rc, .string (M.bs rb)])) rfl (by kernel_rfl) (by kernel_rfl) (by kernel_rfl) (fun _ _ _ h => h) (yieldsIf_load_mid (by kernel_rfl) _ (.tmp 8) (by kernel_rfl) b8 0 (by kernel_rfl) [.int .i64 rc, .string (M.bs rb)] _ (fun W hW => hW.1) hur rfl infoRes) (by assumption) ?_
      simp only [Act.put, List.getElem_toArray, List.getElem_cons_succ, List.getElem_cons_zero, List.setIfInBounds_toArray, List.set_cons_zero, List.set_cons_succ]
      refine wpAnyH_ready (rs := [27]) (by kernel_rfl) (by simp) ?_
      refine AllReadyH.cons (o := _) rfl (fun K hK => ?_) AllReadyH.nil
      go_simp
      go_at_call 23; refine (D5.out _ _ HVZ.out HB23).mono ?_; rintro e w32 ⟨rfl, HB32⟩
      refine hK.out _ _ (KP.out _ HB32) (fun hHeld => ?_)
      clear hK K
      (try simp only [Act.put, List.getElem_toArray, List.getElem_cons_succ, List.getElem_cons_zero, List.setIfInBounds_toArray, List.set_cons_zero, List.set_cons_succ])
      refine wpAnyH_ready (rs := [32]) (by kernel_rfl) (by simp) ?_
      refine AllReadyH.cons (o := _) rfl (fun K hK => ?_) AllReadyH.nil
      go_simp
      go_at_call 22; refine (D6.out _ _ HVZ.out HB32).mono ?_; rintro e w33 ⟨rfl, HB33⟩
      refine hK.out _ _ (KP.out _ HB33) (fun hHeld => ?_)
      clear hK K
      (try simp only [Act.put, List.getElem_toArray, List.getElem_cons_succ, List.getElem_cons_zero, List.setIfInBounds_toArray, List.set_cons_zero, List.set_cons_succ])
      refine wpAnyH_take (i := 33) (v := ?_) rfl (by kernel_rfl) (by kernel_rfl) (by kernel_rfl) (fun _ _ _ h => h) (Or.inl ⟨by kernel_rfl, ?_⟩) (by assumption) ?_
      rotate_left
      · (intro w hSw; (try dsimp only at hSw); go_simp; (try with_reducible rfl))
      simp only [Act.put, List.getElem_toArray, List.getElem_cons_succ, List.getElem_cons_zero, List.setIfInBounds_toArray, List.set_cons_zero, List.set_cons_succ]
      refine wpAnyH_take (i := 34) (v := ?_) rfl (by kernel_rfl) (by kernel_rfl) (by kernel_rfl) (fun _ _ _ h => h) (Or.inl ⟨by kernel_rfl, ?_⟩) (by assumption) ?_
      rotate_left
      · (intro w hSw; (try dsimp only at hSw); go_simp; (try with_reducible rfl))
      simp only [Act.put, List.getElem_toArray, List.getElem_cons_succ, List.getElem_cons_zero, List.setIfInBounds_toArray, List.set_cons_zero, List.set_cons_succ]
      refine wpAnyH_take (i := 35) (v := ?_) rfl (by kernel_rfl) (by kernel_rfl) (by kernel_rfl) (fun _ _ _ h => h) (Or.inl ⟨by kernel_rfl, ?_⟩) (by assumption) ?_
      rotate_left
      · (intro w hSw; (try dsimp only at hSw); go_simp; (try with_reducible rfl))
      simp only [Act.put, List.getElem_toArray, List.getElem_cons_succ, List.getElem_cons_zero, List.setIfInBounds_toArray, List.set_cons_zero, List.set_cons_succ]
      refine wpAnyH_take (i := 36) (v := .bool true) rfl (by kernel_rfl) (by kernel_rfl) (by kernel_rfl) (fun _ _ _ h => h) (yi_assign (by kernel_rfl) rfl (by rfl)) (by assumption) ?_
      simp only [Act.put, List.getElem_toArray, List.getElem_cons_succ, List.getElem_cons_zero, List.setIfInBounds_toArray, List.set_cons_zero, List.set_cons_succ]
      refine wpAnyH_done (by kernel_rfl) ?_ _
      refine NoPanic.normal ?_
      go_wp2_with fail
      go_ret
      exact ⟨rfl, FIN.out _ (HVZ.out.step HB33)⟩
end Go.Proofs.YtlblbdfpcaplkaaGreatDoor
