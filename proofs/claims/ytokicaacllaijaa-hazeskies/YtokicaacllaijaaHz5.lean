/- With and Of. -/
import Derived.Test.YtokicaacllaijaaHzC
namespace Go.Proofs.Ytokicaacllaijaa
open Go.RowKit
set_option linter.unusedVariables false
set_option linter.unusedSimpArgs false
attribute [local go_sem ↓] zeroH zeroD

theorem adN_succ (h : HZ.H) (k : HZ.D) (i : Nat) : h.adN k (i + 1) = (h.adN k i).on (k.mk' i) := rfl
set_option maxRecDepth 8000 in
set_option maxHeartbeats 4000000 in
theorem With_x (h : HZ.H) (l : List HZ.D) (a : Option Addr) (c : Nat) (hn : l.length ≤ maxLen) (W : World) (hv : RS lyD W a l) :
    Calls Try.prog 11 #[.agg (hC h).toArray, .slice a l.length c] W fun e w' => e = .returned (.agg (hC (h.wi l)).toArray) ∧ Bl W w' := by
  unfold maxLen at hn
  have HB0 : Hid (Bl W ((W.alloc (.cells (hC h).toArray tH)).alloc (.cells zH tH))) := ((Bl.refl W).alloc _).alloc _
  have HD0 : Hid (((W.alloc (.cells (hC h).toArray tH)).alloc (.cells zH tH)).heap[W.heap.size]? = some (.cells (hC h).toArray tH (0, 0))) := by
    show _ = _
    rw [Below.heap_alloc _ _ _ (by simp)]; exact heap_alloc_new W _
  have HZ0 : Hid (((W.alloc (.cells (hC h).toArray tH)).alloc (.cells zH tH)).heap[W.heap.size + 1]? = some (.cells zH tH (0, 0))) := by
    show _ = _
    simpa using heap_alloc_new (W.alloc (.cells (hC h).toArray tH)) (.cells zH tH)
  have HS0 : ((W.alloc (.cells (hC h).toArray tH)).alloc (.cells zH tH)).heap.size = W.heap.size + 2 := by simp
  have HV : Hid (RS lyD W a l) := hv
  have CM : Hid (∀ (k : HZ.D) W, Calls Try.prog 27 #[.agg (dC k).toArray] W fun e w' => e = .returned (.agg (mkL k 4).toArray) ∧ Bl W w') := marks_x
  have CK : Hid (∀ n W, n < 512 → Calls Try.prog 28 #[.int .i64 ((n : Nat) : Int)] W fun e w' => e = .returned (.int .u8 ((HZ.msk n).toNat : Int)) ∧ w' = W) := fun n W hn => mask_x n hn W
  clear hv
  generalize hw1 : (W.alloc (.cells (hC h).toArray tH)).alloc (.cells zH tH) = W1 at *
  go_enter Try.func11, Try.ntmps11
  go_wp2_with fail
  clear hw1
  go_loopw [11, 17] (fun u11 u17 wr => ∃ k : Nat, k ≤ l.length ∧ u11 = .int .i64 (k : Int) ∧ Bl W wr ∧ W.heap.size + 2 ≤ wr.heap.size ∧ wr.heap[W.heap.size]? = some (.cells (hC (h.wi (l.take k))).toArray tH (0, 0)) ∧ wr.heap[W.heap.size + 1]? = some (.cells zH tH (0, 0))) (fun u11 _ _ => l.length - (intOf u11).toNat)
  case atStart => exact ⟨0, by omega, rfl, HB0.out, by omega, HD0.out, HZ0.out⟩
  case round =>
    clear HB0 HD0 HZ0 HS0
    obtain ⟨k, hk, rfl, hb, hsz, hd, hz⟩ := hrel
    by_cases hlt : k < l.length
    · obtain ⟨x, hx⟩ : ∃ x, l[k]? = some x := ⟨l[k], List.getElem?_eq_getElem hlt⟩
      have HX : Hid (l[k]? = some x) := hx
      have hvr := HV.out.bl hb
      obtain ⟨b, off, rfl, hbl, hra⟩ := hvr k x hx
      have HRA : wr.rangeAt b (off + k * 32) (dC x) := hra
      have HSC : Hid (h.wi (l.take (k + 1)) = (h.wi (l.take k)).ad x) := HZ.H.wi_succ h hx
      have CM1 : Hid (∀ W, Calls Try.prog 27 #[.agg (dC x).toArray] W fun e w' => e = .returned (.agg (mkL x 4).toArray) ∧ Bl W w') := CM.out x
      have HML : Hid (∀ i, i < 4 → (mkL x 4).toArray[i]? = some (.int .i64 (x.mk' i : Int))) := fun i hi => by
        have := mkL_at x 4 hi
        rw [if_pos hi] at this
        simpa using this
      have HKL : Hid (∀ i, x.mk' i < 512) := x.mk_lt
      have HDI : Hid ((Try.prog.info? tD).map (·.size) = some (dC x).length) := by show _ = _; rw [dC_len]; exact infoD
      have HDL := dC_len x
      have HDO : Hid (∀ u ∈ dC x, u.oneCell' = true) := dC_one x
      have HAD : Hid (∀ g : HZ.H, ∀ i, g.adN x (i + 1) = (g.adN x i).on (x.mk' i)) := fun g i => rfl
      generalize hg0 : h.wi (l.take k) = g0 at *
      have HAD0 : Hid (g0.adN x 0 = g0) := rfl
      have HAD4 : Hid (g0.adN x 4 = g0.ad x) := rfl
      have HBW : Hid (Bl W wr) := hb
      have HDW : Hid (wr.heap[W.heap.size]? = some (.cells (hC g0).toArray tH (0, 0))) := hd
      have HZW : Hid (wr.heap[W.heap.size + 1]? = some (.cells zH tH (0, 0))) := hz
      clear hx hvr hra hb hd hz CM hg0
      generalize dC x = LX at *
      generalize mkL x 4 = LM at *
      go_wp2_with (first
        | (refine wl_midG (by rfl) tD _ rfl b (off + k * 32) rfl LX _ HRA undD rfl HDI.out ?_)
        | (refine wl_rowU rfl tD _ _ rfl wr.heap.size LX rfl rfl tD zD (heap_alloc_new wr _) 32 infoD HDL zD_size HDO.out ?_; intro U0 hU0 hO0 hs0)
        | (refine wl_midG (by rfl) tD _ rfl wr.heap.size 0 rfl LX _ (range_of hU0) undD rfl HDI.out ?_)
        | (go_at_call 27; refine (CM1.out _).mono ?_; clear CM1; rintro e w1 ⟨rfl, HB1⟩))
      have HBa : Bl wr U0 := hO0.bl ((Bl.refl wr).alloc _) (by simp)
      have HBb : Bl wr w1 := HBa.step HB1
      have hsz1 : W.heap.size + 2 ≤ w1.heap.size := by have := HBb.size; omega
      have HB : Bl W w1 := HBW.out.step HBb
      have HD : w1.heap[W.heap.size]? = some (.cells (hC g0).toArray tH (0, 0)) := HBb.heap HDW.out
      have HZZ : w1.heap[W.heap.size + 1]? = some (.cells zH tH (0, 0)) := HBb.heap HZW.out
      clear HBa HBb HB1 hU0 hO0 hs0 HBW HDW HZW HRA
      go_loopw [17] (fun u17 wr => ∃ i : Nat, i ≤ 4 ∧ u17 = .int .i64 (i : Int) ∧ Bl W wr ∧ W.heap.size + 2 ≤ wr.heap.size ∧ wr.heap[W.heap.size]? = some (.cells (hC (g0.adN x i)).toArray tH (0, 0)) ∧ wr.heap[W.heap.size + 1]? = some (.cells zH tH (0, 0))) (fun u17 _ => 4 - (intOf u17).toNat)
      case atStart => exact ⟨0, by omega, rfl, HB, hsz1, by rw [HAD0.out]; exact HD, HZZ⟩
      case round =>
        clear HB HD HZZ hsz1
        obtain ⟨i, hi, rfl, hb, hsz2, hd, hz⟩ := hrel
        have HB : Hid (Bl W wr) := hb
        have HZZ : Hid (wr.heap[W.heap.size + 1]? = some (.cells zH tH (0, 0))) := hz
        by_cases hlti : i < 4
        · have hm := HML.out i hlti
          have hml := HKL.out i
          have hix : ∀ U, (Instr.index 59 (.agg LM.toArray) (.int .i64 (i : Int))).run Try.prog U = .ok (.int .i64 (x.mk' i : Int)) U := idx_agg _ _ 4 _ i _ und4 hlti Try.sizeOf3 Try.isAgg3 hm
          have HON : Hid (g0.adN x (i + 1) = (g0.adN x i).on (x.mk' i)) := HAD.out g0 i
          clear hm HML HKL HAD HAD0 HAD4 HSC
          generalize g0.adN x i = g at *
          have HSET : Hid ((hC g).set (x.mk' i / 8) (vb (g.b (x.mk' i / 8) ||| HZ.msk (x.mk' i))) = hC (g.on (x.mk' i))) := hC_set _ _ _
          rw [← HON.out] at HSET
          have HCE : Hid ((hC g)[x.mk' i / 8]? = some (.int .u8 ((g.b (x.mk' i / 8)).toNat : Int))) := hC_at g (by omega)
          have hor := or_val (g.b (x.mk' i / 8)) (HZ.msk (x.mk' i))
          have HGL : Hid ((hC g).length = 64) := hC_len g
          have C5 : Hid (∀ W, Calls Try.prog 28 #[.int .i64 (x.mk' i : Int)] W fun e w' => e = .returned (.int .u8 ((HZ.msk (x.mk' i)).toNat : Int)) ∧ w' = W) := fun W => CK.out _ W hml
          have HD : Hid (wr.drew.heap[W.heap.size]? = some (.cells (hC g).toArray tH (0, 0))) := hd
          clear CK HON hb hz hd
          generalize x.mk' i = m at *
          obtain ⟨q, hq⟩ : ∃ q : Nat, q = m / 8 := ⟨_, rfl⟩
          rw [← hq] at HSET HCE hor
          have hqm : (m : Int) / 8 = (q : Int) := by omega
          have hq1 : (q : Int) < 64 := by omega
          have hqw : IntKind.i64.wrap (q : Int) = (q : Int) := by rw [IntKind.wrap_i64]; omega
          clear hq
          generalize (HZ.msk m).toNat = y at *
          unfold vb at HSET
          generalize (g.b q ||| HZ.msk m).toNat = z at *
          generalize (g.b q).toNat = p at *
          generalize hC g = LG at *
          go_wp2_with fail
          refine wp_region_noPanic ?_
          refine wp_region_held_drew (S := fun _ => True) (by kernel_rfl) (trivial) (fun hHeld => ?_)
          refine wpAnyH_take (i := 0) rfl (by kernel_rfl) (by kernel_rfl) (by kernel_rfl) (fun _ _ _ h => h) (yi_move (by kernel_rfl) rfl rfl) (by assumption) ?_
          simp only [Act.put, List.getElem_toArray, List.getElem_cons_succ, List.getElem_cons_zero, List.setIfInBounds_toArray, List.set_cons_zero, List.set_cons_succ, Act.eval, Array.getD_eq_getD_getElem?, List.getElem?_toArray, List.getElem?_cons_succ, List.getElem?_cons_zero, Option.getD_some]
          refine wpAnyH_take (i := 1) (v := ?_) rfl (by kernel_rfl) (by kernel_rfl) (by kernel_rfl) (fun _ _ _ h => h) (Or.inl ⟨by kernel_rfl, ?_⟩) (by assumption) ?_
          rotate_left
          · (intro w hSw; (try dsimp only at hSw); go_simp; (try with_reducible rfl))
          simp only [Act.put, List.getElem_toArray, List.getElem_cons_succ, List.getElem_cons_zero, List.setIfInBounds_toArray, List.set_cons_zero, List.set_cons_succ, Act.eval, Array.getD_eq_getD_getElem?, List.getElem?_toArray, List.getElem?_cons_succ, List.getElem?_cons_zero, Option.getD_some]
          refine wpAnyH_take (i := 2) (v := ?_) rfl (by kernel_rfl) (by kernel_rfl) (by kernel_rfl) (fun _ _ _ h => h) (Or.inl ⟨by kernel_rfl, ?_⟩) (by assumption) ?_
          rotate_left
          · (intro w hSw; (try dsimp only at hSw); go_simp; (try with_reducible rfl))
          simp only [Act.put, List.getElem_toArray, List.getElem_cons_succ, List.getElem_cons_zero, List.setIfInBounds_toArray, List.set_cons_zero, List.set_cons_succ, Act.eval, Array.getD_eq_getD_getElem?, List.getElem?_toArray, List.getElem?_cons_succ, List.getElem?_cons_zero, Option.getD_some]
          refine wpAnyH_take (i := 4) rfl (by kernel_rfl) (by kernel_rfl) (by kernel_rfl) (fun _ _ _ h => h) (yi_move (by kernel_rfl) rfl rfl) (by assumption) ?_
          simp only [Act.put, List.getElem_toArray, List.getElem_cons_succ, List.getElem_cons_zero, List.setIfInBounds_toArray, List.set_cons_zero, List.set_cons_succ, Act.eval, Array.getD_eq_getD_getElem?, List.getElem?_toArray, List.getElem?_cons_succ, List.getElem?_cons_zero, Option.getD_some]
          refine wpAnyH_ready (rs := [3, 5]) (by kernel_rfl) (by simp) ?_
          refine AllReadyH.cons (o := _) rfl (fun K hK => ?_) ?_
          · refine stepo_loadU rfl 5 _ rfl W.heap.size q (by rfl) (.int .u8 (p : Int)) (cell_of (HD.out) HCE.out) (Try.isAgg5 _) (hK.out _ _ (trivial) (fun hHeld => ?_))
            clear hK K
            (try simp only [Act.put, List.getElem_toArray, List.getElem_cons_succ, List.getElem_cons_zero, List.setIfInBounds_toArray, List.set_cons_zero, List.set_cons_succ, Act.eval, Array.getD_eq_getD_getElem?, List.getElem?_toArray, List.getElem?_cons_succ, List.getElem?_cons_zero, Option.getD_some])
            refine wpAnyH_ready (rs := [5]) (by kernel_rfl) (by simp) ?_
            refine AllReadyH.cons (o := _) rfl (fun K hK => ?_) AllReadyH.nil
            go_simp
            go_at_call 28; refine (C5.out _).mono ?_; rintro e V6 ⟨rfl, hV6⟩; rw [hV6]; clear hV6; have HB6 := HD.out
            refine hK.out _ _ (trivial) (fun hHeld => ?_)
            clear hK K
            (try simp only [Act.put, List.getElem_toArray, List.getElem_cons_succ, List.getElem_cons_zero, List.setIfInBounds_toArray, List.set_cons_zero, List.set_cons_succ, Act.eval, Array.getD_eq_getD_getElem?, List.getElem?_toArray, List.getElem?_cons_succ, List.getElem?_cons_zero, Option.getD_some])
            refine wpAnyH_take (i := 6) (v := ?_) rfl (by kernel_rfl) (by kernel_rfl) (by kernel_rfl) (fun _ _ _ h => h) (Or.inl ⟨by kernel_rfl, ?_⟩) (by assumption) ?_
            rotate_left
            · (intro w hSw; (try dsimp only at hSw); go_simp; (try with_reducible rfl))
            simp only [Act.put, List.getElem_toArray, List.getElem_cons_succ, List.getElem_cons_zero, List.setIfInBounds_toArray, List.set_cons_zero, List.set_cons_succ, Act.eval, Array.getD_eq_getD_getElem?, List.getElem?_toArray, List.getElem?_cons_succ, List.getElem?_cons_zero, Option.getD_some]
            refine wpAnyH_take (i := 7) (v := ?_) rfl (by kernel_rfl) (by kernel_rfl) (by kernel_rfl) (fun _ _ _ h => h) (Or.inl ⟨by kernel_rfl, ?_⟩) (by assumption) ?_
            rotate_left
            · (intro w hSw; (try dsimp only at hSw); go_simp; (try with_reducible rfl))
            simp only [Act.put, List.getElem_toArray, List.getElem_cons_succ, List.getElem_cons_zero, List.setIfInBounds_toArray, List.set_cons_zero, List.set_cons_succ, Act.eval, Array.getD_eq_getD_getElem?, List.getElem?_toArray, List.getElem?_cons_succ, List.getElem?_cons_zero, Option.getD_some]
            refine wpAnyH_ready (rs := [8]) (by kernel_rfl) (by simp) ?_
            refine AllReadyH.cons (o := _) rfl (fun K hK => ?_) AllReadyH.nil
            refine stepo_setU rfl 5 _ _ rfl W.heap.size q (.int .u8 (z : Int)) rfl (by first | rfl | exact congrArg (Value.int .u8) hor) rfl infoU8 LG (hC (g0.adN x (i + 1))) tH (HB6) (by rw [HGL.out]; omega) HSET.out (fun U9 hu9 ho9 => ?_)
            refine hK.out _ _ (trivial) (fun hHeld => ?_)
            have HB9 : Bl W U9 := ho9.bl HB.out.drew (by omega)
            have HZ9 : U9.heap[W.heap.size + 1]? = some (.cells zH tH (0, 0)) := by rw [ho9.block _ (by show W.heap.size + 1 < wr.heap.size; omega) (by omega)]; exact HZZ.out
            have HS9 : W.heap.size + 2 ≤ U9.heap.size := Nat.le_trans hsz2 ho9.size
            have HD9 : Hid (U9.heap[W.heap.size]? = some (.cells (hC (g0.adN x (i + 1))).toArray tH (0, 0))) := hu9
            clear hK K
            (try simp only [Act.put, List.getElem_toArray, List.getElem_cons_succ, List.getElem_cons_zero, List.setIfInBounds_toArray, List.set_cons_zero, List.set_cons_succ, Act.eval, Array.getD_eq_getD_getElem?, List.getElem?_toArray, List.getElem?_cons_succ, List.getElem?_cons_zero, Option.getD_some])
            refine wpAnyH_done (by kernel_rfl) ?_ _
            refine NoPanic.normal ?_
            go_wp2_with fail
            go_roundw
            case rel => exact ⟨i + 1, by omega, by go_num, HB9, HS9, HD9.out, HZ9⟩
            case measure => simp [intOf]; omega
          refine AllReadyH.cons (o := _) rfl (fun K hK => ?_) ?_
          · go_simp
            go_at_call 28; refine (C5.out _).mono ?_; rintro e V9 ⟨rfl, hV9⟩; rw [hV9]; clear hV9; have HB9 := HD.out
            refine hK.out _ _ (trivial) (fun hHeld => ?_)
            clear hK K
            (try simp only [Act.put, List.getElem_toArray, List.getElem_cons_succ, List.getElem_cons_zero, List.setIfInBounds_toArray, List.set_cons_zero, List.set_cons_succ, Act.eval, Array.getD_eq_getD_getElem?, List.getElem?_toArray, List.getElem?_cons_succ, List.getElem?_cons_zero, Option.getD_some])
            refine wpAnyH_ready (rs := [3]) (by kernel_rfl) (by simp) ?_
            refine AllReadyH.cons (o := _) rfl (fun K hK => ?_) AllReadyH.nil
            refine stepo_loadU rfl 5 _ rfl W.heap.size q (by rfl) (.int .u8 (p : Int)) (cell_of (HB9) HCE.out) (Try.isAgg5 _) (hK.out _ _ (trivial) (fun hHeld => ?_))
            clear hK K
            (try simp only [Act.put, List.getElem_toArray, List.getElem_cons_succ, List.getElem_cons_zero, List.setIfInBounds_toArray, List.set_cons_zero, List.set_cons_succ, Act.eval, Array.getD_eq_getD_getElem?, List.getElem?_toArray, List.getElem?_cons_succ, List.getElem?_cons_zero, Option.getD_some])
            refine wpAnyH_take (i := 6) (v := ?_) rfl (by kernel_rfl) (by kernel_rfl) (by kernel_rfl) (fun _ _ _ h => h) (Or.inl ⟨by kernel_rfl, ?_⟩) (by assumption) ?_
            rotate_left
            · (intro w hSw; (try dsimp only at hSw); go_simp; (try with_reducible rfl))
            simp only [Act.put, List.getElem_toArray, List.getElem_cons_succ, List.getElem_cons_zero, List.setIfInBounds_toArray, List.set_cons_zero, List.set_cons_succ, Act.eval, Array.getD_eq_getD_getElem?, List.getElem?_toArray, List.getElem?_cons_succ, List.getElem?_cons_zero, Option.getD_some]
            refine wpAnyH_take (i := 7) (v := ?_) rfl (by kernel_rfl) (by kernel_rfl) (by kernel_rfl) (fun _ _ _ h => h) (Or.inl ⟨by kernel_rfl, ?_⟩) (by assumption) ?_
            rotate_left
            · (intro w hSw; (try dsimp only at hSw); go_simp; (try with_reducible rfl))
            simp only [Act.put, List.getElem_toArray, List.getElem_cons_succ, List.getElem_cons_zero, List.setIfInBounds_toArray, List.set_cons_zero, List.set_cons_succ, Act.eval, Array.getD_eq_getD_getElem?, List.getElem?_toArray, List.getElem?_cons_succ, List.getElem?_cons_zero, Option.getD_some]
            refine wpAnyH_ready (rs := [8]) (by kernel_rfl) (by simp) ?_
            refine AllReadyH.cons (o := _) rfl (fun K hK => ?_) AllReadyH.nil
            refine stepo_setU rfl 5 _ _ rfl W.heap.size q (.int .u8 (z : Int)) rfl (by first | rfl | exact congrArg (Value.int .u8) hor) rfl infoU8 LG (hC (g0.adN x (i + 1))) tH (HB9) (by rw [HGL.out]; omega) HSET.out (fun U13 hu13 ho13 => ?_)
            refine hK.out _ _ (trivial) (fun hHeld => ?_)
            have HB9 : Bl W U13 := ho13.bl HB.out.drew (by omega)
            have HZ9 : U13.heap[W.heap.size + 1]? = some (.cells zH tH (0, 0)) := by rw [ho13.block _ (by show W.heap.size + 1 < wr.heap.size; omega) (by omega)]; exact HZZ.out
            have HS9 : W.heap.size + 2 ≤ U13.heap.size := Nat.le_trans hsz2 ho13.size
            have HD9 : Hid (U13.heap[W.heap.size]? = some (.cells (hC (g0.adN x (i + 1))).toArray tH (0, 0))) := hu13
            clear hK K
            (try simp only [Act.put, List.getElem_toArray, List.getElem_cons_succ, List.getElem_cons_zero, List.setIfInBounds_toArray, List.set_cons_zero, List.set_cons_succ, Act.eval, Array.getD_eq_getD_getElem?, List.getElem?_toArray, List.getElem?_cons_succ, List.getElem?_cons_zero, Option.getD_some])
            refine wpAnyH_done (by kernel_rfl) ?_ _
            refine NoPanic.normal ?_
            go_wp2_with fail
            go_roundw
            case rel => exact ⟨i + 1, by omega, by go_num, HB9, HS9, HD9.out, HZ9⟩
            case measure => simp [intOf]; omega
          exact AllReadyH.nil
        · obtain rfl : i = 4 := by omega
          have HD : Hid (wr.heap[W.heap.size]? = some (.cells (hC (h.wi (l.take (k + 1)))).toArray tH (0, 0))) := by
            show _ = _
            rw [HSC.out, ← HAD4.out]; exact hd
          clear hd hb hz HML HKL HAD HAD0 HAD4 HSC
          go_wp2_with fail
          go_roundw
          case rel => exact ⟨k + 1, by omega, by go_num, HB.out, hsz2, HD.out, HZZ.out⟩
          case measure => simp [intOf]; omega
    · obtain rfl : k = l.length := by omega
      rw [List.take_length] at hd
      have HD : wr.rangeAt W.heap.size 0 (hC (h.wi l)) := range_of hd
      have HZZ : Hid (wr.heap[W.heap.size + 1]? = some (.cells zH tH (0, 0))) := hz
      have HB : Hid (Bl W wr) := hb
      have HI : Hid ((Try.prog.info? tH).map (·.size) = some (hC (h.wi l)).length) := by show _ = _; rw [hC_len]; exact infoH
      have HL : Hid ((hC (h.wi l)).length = 64) := hC_len _
      have HO : Hid (∀ u ∈ hC (h.wi l), u.oneCell' = true) := hC_one _
      clear hd hb hz
      generalize hLG : hC (h.wi l) = LG at *
      have HLG : Hid (hC (h.wi l) = LG) := hLG
      clear hLG
      go_wp2_with (first
        | (refine wl_midG (by rfl) tH _ rfl W.heap.size 0 rfl LG _ HD undH rfl HI.out ?_)
        | (refine wl_rowU rfl tH _ _ rfl (W.heap.size + 1) LG rfl rfl tH zH HZZ.out 64 infoH HL.out zH_size HO.out ?_; intro U0 hU0 hO0 hs0))
      (try simp only [Exit.inBlock, Exit.then])
      refine bodyPost_ret (results_cell_row rfl _ _ _ tH LG.toArray (0, 0) _ rfl hU0 undH rfl (by simpa using HI.out)) rfl ?_
      exact ⟨by rw [HLG.out], hO0.bl HB.out (by omega)⟩
set_option maxRecDepth 8000 in
set_option maxHeartbeats 4000000 in
theorem Of_x (l : List HZ.D) (a : Option Addr) (c : Nat) (hn : l.length ≤ maxLen) (W : World) (hv : RS lyD W a l) :
    Calls Try.prog 14 #[.slice a l.length c] W fun e w' => e = .returned (.agg (hC (HZ.zero.wi l)).toArray) ∧ Bl W w' := by
  have CW : Hid (Calls Try.prog 11 #[.agg zH, .slice a l.length c] (W.alloc (.cells zH tH)) fun e w' => e = .returned (.agg (hC (HZ.zero.wi l)).toArray) ∧ Bl (W.alloc (.cells zH tH)) w') := With_x HZ.zero l a c hn _ (hv.bl ((Bl.refl W).alloc _))
  have HL := hC_len (HZ.zero.wi l)
  have HI : Hid ((Try.prog.info? tH).map (·.size) = some (hC (HZ.zero.wi l)).length) := by show _ = _; rw [hC_len]; exact infoH
  have HO : Hid (∀ u ∈ hC (HZ.zero.wi l), u.oneCell' = true) := hC_one _
  have HBA : Hid (Bl W (W.alloc (.cells zH tH))) := (Bl.refl W).alloc _
  generalize hC (HZ.zero.wi l) = LG at *
  clear hv
  go_enter Try.func14, Try.ntmps14
  go_wp2_with (first
    | (refine wl_build rfl tH #[] rfl [] rfl zH builtH ?_)
    | (go_at_call 11; refine (CW.out).mono ?_; clear CW; rintro e w1 ⟨rfl, HB1⟩)
    | (refine wl_rowU rfl tH _ _ rfl W.heap.size LG rfl rfl tH zH HB1.box 64 infoH HL zH_size HO.out ?_; intro U0 hU0 hO0 hs0))
  (try simp only [Exit.inBlock, Exit.then])
  refine bodyPost_ret (results_cell_row rfl _ _ _ tH LG.toArray (0, 0) _ rfl hU0 undH rfl (by simpa using HI.out)) rfl ?_
  exact ⟨rfl, hO0.bl (HBA.out.step HB1) (by omega)⟩
end Go.Proofs.Ytokicaacllaijaa
