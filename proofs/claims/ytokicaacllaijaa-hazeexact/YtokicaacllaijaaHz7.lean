/- The reference's With and Join. -/
import Derived.Test.YtokicaacllaijaaHzC
import Derived.Test.YtokicaacllaijaaHzN
namespace Go.Proofs.Ytokicaacllaijaa
open Go.RowKit
set_option linter.unusedVariables false
set_option linter.unusedSimpArgs false
attribute [local go_sem ↓] zeroH zeroD

theorem on_add (g : HZ.H) {m : Nat} (hm : m < 512) (hb : g.bit m = false) : (hC g).set (m / 8) (.int .u8 (((g.b (m / 8)).toNat + 2 ^ (m % 8) : Nat) : Int)) = hC (g.on m) := by
  have e := HZ.or_add (g.b (m / 8)) m hb
  have := hC_set g (m / 8) (g.b (m / 8) ||| HZ.msk m)
  unfold vb at this
  rw [e] at this
  exact this
theorem add_lt (g : HZ.H) {m : Nat} (hb : g.bit m = false) : (g.b (m / 8)).toNat + 2 ^ (m % 8) < 256 := by
  have e := HZ.or_add (g.b (m / 8)) m hb
  have := (g.b (m / 8) ||| HZ.msk m).toNat_lt
  omega
theorem wrap_add {p r : Nat} (h : p + 2 ^ r < 256) : IntKind.u8.wrap ((p : Int) + IntKind.u8.wrap (2 ^ r)) = ((p + 2 ^ r : Nat) : Int) := by
  have e : (2 : Int) ^ r = ((2 ^ r : Nat) : Int) := by simp
  rw [e]
  generalize 2 ^ r = y at *
  rw [IntKind.wrap_u8', IntKind.wrap_u8']
  omega
set_option maxRecDepth 8000 in
set_option maxHeartbeats 4000000 in
theorem rWith_x (h : HZ.H) (l : List HZ.D) (a : Option Addr) (c : Nat) (hn : l.length ≤ maxLen) (W : World) (hv : RS lyD W a l) :
    Calls Try.prog 13 #[.agg (hC h).toArray, .slice a l.length c] W fun e w' => e = .returned (.agg (hC (h.wi l)).toArray) ∧ Bl W w' := by
  unfold maxLen at hn
  have HB0 : Hid (Bl W ((W.alloc (.cells (hC h).toArray tH)).alloc (.cells zH tH))) := ((Bl.refl W).alloc _).alloc _
  have HD0 : Hid (((W.alloc (.cells (hC h).toArray tH)).alloc (.cells zH tH)).heap[W.heap.size]? = some (.cells (hC h).toArray tH (0, 0))) := by
    show _ = _
    rw [Below.heap_alloc _ _ _ (by simp)]; exact heap_alloc_new W _
  have HZ0 : Hid (((W.alloc (.cells (hC h).toArray tH)).alloc (.cells zH tH)).heap[W.heap.size + 1]? = some (.cells zH tH (0, 0))) := by
    show _ = _
    simpa using heap_alloc_new (W.alloc (.cells (hC h).toArray tH)) (.cells zH tH)
  have HS0 : ((W.alloc (.cells (hC h).toArray tH)).alloc (.cells zH tH)).heap.size = W.heap.size + 2 := by simp
  have HV : Hid (RS lyD W a l) := hv
  have CM : Hid (∀ (k : HZ.D) (i : Nat) W, i < 4 → Calls Try.prog 30 #[.agg (dC k).toArray, .int .i64 (i : Int)] W fun e w' => e = .returned (.int .i64 (k.mk' i : Int)) ∧ Bl W w') := fun k i W hi => mark_x k i hi W
  have CB : Hid (∀ (g : HZ.H) (n : Nat) W, n < 512 → Calls Try.prog 29 #[.agg (hC g).toArray, .int .i64 (n : Int)] W fun e w' => e = .returned (.bool (g.bit n)) ∧ Bl W w') := fun g n W hn => bit_x g n hn W
  clear hv
  generalize hw1 : (W.alloc (.cells (hC h).toArray tH)).alloc (.cells zH tH) = W1 at *
  go_enter Try.func13, Try.ntmps13
  go_wp2_with fail
  clear hw1
  go_loopw [5, 6, 7] (fun u5 u6 u7 wr => ∃ k : Nat, k ≤ l.length ∧ u5 = .int .i64 (k : Int) ∧ Bl W wr ∧ W.heap.size + 2 ≤ wr.heap.size ∧ wr.heap[W.heap.size]? = some (.cells (hC (h.wi (l.take k))).toArray tH (0, 0)) ∧ wr.heap[W.heap.size + 1]? = some (.cells zH tH (0, 0))) (fun u5 _ _ _ => l.length - (intOf u5).toNat)
  case atStart => exact ⟨0, by omega, rfl, HB0.out, by omega, HD0.out, HZ0.out⟩
  case round =>
    clear HB0 HD0 HZ0 HS0
    obtain ⟨k, hk, rfl, hb, hsz, hd, hz⟩ := hrel
    by_cases hlt : k < l.length
    · obtain ⟨x, hx⟩ : ∃ x, l[k]? = some x := ⟨l[k], List.getElem?_eq_getElem hlt⟩
      have HSC : Hid (h.wi (l.take (k + 1)) = (h.wi (l.take k)).ad x) := HZ.H.wi_succ h hx
      obtain ⟨b, off, rfl, hbl, hra⟩ := HV.out k x hx
      have HRA : Hid (∀ U, Bl W U → U.rangeAt b (off + k * 32) (dC x)) := fun U hU j v hv => by rw [hU.cell hbl]; exact hra j v hv
      have HDI : Hid ((Try.prog.info? tD).map (·.size) = some (dC x).length) := by show _ = _; rw [dC_len]; exact infoD
      have CM1 : Hid (∀ (i : Nat) W, i < 4 → Calls Try.prog 30 #[.agg (dC x).toArray, .int .i64 (i : Int)] W fun e w' => e = .returned (.int .i64 (x.mk' i : Int)) ∧ Bl W w') := CM.out x
      have HAD : Hid (∀ g : HZ.H, ∀ i, g.adN x (i + 1) = (g.adN x i).on (x.mk' i)) := fun g i => rfl
      generalize hg0 : h.wi (l.take k) = g0 at *
      have HAD0 : Hid (g0.adN x 0 = g0) := rfl
      have HAD4 : Hid (g0.adN x 4 = g0.ad x) := rfl
      have HBW : Hid (Bl W wr) := hb
      have HDW : Hid (wr.heap[W.heap.size]? = some (.cells (hC g0).toArray tH (0, 0))) := hd
      have HZW : Hid (wr.heap[W.heap.size + 1]? = some (.cells zH tH (0, 0))) := hz
      clear hx hra hb hd hz CM hg0
      generalize dC x = LX at *
      go_wp2_with fail
      go_loopw [6, 7] (fun u6 u7 wr => ∃ i : Nat, i ≤ 4 ∧ u6 = .int .i64 (i : Int) ∧ Bl W wr ∧ W.heap.size + 2 ≤ wr.heap.size ∧ wr.heap[W.heap.size]? = some (.cells (hC (g0.adN x i)).toArray tH (0, 0)) ∧ wr.heap[W.heap.size + 1]? = some (.cells zH tH (0, 0))) (fun u6 _ _ => 4 - (intOf u6).toNat)
      case atStart => exact ⟨0, by omega, rfl, HBW.out, hsz, by rw [HAD0.out]; exact HDW.out, HZW.out⟩
      case round =>
        clear HBW HDW HZW hsz
        obtain ⟨i, hi, rfl, hb, hsz2, hd, hz⟩ := hrel
        have HB : Hid (Bl W wr) := hb
        have HZZ : Hid (wr.heap[W.heap.size + 1]? = some (.cells zH tH (0, 0))) := hz
        by_cases hlti : i < 4
        · have hml := x.mk_lt i
          have HON : Hid (g0.adN x (i + 1) = (g0.adN x i).on (x.mk' i)) := HAD.out g0 i
          have CM2 : Hid (Calls Try.prog 30 #[.agg LX.toArray, .int .i64 (i : Int)] wr fun e w' => e = .returned (.int .i64 (x.mk' i : Int)) ∧ Bl wr w') := CM1.out i wr hlti
          have RX := HRA.out wr hb
          clear HAD HAD0 HAD4 HSC CM1 HRA
          generalize hgg : g0.adN x i = g at *
          generalize hmm : x.mk' i = m at *
          have CB1 : Hid (∀ U, Calls Try.prog 29 #[.agg (hC g).toArray, .int .i64 (m : Int)] U fun e w' => e = .returned (.bool (g.bit m)) ∧ Bl U w') := fun U => CB.out g m U hml
          have HIH : Hid ((Try.prog.info? tH).map (·.size) = some (hC g).length) := by show _ = _; rw [hC_len]; exact infoH
          have HGL : Hid ((hC g).length = 64) := hC_len g
          clear CB hgg hmm
          cases hbt : g.bit m
          · rw [hbt] at CB1
            have HSET : Hid ((hC g).set (m / 8) (.int .u8 (((g.b (m / 8)).toNat + 2 ^ (m % 8) : Nat) : Int)) = hC (g.on m)) := on_add g hml hbt
            rw [← HON.out] at HSET
            have hal := add_lt g hbt
            have HCE : Hid ((hC g)[m / 8]? = some (.int .u8 ((g.b (m / 8)).toNat : Int))) := hC_at g (by omega)
            have HDD : Hid (wr.heap[W.heap.size]? = some (.cells (hC g).toArray tH (0, 0))) := hd
            clear hbt HON hb hz hd
            generalize hC g = LG at *
            go_wp2_with (first
              | (refine wl_midG (by rfl) tD _ rfl b (off + k * 32) rfl LX _ RX undD rfl HDI.out ?_)
              | (go_at_call 30; refine (CM2.out).mono ?_; clear CM2 RX; rintro e w1 ⟨rfl, HB1⟩; have RG := range_of (HB1.heap HDD.out))
              | (refine wl_midG (by rfl) tH _ rfl W.heap.size 0 rfl LG _ RG undH rfl HIH.out ?_)
              | (go_at_call 29; refine (CB1.out _).mono ?_; clear CB1 RG; rintro e w2 ⟨rfl, HB2⟩))
            have HB3 : Bl wr w2 := HB1.step HB2
            have HD : Hid (w2.drew.heap[W.heap.size]? = some (.cells LG.toArray tH (0, 0))) := HB3.heap HDD.out
            have HZ3 : Hid (w2.heap[W.heap.size + 1]? = some (.cells zH tH (0, 0))) := HB3.heap HZZ.out
            have HS3 : W.heap.size + 2 ≤ w2.heap.size := by have := HB3.size; omega
            have HBW3 : Hid (Bl W w2) := HB.out.step HB3
            clear HB1 HB2 HB3 HDD HZZ HB
            obtain ⟨q, hq⟩ : ∃ q : Nat, q = m / 8 := ⟨_, rfl⟩
            rw [← hq] at HSET HCE hal
            have hqm : (m : Int) / 8 = (q : Int) := by omega
            have hq1 : (q : Int) < 64 := by omega
            have hqw : IntKind.i64.wrap (q : Int) = (q : Int) := by rw [IntKind.wrap_i64]; omega
            clear hq
            generalize (g.b q).toNat = p at *
            have hr : m % 8 < 8 := Nat.mod_lt _ (by omega)
            have hrm : (m : Int).tmod 8 = ((m % 8 : Nat) : Int) := rfl
            generalize m % 8 = r at *
            have hadd : IntKind.u8.wrap ((p : Int) + IntKind.u8.wrap (2 ^ r)) = ((p + 2 ^ r : Nat) : Int) := wrap_add hal
            generalize p + 2 ^ r = s at *
            refine wp_region_noPanic ?_
            refine wp_region_held_drew (S := fun _ => True) (by kernel_rfl) (trivial) (fun hHeld => ?_)
            refine wpAnyH_take (i := 0) rfl (by kernel_rfl) (by kernel_rfl) (by kernel_rfl) (fun _ _ _ h => h) (yi_move (by kernel_rfl) rfl rfl) (by assumption) ?_
            simp only [Act.put, List.getElem_toArray, List.getElem_cons_succ, List.getElem_cons_zero, List.setIfInBounds_toArray, List.set_cons_zero, List.set_cons_succ, Act.eval, Array.getD_eq_getD_getElem?, List.getElem?_toArray, List.getElem?_cons_succ, List.getElem?_cons_zero, Option.getD_some]
            refine wpAnyH_take (i := 1) (v := ?_) rfl (by kernel_rfl) (by kernel_rfl) (by kernel_rfl) (fun _ _ _ h => h) (Or.inl ⟨by kernel_rfl, ?_⟩) (by assumption) ?_
            rotate_left
            · (intro w hSw; (try dsimp only at hSw); go_simp; (try with_reducible rfl))
            simp only [Act.put, List.getElem_toArray, List.getElem_cons_succ, List.getElem_cons_zero, List.setIfInBounds_toArray, List.set_cons_zero, List.set_cons_succ, Act.eval, Array.getD_eq_getD_getElem?, List.getElem?_toArray, List.getElem?_cons_succ, List.getElem?_cons_zero, Option.getD_some]
            refine wpAnyH_take (i := 2) rfl (by kernel_rfl) (by kernel_rfl) (by kernel_rfl) (fun _ _ _ h => h) (yi_move (by kernel_rfl) rfl rfl) (by assumption) ?_
            simp only [Act.put, List.getElem_toArray, List.getElem_cons_succ, List.getElem_cons_zero, List.setIfInBounds_toArray, List.set_cons_zero, List.set_cons_succ, Act.eval, Array.getD_eq_getD_getElem?, List.getElem?_toArray, List.getElem?_cons_succ, List.getElem?_cons_zero, Option.getD_some]
            refine wpAnyH_take (i := 3) (v := ?_) rfl (by kernel_rfl) (by kernel_rfl) (by kernel_rfl) (fun _ _ _ h => h) (Or.inl ⟨by kernel_rfl, ?_⟩) (by assumption) ?_
            rotate_left
            · (intro w hSw; (try dsimp only at hSw); go_simp; (try with_reducible rfl))
            simp only [Act.put, List.getElem_toArray, List.getElem_cons_succ, List.getElem_cons_zero, List.setIfInBounds_toArray, List.set_cons_zero, List.set_cons_succ, Act.eval, Array.getD_eq_getD_getElem?, List.getElem?_toArray, List.getElem?_cons_succ, List.getElem?_cons_zero, Option.getD_some]
            refine wpAnyH_take (i := 4) (v := ?_) rfl (by kernel_rfl) (by kernel_rfl) (by kernel_rfl) (fun _ _ _ h => h) (Or.inl ⟨by kernel_rfl, ?_⟩) (by assumption) ?_
            rotate_left
            · (intro w hSw; (try dsimp only at hSw); go_simp; (try with_reducible rfl))
            simp only [Act.put, List.getElem_toArray, List.getElem_cons_succ, List.getElem_cons_zero, List.setIfInBounds_toArray, List.set_cons_zero, List.set_cons_succ, Act.eval, Array.getD_eq_getD_getElem?, List.getElem?_toArray, List.getElem?_cons_succ, List.getElem?_cons_zero, Option.getD_some]
            refine wpAnyH_take (i := 6) rfl (by kernel_rfl) (by kernel_rfl) (by kernel_rfl) (fun _ _ _ h => h) (yi_move (by kernel_rfl) rfl rfl) (by assumption) ?_
            simp only [Act.put, List.getElem_toArray, List.getElem_cons_succ, List.getElem_cons_zero, List.setIfInBounds_toArray, List.set_cons_zero, List.set_cons_succ, Act.eval, Array.getD_eq_getD_getElem?, List.getElem?_toArray, List.getElem?_cons_succ, List.getElem?_cons_zero, Option.getD_some]
            refine wpAnyH_take (i := 7) (v := ?_) rfl (by kernel_rfl) (by kernel_rfl) (by kernel_rfl) (fun _ _ _ h => h) (Or.inl ⟨by kernel_rfl, ?_⟩) (by assumption) ?_
            rotate_left
            · (intro w hSw; (try dsimp only at hSw); go_simp; (try with_reducible rfl))
            simp only [Act.put, List.getElem_toArray, List.getElem_cons_succ, List.getElem_cons_zero, List.setIfInBounds_toArray, List.set_cons_zero, List.set_cons_succ, Act.eval, Array.getD_eq_getD_getElem?, List.getElem?_toArray, List.getElem?_cons_succ, List.getElem?_cons_zero, Option.getD_some]
            refine wpAnyH_take (i := 8) (v := ?_) rfl (by kernel_rfl) (by kernel_rfl) (by kernel_rfl) (fun _ _ _ h => h) (Or.inl ⟨by kernel_rfl, ?_⟩) (by assumption) ?_
            rotate_left
            · (intro w hSw; (try dsimp only at hSw); go_simp; (try with_reducible rfl))
            simp only [Act.put, List.getElem_toArray, List.getElem_cons_succ, List.getElem_cons_zero, List.setIfInBounds_toArray, List.set_cons_zero, List.set_cons_succ, Act.eval, Array.getD_eq_getD_getElem?, List.getElem?_toArray, List.getElem?_cons_succ, List.getElem?_cons_zero, Option.getD_some]
            refine wpAnyH_ready (rs := [5]) (by kernel_rfl) (by simp) ?_
            refine AllReadyH.cons (o := _) rfl (fun K hK => ?_) AllReadyH.nil
            refine stepo_loadU rfl 5 _ rfl W.heap.size q (by rfl) (.int .u8 (p : Int)) (cell_of (HD.out) HCE.out) (Try.isAgg5 _) (hK.out _ _ (trivial) (fun hHeld => ?_))
            clear hK K
            (try simp only [Act.put, List.getElem_toArray, List.getElem_cons_succ, List.getElem_cons_zero, List.setIfInBounds_toArray, List.set_cons_zero, List.set_cons_succ, Act.eval, Array.getD_eq_getD_getElem?, List.getElem?_toArray, List.getElem?_cons_succ, List.getElem?_cons_zero, Option.getD_some])
            refine wpAnyH_take (i := 9) (v := ?_) rfl (by kernel_rfl) (by kernel_rfl) (by kernel_rfl) (fun _ _ _ h => h) (Or.inl ⟨by kernel_rfl, ?_⟩) (by assumption) ?_
            rotate_left
            · (intro w hSw; (try dsimp only at hSw); go_simp; (try with_reducible rfl))
            simp only [Act.put, List.getElem_toArray, List.getElem_cons_succ, List.getElem_cons_zero, List.setIfInBounds_toArray, List.set_cons_zero, List.set_cons_succ, Act.eval, Array.getD_eq_getD_getElem?, List.getElem?_toArray, List.getElem?_cons_succ, List.getElem?_cons_zero, Option.getD_some]
            refine wpAnyH_take (i := 10) (v := ?_) rfl (by kernel_rfl) (by kernel_rfl) (by kernel_rfl) (fun _ _ _ h => h) (Or.inl ⟨by kernel_rfl, ?_⟩) (by assumption) ?_
            rotate_left
            · (intro w hSw; (try dsimp only at hSw); go_simp; (try with_reducible rfl))
            simp only [Act.put, List.getElem_toArray, List.getElem_cons_succ, List.getElem_cons_zero, List.setIfInBounds_toArray, List.set_cons_zero, List.set_cons_succ, Act.eval, Array.getD_eq_getD_getElem?, List.getElem?_toArray, List.getElem?_cons_succ, List.getElem?_cons_zero, Option.getD_some]
            refine wpAnyH_ready (rs := [11]) (by kernel_rfl) (by simp) ?_
            refine AllReadyH.cons (o := _) rfl (fun K hK => ?_) AllReadyH.nil
            refine stepo_setU rfl 5 _ _ rfl W.heap.size q (.int .u8 (s : Int)) rfl (by first | rfl | exact congrArg (Value.int .u8) hadd) rfl infoU8 LG (hC (g0.adN x (i + 1))) tH (HD.out) (by rw [HGL.out]; omega) HSET.out (fun U12 hu12 ho12 => ?_)
            refine hK.out _ _ (trivial) (fun hHeld => ?_)
            have HB9 : Bl W U12 := ho12.bl HBW3.out.drew (by omega)
            have HZ9 : U12.heap[W.heap.size + 1]? = some (.cells zH tH (0, 0)) := by rw [ho12.block _ (by show W.heap.size + 1 < w2.heap.size; omega) (by omega)]; exact HZ3.out
            have HS9 : W.heap.size + 2 ≤ U12.heap.size := Nat.le_trans HS3 ho12.size
            have HD9 : Hid (U12.heap[W.heap.size]? = some (.cells (hC (g0.adN x (i + 1))).toArray tH (0, 0))) := hu12
            clear hK K
            (try simp only [Act.put, List.getElem_toArray, List.getElem_cons_succ, List.getElem_cons_zero, List.setIfInBounds_toArray, List.set_cons_zero, List.set_cons_succ, Act.eval, Array.getD_eq_getD_getElem?, List.getElem?_toArray, List.getElem?_cons_succ, List.getElem?_cons_zero, Option.getD_some])
            refine wpAnyH_done (by kernel_rfl) ?_ _
            refine NoPanic.normal ?_
            go_wp2_with fail
            go_roundw
            case rel => exact ⟨i + 1, by omega, by go_num, HB9, HS9, HD9.out, HZ9⟩
            case measure => simp [intOf]; omega
          · rw [hbt] at CB1
            have HSAME : Hid (g0.adN x (i + 1) = g) := by show _ = _; rw [HON.out]; exact HZ.H.on_same g hml hbt
            have HDD : Hid (wr.heap[W.heap.size]? = some (.cells (hC g).toArray tH (0, 0))) := hd
            clear hbt HON hb hz hd
            generalize hLG : hC g = LG at *
            have HLG : Hid (hC g = LG) := hLG
            clear hLG
            go_wp2_with (first
              | (refine wl_midG (by rfl) tD _ rfl b (off + k * 32) rfl LX _ RX undD rfl HDI.out ?_)
              | (go_at_call 30; refine (CM2.out).mono ?_; clear CM2 RX; rintro e w1 ⟨rfl, HB1⟩; have RG := range_of (HB1.heap HDD.out))
              | (refine wl_midG (by rfl) tH _ rfl W.heap.size 0 rfl LG _ RG undH rfl HIH.out ?_)
              | (go_at_call 29; refine (CB1.out _).mono ?_; clear CB1 RG; rintro e w2 ⟨rfl, HB2⟩))
            have HB3 : Bl wr w2 := HB1.step HB2
            have HS3 : W.heap.size + 2 ≤ w2.heap.size := by have := HB3.size; omega
            go_roundw
            case rel => exact ⟨i + 1, by omega, by go_num, HB.out.step HB3, HS3, by rw [HSAME.out, HLG.out]; exact HB3.heap HDD.out, HB3.heap HZZ.out⟩
            case measure => simp [intOf]; omega
        · obtain rfl : i = 4 := by omega
          have HD : Hid (wr.heap[W.heap.size]? = some (.cells (hC (h.wi (l.take (k + 1)))).toArray tH (0, 0))) := by
            show _ = _
            rw [HSC.out, ← HAD4.out]; exact hd
          clear hd hb hz HAD HAD0 HAD4 HSC CM1 HRA CB
          go_wp2_with fail
          go_roundw
          case rel => exact ⟨k + 1, by omega, by go_num, HB.out, hsz2, HD.out, HZZ.out⟩
          case measure => simp [intOf]; omega
    · obtain rfl : k = l.length := by omega
      rw [List.take_length] at hd
      have HD : wr.rangeAt W.heap.size 0 (hC (h.wi l)) := range_of hd
      have HZZ : Hid (wr.heap[W.heap.size + 1]? = some (.cells zH tH (0, 0))) := hz
      have HB : Hid (Bl W wr) := hb
      have HI : Hid ((Try.prog.info? tH).map (·.size) = some (hC (h.wi l)).length) := by show _ = _; rw [hC_len]; exact infoH
      have HL : Hid ((hC (h.wi l)).length = 64) := hC_len _
      have HO : Hid (∀ u ∈ hC (h.wi l), u.oneCell' = true) := hC_one _
      clear hd hb hz
      generalize hLG : hC (h.wi l) = LG at *
      have HLG : Hid (hC (h.wi l) = LG) := hLG
      clear hLG
      go_wp2_with (first
        | (refine wl_midG (by rfl) tH _ rfl W.heap.size 0 rfl LG _ HD undH rfl HI.out ?_)
        | (refine wl_rowU rfl tH _ _ rfl (W.heap.size + 1) LG rfl rfl tH zH HZZ.out 64 infoH HL.out zH_size HO.out ?_; intro U0 hU0 hO0 hs0))
      (try simp only [Exit.inBlock, Exit.then])
      refine bodyPost_ret (results_cell_row rfl _ _ _ tH LG.toArray (0, 0) _ rfl hU0 undH rfl (by simpa using HI.out)) rfl ?_
      exact ⟨by rw [HLG.out], hO0.bl HB.out (by omega)⟩
end Go.Proofs.Ytokicaacllaijaa
