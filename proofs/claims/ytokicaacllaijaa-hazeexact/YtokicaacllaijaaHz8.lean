/- The reference's Join. -/
import Derived.Test.YtokicaacllaijaaHz7
import Derived.BigGuard
namespace Go.Proofs.Ytokicaacllaijaa
open Go.RowKit
set_option linter.unusedVariables false
set_option linter.unusedSimpArgs false
attribute [local go_sem ↓] zeroH zeroD

set_option maxRecDepth 8000 in
set_option maxHeartbeats 4000000 in
theorem rJoin_x (l : List HZ.H) (a : Option Addr) (c : Nat) (hn : l.length ≤ maxLen) (W : World) (hv : RS lyH W a l) :
    Calls Try.prog 12 #[.slice a l.length c] W fun e w' => e = .returned (.agg (hC (HZ.jo l)).toArray) ∧ Bl W w' := by
  unfold maxLen at hn
  have HB0 : Hid (Bl W ((W.alloc (.cells zH tH)).alloc (.cells zH tH))) := ((Bl.refl W).alloc _).alloc _
  have HD0 : Hid (((W.alloc (.cells zH tH)).alloc (.cells zH tH)).heap[W.heap.size]? = some (.cells zH tH (0, 0))) := by
    show _ = _
    rw [Below.heap_alloc _ _ _ (by simp)]; exact heap_alloc_new W _
  have HZ0 : Hid (((W.alloc (.cells zH tH)).alloc (.cells zH tH)).heap[W.heap.size + 1]? = some (.cells zH tH (0, 0))) := by
    show _ = _
    simpa using heap_alloc_new (W.alloc (.cells zH tH)) (.cells zH tH)
  have HS0 : ((W.alloc (.cells zH tH)).alloc (.cells zH tH)).heap.size = W.heap.size + 2 := by simp
  have HV : Hid (RS lyH W a l) := hv
  have CB : Hid (∀ (g : HZ.H) (n : Nat) W, n < 512 → Calls Try.prog 29 #[.agg (hC g).toArray, .int .i64 (n : Int)] W fun e w' => e = .returned (.bool (g.bit n)) ∧ Bl W w') := fun g n W hn => bit_x g n hn W
  clear hv
  have HZL : (hC HZ.zero).length = 64 := hC_len _
  have HZO : Hid (∀ u ∈ hC HZ.zero, u.oneCell' = true) := hC_one _
  generalize hw1 : (W.alloc (.cells zH tH)).alloc (.cells zH tH) = W1 at *
  go_enter Try.func12, Try.ntmps12
  go_wp2_with (first
    | (refine wl_build rfl tH #[] rfl [] rfl zH builtH ?_)
    | (refine wl_rowU rfl tH _ _ rfl (W.heap.size + 1) (hC HZ.zero) rfl rfl tH zH HZ0.out 64 infoH HZL zH_size HZO.out ?_; intro U0 hU0 hO0 hs0))
  have HBU : Bl W U0 := hO0.bl HB0.out (by omega)
  have HDU : U0.heap[W.heap.size]? = some (.cells zH tH (0, 0)) := by rw [hO0.block _ (by omega) (by omega)]; exact HD0.out
  have HSU : U0.heap.size = W.heap.size + 2 := by omega
  clear hw1 HB0 HD0 HZ0 HS0 hO0 hs0
  go_loopw [4, 5] (fun u4 u5 wr => ∃ k : Nat, k ≤ l.length ∧ u4 = .int .i64 (k : Int) ∧ Bl W wr ∧ W.heap.size + 2 ≤ wr.heap.size ∧ wr.heap[W.heap.size]? = some (.cells zH tH (0, 0)) ∧ wr.heap[W.heap.size + 1]? = some (.cells (hC (HZ.jo (l.take k))).toArray tH (0, 0))) (fun u4 _ _ => l.length - (intOf u4).toNat)
  case atStart => exact ⟨0, by omega, rfl, HBU, by omega, HDU, hU0⟩
  case round =>
    clear HBU HDU hU0 HSU
    obtain ⟨k, hk, rfl, hb, hsz, hz, hd⟩ := hrel
    by_cases hlt : k < l.length
    · obtain ⟨x, hx⟩ : ∃ x, l[k]? = some x := ⟨l[k], List.getElem?_eq_getElem hlt⟩
      have HSC : Hid (HZ.jo (l.take (k + 1)) = (HZ.jo (l.take k)).or x) := HZ.jo_succ hx
      obtain ⟨b, off, rfl, hbl, hra⟩ := HV.out k x hx
      have HRA : Hid (∀ U, Bl W U → U.rangeAt b (off + k * 64) (hC x)) := fun U hU j v hv => by rw [hU.cell hbl]; exact hra j v hv
      have HDI : Hid ((Try.prog.info? tH).map (·.size) = some (hC x).length) := by show _ = _; rw [hC_len]; exact infoH
      have CX : Hid (∀ (n : Nat) U, n < 512 → Calls Try.prog 29 #[.agg (hC x).toArray, .int .i64 (n : Int)] U fun e w' => e = .returned (.bool (x.bit n)) ∧ Bl U w') := CB.out x
      generalize hg0 : HZ.jo (l.take k) = g0 at *
      have HO0 : Hid (g0.orB x 0 = g0) := rfl
      have HO4 : Hid (g0.orB x 512 = g0.or x) := HZ.H.orB_all g0 x
      have HBW : Hid (Bl W wr) := hb
      have HDW : Hid (wr.heap[W.heap.size + 1]? = some (.cells (hC g0).toArray tH (0, 0))) := hd
      have HZW : Hid (wr.heap[W.heap.size]? = some (.cells zH tH (0, 0))) := hz
      clear hx hra hb hd hz hg0
      generalize hC x = LX at *
      go_wp2_with fail
      go_loopw [5] (fun u5 wr => ∃ i : Nat, i ≤ 512 ∧ u5 = .int .i64 (i : Int) ∧ Bl W wr ∧ W.heap.size + 2 ≤ wr.heap.size ∧ wr.heap[W.heap.size]? = some (.cells zH tH (0, 0)) ∧ wr.heap[W.heap.size + 1]? = some (.cells (hC (g0.orB x i)).toArray tH (0, 0))) (fun u5 _ => 512 - (intOf u5).toNat)
      case atStart => exact ⟨0, by omega, rfl, HBW.out, hsz, HZW.out, by rw [HO0.out]; exact HDW.out⟩
      case round =>
        clear HBW HDW HZW hsz
        obtain ⟨i, hi, rfl, hb, hsz2, hz, hd⟩ := hrel
        have HB : Hid (Bl W wr) := hb
        have HZZ : Hid (wr.heap[W.heap.size]? = some (.cells zH tH (0, 0))) := hz
        by_cases hlti : i < 512
        · have RX := HRA.out wr hb
          have CX1 : Hid (Calls Try.prog 29 #[.agg LX.toArray, .int .i64 (i : Int)] wr fun e w' => e = .returned (.bool (x.bit i)) ∧ Bl wr w') := CX.out i wr hlti
          have HDD : Hid (wr.heap[W.heap.size + 1]? = some (.cells (hC (g0.orB x i)).toArray tH (0, 0))) := hd
          clear hb hz hd CX HRA HSC HO4 HO0
          cases hxb : x.bit i
          · rw [hxb] at CX1
            have HSAME : Hid (g0.orB x (i + 1) = g0.orB x i) := HZ.H.orB_no hxb
            clear hxb CB
            generalize hLG : hC (g0.orB x i) = LG at *
            have HLG : Hid (hC (g0.orB x i) = LG) := hLG
            clear hLG
            go_wp2_with (first
              | go_big_skip
              | (refine wl_midG (by rfl) tH _ rfl b (off + k * 64) rfl LX _ RX undH rfl HDI.out ?_)
              | (go_at_call 29; refine (CX1.out).mono ?_; clear CX1 RX; rintro e w1 ⟨rfl, HB1⟩))
            have HS3 : W.heap.size + 2 ≤ w1.heap.size := by have := HB1.size; omega
            go_roundw
            case rel => exact ⟨i + 1, by omega, by go_num, HB.out.step HB1, HS3, HB1.heap HZZ.out, by rw [HSAME.out, HLG.out]; exact HB1.heap HDD.out⟩
            case measure => simp [intOf]; omega
          · rw [hxb] at CX1
            have HON : Hid (g0.orB x (i + 1) = (g0.orB x i).on i) := HZ.H.orB_yes hxb
            have HHAD : Hid ((g0.orB x i).bit i = true → g0.orB x (i + 1) = g0.orB x i) := HZ.H.orB_had hlti
            clear hxb
            generalize hgg : g0.orB x i = g at *
            have CB1 : Hid (∀ U, Calls Try.prog 29 #[.agg (hC g).toArray, .int .i64 (i : Int)] U fun e w' => e = .returned (.bool (g.bit i)) ∧ Bl U w') := fun U => CB.out g i U hlti
            have HIH : Hid ((Try.prog.info? tH).map (·.size) = some (hC g).length) := by show _ = _; rw [hC_len]; exact infoH
            have HGL : Hid ((hC g).length = 64) := hC_len g
            clear CB hgg
            cases hbt : g.bit i
            · rw [hbt] at CB1
              have HSET : Hid ((hC g).set (i / 8) (.int .u8 (((g.b (i / 8)).toNat + 2 ^ (i % 8) : Nat) : Int)) = hC (g.on i)) := on_add g hlti hbt
              rw [← HON.out] at HSET
              have hal := add_lt g hbt
              have HCE : Hid ((hC g)[i / 8]? = some (.int .u8 ((g.b (i / 8)).toNat : Int))) := hC_at g (by omega)
              clear hbt HON HHAD
              generalize hC g = LG at *
              go_wp2_with (first
                | go_big_skip
                | (refine wl_midG (by rfl) tH _ rfl b (off + k * 64) rfl LX _ RX undH rfl HDI.out ?_)
                | (go_at_call 29; refine (CX1.out).mono ?_; clear CX1 RX; rintro e w1 ⟨rfl, HB1⟩; have RG := range_of (HB1.heap HDD.out))
                | (refine wl_midG (by rfl) tH _ rfl (W.heap.size + 1) 0 rfl LG _ RG undH rfl HIH.out ?_)
                | (go_at_call 29; refine (CB1.out _).mono ?_; clear CB1 RG; rintro e w2 ⟨rfl, HB2⟩))
              have HB3 : Bl wr w2 := HB1.step HB2
              have HD : Hid (w2.drew.heap[W.heap.size + 1]? = some (.cells LG.toArray tH (0, 0))) := HB3.heap HDD.out
              have HZ3 : Hid (w2.heap[W.heap.size]? = some (.cells zH tH (0, 0))) := HB3.heap HZZ.out
              have HS3 : W.heap.size + 2 ≤ w2.heap.size := by have := HB3.size; omega
              have HBW3 : Hid (Bl W w2) := HB.out.step HB3
              clear HB1 HB2 HB3 HDD HZZ HB
              obtain ⟨q, hq⟩ : ∃ q : Nat, q = i / 8 := ⟨_, rfl⟩
              rw [← hq] at HSET HCE hal
              have hqm : (i : Int) / 8 = (q : Int) := by omega
              have hq1 : (q : Int) < 64 := by omega
              have hqw : IntKind.i64.wrap (q : Int) = (q : Int) := by rw [IntKind.wrap_i64]; omega
              clear hq
              generalize (g.b q).toNat = p at *
              have hr : i % 8 < 8 := Nat.mod_lt _ (by omega)
              have hrm : (i : Int).tmod 8 = ((i % 8 : Nat) : Int) := rfl
              generalize hrr : i % 8 = r at *
              clear hrr
              have hadd : IntKind.u8.wrap ((p : Int) + IntKind.u8.wrap (2 ^ r)) = ((p + 2 ^ r : Nat) : Int) := wrap_add hal
              generalize p + 2 ^ r = s at *
              refine wp_region_noPanic ?_
              refine wp_region_held_drew (S := fun _ => True) (by kernel_rfl) (trivial) (fun hHeld => ?_)
              refine wpAnyH_take (i := 0) rfl (by kernel_rfl) (by kernel_rfl) (by kernel_rfl) (fun _ _ _ h => h) (yi_move (by kernel_rfl) rfl rfl) (by assumption) ?_
              simp only [Act.put, List.getElem_toArray, List.getElem_cons_succ, List.getElem_cons_zero, List.setIfInBounds_toArray, List.set_cons_zero, List.set_cons_succ, Act.eval, Array.getD_eq_getD_getElem?, List.getElem?_toArray, List.getElem?_cons_succ, List.getElem?_cons_zero, Option.getD_some]
              refine wpAnyH_take (i := 1) (v := ?_) rfl (by kernel_rfl) (by kernel_rfl) (by kernel_rfl) (fun _ _ _ h => h) (Or.inl ⟨by kernel_rfl, ?_⟩) (by assumption) ?_
              rotate_left
              · (intro w hSw; (try dsimp only at hSw); go_simp; (try with_reducible rfl))
              simp only [Act.put, List.getElem_toArray, List.getElem_cons_succ, List.getElem_cons_zero, List.setIfInBounds_toArray, List.set_cons_zero, List.set_cons_succ, Act.eval, Array.getD_eq_getD_getElem?, List.getElem?_toArray, List.getElem?_cons_succ, List.getElem?_cons_zero, Option.getD_some]
              refine wpAnyH_take (i := 2) rfl (by kernel_rfl) (by kernel_rfl) (by kernel_rfl) (fun _ _ _ h => h) (yi_move (by kernel_rfl) rfl rfl) (by assumption) ?_
              simp only [Act.put, List.getElem_toArray, List.getElem_cons_succ, List.getElem_cons_zero, List.setIfInBounds_toArray, List.set_cons_zero, List.set_cons_succ, Act.eval, Array.getD_eq_getD_getElem?, List.getElem?_toArray, List.getElem?_cons_succ, List.getElem?_cons_zero, Option.getD_some]
              refine wpAnyH_take (i := 3) (v := ?_) rfl (by kernel_rfl) (by kernel_rfl) (by kernel_rfl) (fun _ _ _ h => h) (Or.inl ⟨by kernel_rfl, ?_⟩) (by assumption) ?_
              rotate_left
              · (intro w hSw; (try dsimp only at hSw); go_simp; (try with_reducible rfl))
              simp only [Act.put, List.getElem_toArray, List.getElem_cons_succ, List.getElem_cons_zero, List.setIfInBounds_toArray, List.set_cons_zero, List.set_cons_succ, Act.eval, Array.getD_eq_getD_getElem?, List.getElem?_toArray, List.getElem?_cons_succ, List.getElem?_cons_zero, Option.getD_some]
              refine wpAnyH_take (i := 4) (v := ?_) rfl (by kernel_rfl) (by kernel_rfl) (by kernel_rfl) (fun _ _ _ h => h) (Or.inl ⟨by kernel_rfl, ?_⟩) (by assumption) ?_
              rotate_left
              · (intro w hSw; (try dsimp only at hSw); go_simp; (try with_reducible rfl))
              simp only [Act.put, List.getElem_toArray, List.getElem_cons_succ, List.getElem_cons_zero, List.setIfInBounds_toArray, List.set_cons_zero, List.set_cons_succ, Act.eval, Array.getD_eq_getD_getElem?, List.getElem?_toArray, List.getElem?_cons_succ, List.getElem?_cons_zero, Option.getD_some]
              refine wpAnyH_take (i := 6) rfl (by kernel_rfl) (by kernel_rfl) (by kernel_rfl) (fun _ _ _ h => h) (yi_move (by kernel_rfl) rfl rfl) (by assumption) ?_
              simp only [Act.put, List.getElem_toArray, List.getElem_cons_succ, List.getElem_cons_zero, List.setIfInBounds_toArray, List.set_cons_zero, List.set_cons_succ, Act.eval, Array.getD_eq_getD_getElem?, List.getElem?_toArray, List.getElem?_cons_succ, List.getElem?_cons_zero, Option.getD_some]
              refine wpAnyH_take (i := 7) (v := ?_) rfl (by kernel_rfl) (by kernel_rfl) (by kernel_rfl) (fun _ _ _ h => h) (Or.inl ⟨by kernel_rfl, ?_⟩) (by assumption) ?_
              rotate_left
              · (intro w hSw; (try dsimp only at hSw); go_simp; (try with_reducible rfl))
              simp only [Act.put, List.getElem_toArray, List.getElem_cons_succ, List.getElem_cons_zero, List.setIfInBounds_toArray, List.set_cons_zero, List.set_cons_succ, Act.eval, Array.getD_eq_getD_getElem?, List.getElem?_toArray, List.getElem?_cons_succ, List.getElem?_cons_zero, Option.getD_some]
              refine wpAnyH_take (i := 8) (v := ?_) rfl (by kernel_rfl) (by kernel_rfl) (by kernel_rfl) (fun _ _ _ h => h) (Or.inl ⟨by kernel_rfl, ?_⟩) (by assumption) ?_
              rotate_left
              · (intro w hSw; (try dsimp only at hSw); go_simp; (try with_reducible rfl))
              simp only [Act.put, List.getElem_toArray, List.getElem_cons_succ, List.getElem_cons_zero, List.setIfInBounds_toArray, List.set_cons_zero, List.set_cons_succ, Act.eval, Array.getD_eq_getD_getElem?, List.getElem?_toArray, List.getElem?_cons_succ, List.getElem?_cons_zero, Option.getD_some]
              refine wpAnyH_ready (rs := [5]) (by kernel_rfl) (by simp) ?_
              refine AllReadyH.cons (o := _) rfl (fun K hK => ?_) AllReadyH.nil
              refine stepo_loadU rfl 5 _ rfl (W.heap.size + 1) q (by rfl) (.int .u8 (p : Int)) (cell_of (HD.out) HCE.out) (Try.isAgg5 _) (hK.out _ _ (trivial) (fun hHeld => ?_))
              clear hK K
              (try simp only [Act.put, List.getElem_toArray, List.getElem_cons_succ, List.getElem_cons_zero, List.setIfInBounds_toArray, List.set_cons_zero, List.set_cons_succ, Act.eval, Array.getD_eq_getD_getElem?, List.getElem?_toArray, List.getElem?_cons_succ, List.getElem?_cons_zero, Option.getD_some])
              refine wpAnyH_take (i := 9) (v := ?_) rfl (by kernel_rfl) (by kernel_rfl) (by kernel_rfl) (fun _ _ _ h => h) (Or.inl ⟨by kernel_rfl, ?_⟩) (by assumption) ?_
              rotate_left
              · (intro w hSw; (try dsimp only at hSw); go_simp; (try with_reducible rfl))
              simp only [Act.put, List.getElem_toArray, List.getElem_cons_succ, List.getElem_cons_zero, List.setIfInBounds_toArray, List.set_cons_zero, List.set_cons_succ, Act.eval, Array.getD_eq_getD_getElem?, List.getElem?_toArray, List.getElem?_cons_succ, List.getElem?_cons_zero, Option.getD_some]
              refine wpAnyH_take (i := 10) (v := ?_) rfl (by kernel_rfl) (by kernel_rfl) (by kernel_rfl) (fun _ _ _ h => h) (Or.inl ⟨by kernel_rfl, ?_⟩) (by assumption) ?_
              rotate_left
              · (intro w hSw; (try dsimp only at hSw); go_simp; (try with_reducible rfl))
              simp only [Act.put, List.getElem_toArray, List.getElem_cons_succ, List.getElem_cons_zero, List.setIfInBounds_toArray, List.set_cons_zero, List.set_cons_succ, Act.eval, Array.getD_eq_getD_getElem?, List.getElem?_toArray, List.getElem?_cons_succ, List.getElem?_cons_zero, Option.getD_some]
              refine wpAnyH_ready (rs := [11]) (by kernel_rfl) (by simp) ?_
              refine AllReadyH.cons (o := _) rfl (fun K hK => ?_) AllReadyH.nil
              refine stepo_setU rfl 5 _ _ rfl (W.heap.size + 1) q (.int .u8 (s : Int)) rfl (by first | rfl | exact congrArg (Value.int .u8) hadd) rfl infoU8 LG (hC (g0.orB x (i + 1))) tH (HD.out) (by rw [HGL.out]; omega) HSET.out (fun U12 hu12 ho12 => ?_)
              refine hK.out _ _ (trivial) (fun hHeld => ?_)
              have HB9 : Bl W U12 := ho12.bl HBW3.out.drew (by omega)
              have HZ9 : U12.heap[W.heap.size]? = some (.cells zH tH (0, 0)) := by rw [ho12.block _ (by show W.heap.size < w2.heap.size; omega) (by omega)]; exact HZ3.out
              have HS9 : W.heap.size + 2 ≤ U12.heap.size := Nat.le_trans HS3 ho12.size
              have HD9 : Hid (U12.heap[W.heap.size + 1]? = some (.cells (hC (g0.orB x (i + 1))).toArray tH (0, 0))) := hu12
              clear hK K
              (try simp only [Act.put, List.getElem_toArray, List.getElem_cons_succ, List.getElem_cons_zero, List.setIfInBounds_toArray, List.set_cons_zero, List.set_cons_succ, Act.eval, Array.getD_eq_getD_getElem?, List.getElem?_toArray, List.getElem?_cons_succ, List.getElem?_cons_zero, Option.getD_some])
              refine wpAnyH_done (by kernel_rfl) ?_ _
              refine NoPanic.normal ?_
              go_wp2_with fail
              go_roundw
              case rel => exact ⟨i + 1, by omega, by go_num, HB9, HS9, HZ9, HD9.out⟩
              case measure => simp [intOf]; omega
            · rw [hbt] at CB1
              have HSAME : Hid (g0.orB x (i + 1) = g) := HHAD.out hbt
              clear hbt HON HHAD
              generalize hLG : hC g = LG at *
              have HLG : Hid (hC g = LG) := hLG
              clear hLG
              go_wp2_with (first
                | go_big_skip
                | (refine wl_midG (by rfl) tH _ rfl b (off + k * 64) rfl LX _ RX undH rfl HDI.out ?_)
                | (go_at_call 29; refine (CX1.out).mono ?_; clear CX1 RX; rintro e w1 ⟨rfl, HB1⟩; have RG := range_of (HB1.heap HDD.out))
                | (refine wl_midG (by rfl) tH _ rfl (W.heap.size + 1) 0 rfl LG _ RG undH rfl HIH.out ?_)
                | (go_at_call 29; refine (CB1.out _).mono ?_; clear CB1 RG; rintro e w2 ⟨rfl, HB2⟩))
              have HB3 : Bl wr w2 := HB1.step HB2
              have HS3 : W.heap.size + 2 ≤ w2.heap.size := by have := HB3.size; omega
              go_roundw
              case rel => exact ⟨i + 1, by omega, by go_num, HB.out.step HB3, HS3, HB3.heap HZZ.out, by rw [HSAME.out, HLG.out]; exact HB3.heap HDD.out⟩
              case measure => simp [intOf]; omega
        · obtain rfl : i = 512 := by omega
          have HD : Hid (wr.heap[W.heap.size + 1]? = some (.cells (hC (HZ.jo (l.take (k + 1)))).toArray tH (0, 0))) := by
            show _ = _
            rw [HSC.out, ← HO4.out]; exact hd
          clear hd hb hz HO0 HO4 HSC CX HRA CB
          go_wp2_with fail
          go_roundw
          case rel => exact ⟨k + 1, by omega, by go_num, HB.out, hsz2, HZZ.out, HD.out⟩
          case measure => simp [intOf]; omega
    · obtain rfl : k = l.length := by omega
      rw [List.take_length] at hd
      have HD : wr.rangeAt (W.heap.size + 1) 0 (hC (HZ.jo l)) := range_of hd
      have HZZ : Hid (wr.heap[W.heap.size]? = some (.cells zH tH (0, 0))) := hz
      have HB : Hid (Bl W wr) := hb
      have HI : Hid ((Try.prog.info? tH).map (·.size) = some (hC (HZ.jo l)).length) := by show _ = _; rw [hC_len]; exact infoH
      have HL : Hid ((hC (HZ.jo l)).length = 64) := hC_len _
      have HO : Hid (∀ u ∈ hC (HZ.jo l), u.oneCell' = true) := hC_one _
      clear hd hb hz
      generalize hLG : hC (HZ.jo l) = LG at *
      have HLG : Hid (hC (HZ.jo l) = LG) := hLG
      clear hLG
      go_wp2_with (first
        | (refine wl_midG (by rfl) tH _ rfl (W.heap.size + 1) 0 rfl LG _ HD undH rfl HI.out ?_)
        | (refine wl_rowU rfl tH _ _ rfl W.heap.size LG rfl rfl tH zH HZZ.out 64 infoH HL.out zH_size HO.out ?_; intro U0 hU0 hO0 hs0))
      (try simp only [Exit.inBlock, Exit.then])
      refine bodyPost_ret (results_cell_row rfl _ _ _ tH LG.toArray (0, 0) _ rfl hU0 undH rfl (by simpa using HI.out)) rfl ?_
      exact ⟨by rw [HLG.out], hO0.bl HB.out (by omega)⟩
end Go.Proofs.Ytokicaacllaijaa
