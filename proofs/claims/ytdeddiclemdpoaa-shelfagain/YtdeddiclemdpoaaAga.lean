/- The walk of the law ShelfAgain. -/
import Derived.Test.YtdeddiclemdpoaaH8
namespace Go.Proofs.Ytdeddiclemdpoaa
open Go.RowKit
set_option linter.unusedVariables false
attribute [local go_sem ↓] zeroT

set_option maxRecDepth 8000 in
set_option maxHeartbeats 4000000 in
theorem shelfAgain_walk (acts : List Ac) (a : Option Addr) (cap : Nat) (F1 : List Int) (a1 : Option Addr) (cap1 : Nat) (F2 : List Int) (a2 : Option Addr) (cap2 : Nat) (w : World) (hA : Hid (AC w a acts)) (hl : acts.length ≤ 9223372036854775807)
    (hF1 : Hid (FI w a1 F1)) (hl1 : F1.length ≤ 9223372036854775807) (hb1 : Hid (∀ x ∈ F1, -9223372036854775808 ≤ x ∧ x ≤ 9223372036854775807))
    (hF2 : Hid (FI w a2 F2)) (hl2 : F2.length ≤ 9223372036854775807) (hb2 : Hid (∀ x ∈ F2, -9223372036854775808 ≤ x ∧ x ≤ 9223372036854775807)) :
    Calls Try.prog 6 #[.slice a acts.length cap, .slice a1 F1.length cap1, .slice a2 F2.length cap2] w fun e w' => e = .returned (.bool true) ∧ Below w.heap.size w w' := by
  have CA : Hid (∀ W, Calls Try.prog 8 #[] W fun e w' => e = .returned (.bool true) ∧ Below W.heap.size W w') := awake_at
  have C0 : Hid (∀ W, Below w.heap.size w W → Calls Try.prog 9 #[.int .i64 8] W fun e w' => ∃ b c, e = .returned (.pointer (some ⟨b, 0, none⟩)) ∧ w.heap.size ≤ b ∧ w.heap.size ≤ c ∧ SW w b c (new 8) w') := fun W h => New_u 8 (by decide) h
  go_enter Try.func6, Try.ntmps6
  go_wp2_with (first
    | (go_at_call 8; refine (CA.out _).mono ?_; clear CA; rintro e w0 ⟨rfl, HB⟩)
    | (go_at_call 9; refine (C0.out _ HB).mono ?_; clear C0; rintro e w1 ⟨b, c, rfl, lb, lc, HS⟩))
  have HS0 : Hid (SW w b c ⟨false, 0, 0, 0, List.replicate 8 s0⟩ w1) := HS
  clear HS HB
  go_loopw [8] (fun u8 wr => ∃ (k d : Nat) (sl : List H.Sl), k ≤ acts.length ∧ k ≤ 150 ∧ d ≤ k ∧ u8 = .int .i64 k ∧ Ss 8 sl ∧ SW w b c ⟨false, 0, d, 0, sl⟩ wr) (fun u8 _ => 150 - (intOf u8).toNat)
  case atStart => exact ⟨0, 0, _, Nat.zero_le _, by omega, by omega, rfl, Ss.new 8, HS0.out⟩
  case round =>
    obtain ⟨k, d, sl, hk, hk2, hd, rfl, hsl, HS⟩ := hrel
    clear HS0
    have HSL : Hid (Ss 8 sl) := hsl
    clear hsl
    by_cases hlt : k < acts.length ∧ k < 150
    · obtain ⟨x, hx⟩ : ∃ x, acts[k]? = some x := ⟨acts[k], List.getElem?_eq_getElem hlt.1⟩
      obtain ⟨sb, off, rfl, hsb, hc0, hc1, hc2, hc3, hat, htx, hfa⟩ := hA.out k x hx
      have g1 : wr.cell? ⟨sb, off + k * 4 + 1, none⟩ = some (.int .i64 x.at') := by
        rw [HS.o.cell (p := ⟨sb, off + k * 4 + 1, none⟩) hsb (by show sb ≠ b; omega) (by show sb ≠ c; omega)]; exact hc1
      have g2 : wr.cell? ⟨sb, off + k * 4 + 2, none⟩ = some (.string (M.bs x.text)) := by
        rw [HS.o.cell (p := ⟨sb, off + k * 4 + 2, none⟩) hsb (by show sb ≠ b; omega) (by show sb ≠ c; omega)]; exact hc2
      have hu := um_wrap8 x.at'
      have hu2 := um_lt x.at' 8 (by omega)
      generalize um x.at' 8 = j at *
      have hwj : IntKind.i64.wrap (j : Int) = (j : Int) := wrap_i64_of (by omega) (by omega)
      have hi0 : (0 : Int) ≤ (k : Int) := by omega
      have hi1 : (k : Int) < (acts.length : Int) := by omega
      have hi2 : (k : Int) < 150 := by omega
      have CW : Hid (∀ W, SW w b c ⟨false, 0, d, 0, sl⟩ W → Calls Try.prog 11 #[.pointer (some ⟨b, 0, none⟩), .int .i64 (j : Int), .string (M.bs x.text)] W fun e w' => (∃ x, e = .returned (.int .i64 x)) ∧
          ∃ d' sl', d' ≤ d + 1 ∧ Ss 8 sl' ∧ SW w b c ⟨false, 0, d', 0, sl'⟩ w') := fun W h => by
        refine (Write_0 h HSL.out (by omega) j hu2 (by omega) (by omega) x.text htx).mono ?_
        rintro e w' ⟨h1, d', sl', h2, h3, _, h4⟩
        exact ⟨h1, d', sl', h2, h3, h4⟩
      have HS1 : Hid (SW w b c ⟨false, 0, d, 0, sl⟩ wr) := HS
      clear hc0 hc1 hc2 hc3 hat htx hfa hx hA HS
      go_wp2_with fail
      go_region_with (go_at_call 11; refine (CW.out _ (by first | exact HS1.out | exact HS1.out.drew)).mono ?_; rintro e w2 ⟨⟨y, rfl⟩, d', sl', h2, h3, HS⟩)
      all_goals
        go_wp2_with fail
        go_roundw
        case rel => exact ⟨k + 1, d', sl', by omega, by omega, by omega, by go_num, h3, HS⟩
        case measure => simp [intOf]; omega
    · obtain ⟨sl2, hsl2⟩ : ∃ sl2, sl2 = sl.mapIdx (H.back (if F1.length = 0 then [0] else F1) sl) := ⟨_, rfl⟩
      have HSL2 : Hid (Ss 8 sl2) := by rw [hsl2]; exact HSL.out.on _
      have HUN : Hid (∀ s ∈ sl2, s.un = false) := by rw [hsl2]; exact back_un _ _
      have CO1 : Hid (∀ W, SW w b c ⟨false, 0, d, 0, sl⟩ W → Calls Try.prog 17 #[.pointer (some ⟨b, 0, none⟩)] W fun e w' => e = .returned (.tuple #[]) ∧ SW w b c ⟨true, 0, d, 1, sl⟩ w') := fun W h => Off_at h (by show 0 ≤ 1000000; omega)
      have CN1 : Hid (∀ W, SW w b c ⟨true, 0, d, 1, sl⟩ W → Calls Try.prog 19 #[.pointer (some ⟨b, 0, none⟩), .slice a1 F1.length cap1] W fun e w' => e = .returned (.tuple #[]) ∧ SW w b c ⟨false, 0, d, 1, sl2⟩ w') := fun W h => by
        rw [hsl2]
        exact On_at h rfl (HSL.out.sm (by omega) _ _ _ _ (by omega) (by omega) (by omega)) F1 a1 cap1 (hF1.out.ft lb lc) hl1 hb1.out
      clear hsl2
      have htl : zT.toArray.size = 8 := by simp [zT]
      have hz1 := zT_one
      have hk1 : k < acts.length ∧ 150 ≤ k ∨ acts.length ≤ k := by omega
      clear hlt
      rcases hk1 with ⟨h1', h2'⟩ | h1'
      all_goals
        go_wp2_with (first
          | (go_at_call 17; refine (CO1.out _ HS).mono ?_; clear CO1 HS; rintro e w2 ⟨rfl, HS⟩)
          | (go_at_call 19; refine (CN1.out _ HS).mono ?_; clear CN1 HS; rintro e w3 ⟨rfl, HS⟩)
          | (refine wpList_store_row rfl 46 _ _ rfl _ zT.toArray rfl rfl 46 zT.toArray (heap_alloc_new _ _) (by rw [htl]; exact infoT) rfl hz1 ?_; rw [World.setRow_alloc_new]))
        have HQ : Hid ((w3.alloc (.cells zT.toArray 46)).heap[w3.heap.size]? = some (.cells zT.toArray 46 (0, 0))) := heap_alloc_new _ _
        have HS3 : Hid (SW w b c ⟨false, 0, d, 1, sl2⟩ (w3.alloc (.cells zT.toArray 46))) := HS.alloc _
        have hq1 : w3.heap.size ≠ b := by have := HS.ltb; omega
        have hq2 : w3.heap.size ≠ c := by have := HS.ltc; omega
        have hq3 : w.heap.size ≤ w3.heap.size := HS.o.size
        generalize w3.alloc (.cells zT.toArray 46) = W3 at *
        generalize w3.heap.size = q at *
        clear HS h1' htl hz1
        have HZL : Hid ((txC sl2).length = zT.length) := by show _ = _; simp [txC, zT, HSL2.out.n]
        go_loopw [10, 11, 12] (fun u10 u11 u12 wr => ∃ k : Nat, k ≤ 8 ∧ u10 = .int .i64 k ∧ wr.heap[q]? = some (.cells (mixK zT (txC sl2) k).toArray 46 (0, 0)) ∧ SW w b c ⟨false, 0, d, 1, sl2⟩ wr) (fun u10 _ _ _ => 8 - (intOf u10).toNat)
        case atStart => exact ⟨0, by omega, rfl, by rw [mixK_zero]; exact HQ.out, HS3.out⟩
        case round =>
          clear HQ HS3
          obtain ⟨k, hk8, rfl, hQ, HS⟩ := hrel
          have hsl8 := HSL2.out.n
          by_cases hlt : k < 8
          · obtain ⟨s, hs⟩ : ∃ s, sl2[k]? = some s := ⟨sl2[k]'(by omega), List.getElem?_eq_getElem _⟩
            have hT := txC_at sl2 k s hs
            have hset := mixK_set zT (txC sl2) k HZL.out _ hT
            have CR : Hid (∀ W, SW w b c ⟨false, 0, d, 1, sl2⟩ W → Calls Try.prog 13 #[.pointer (some ⟨b, 0, none⟩), .int .i64 (k : Int)] W fun e w' => e = .returned (.tuple #[.string (M.bs s.text), .int .i64 0]) ∧ SW w b c ⟨false, 0, d, 1, sl2⟩ w' ∧ w'.heap = W.heap) := fun W h => by
              refine (Read_s h hs (by show sl2.length ≤ 128; omega) rfl).mono ?_
              rintro e w' ⟨rfl, h', n, rfl⟩
              exact ⟨rfl, h', rfl⟩
            have HQQ : Hid (wr.heap[q]? = some (.cells (mixK zT (txC sl2) k).toArray 46 (0, 0))) := hQ
            have HSET : Hid ((mixK zT (txC sl2) k).set k (.string (M.bs s.text)) = mixK zT (txC sl2) (k + 1)) := hset
            have HML : Hid ((mixK zT (txC sl2) k).length = 8) := by show _ = _; rw [mixK_length _ _ _ HZL.out]; rfl
            have HFC : Hid (∀ W : World, W.heap = wr.heap → (∃ v, W.cell? ⟨q, k, none⟩ = some v) ∧ W.frozen? ⟨q, k, none⟩ = false) := fun W h => by
              have hx : W.heap[q]? = some (.cells (mixK zT (txC sl2) k).toArray 46 (0, 0)) := by rw [h]; exact HQQ.out
              exact ⟨⟨_, by rw [cell_row hx]; exact List.getElem?_eq_getElem (by rw [HML.out]; exact hlt)⟩, frozen_row hx k⟩
            clear hs hT hset hQ
            have i0 : (0 : Int) ≤ (k : Int) := by omega
            have i1 : (k : Int) < 8 := by omega
            go_wp2_with (go_at_call 13; refine (CR.out _ HS).mono ?_; clear CR HS; rintro e w4 ⟨rfl, HS, HE⟩; obtain ⟨⟨v0, hv0⟩, hf0⟩ := HFC.out _ HE)
            go_roundw
            case rel =>
              refine ⟨k + 1, by omega, by go_num, ?_, HS.other hq1 hq2 hq3 _ _⟩
              have hx : w4.heap[q]? = some (.cells (mixK zT (txC sl2) k).toArray 46 (0, 0)) := by rw [HE]; exact HQQ.out
              rw [heap_setCell_row hx, List.setIfInBounds_toArray, HSET.out]
            case measure => simp [intOf]; omega
          · have hk88 : k = 8 := by omega
            have hQ2 : wr.heap[q]? = some (.cells (txC sl2).toArray 46 (0, 0)) := by
              rw [mixK_all _ _ _ HZL.out (by rw [hk88]; rfl)] at hQ; exact hQ
            clear hQ HZL
            have HQ2 : Hid (wr.heap[q]? = some (.cells (txC sl2).toArray 46 (0, 0))) := hQ2
            clear hQ2
            have hqlt : q < wr.heap.size := by
              rcases Nat.lt_or_ge q wr.heap.size with h | h
              · exact h
              · have := HQ2.out; rw [Array.getElem?_eq_none h] at this; simp at this
            have HF2 : Hid (FT wr b c a2 F2) := hF2.out.at HS lb lc
            have HS5 : Hid (SW w b c ⟨false, 0, d, 1, sl2⟩ wr) := HS
            have HS6 : SW wr b c ⟨false, 0, d, 1, sl2⟩ wr := HS.base
            have CO2 : Hid (∀ W, SW wr b c ⟨false, 0, d, 1, sl2⟩ W → Calls Try.prog 17 #[.pointer (some ⟨b, 0, none⟩)] W fun e w' => e = .returned (.tuple #[]) ∧ SW wr b c ⟨true, 0, d, 2, sl2⟩ w') := fun W h => Off_at h (by show 1 ≤ 1000000; omega)
            have CN2 : Hid (∀ W, SW wr b c ⟨true, 0, d, 2, sl2⟩ W → Calls Try.prog 19 #[.pointer (some ⟨b, 0, none⟩), .slice a2 F2.length cap2] W fun e w' => e = .returned (.tuple #[]) ∧ SW wr b c ⟨false, 0, d, 2, sl2⟩ w') := fun W h => by
              have := On_at h rfl (HSL2.out.sm (by omega) _ _ _ _ (by omega) (by omega) (by omega)) F2 a2 cap2 HF2.out hl2 hb2.out
              rwa [show H.on F2 ⟨true, 0, d, 2, sl2⟩ = ⟨false, 0, d, 2, sl2⟩ by unfold H.on; rw [back_same _ _ HUN.out]] at this
            clear HS
            have HS := HS6
            clear HS6
            have hk1 : ¬ (k : Int) < 8 := by omega
            go_wp2_with (first
              | (go_at_call 17; refine (CO2.out _ HS).mono ?_; clear CO2 HS; rintro e w5 ⟨rfl, HS⟩)
              | (go_at_call 19; refine (CN2.out _ HS).mono ?_; clear CN2 HS; rintro e w6 ⟨rfl, HS⟩))
            have HS7 : Hid (SW wr b c ⟨false, 0, d, 2, sl2⟩ w6) := HS
            clear HS HF2
            generalize wr = W5 at *
            go_loopw [13, 14, 15] (fun u13 u14 u15 wr => ∃ k : Nat, k ≤ 8 ∧ u13 = .int .i64 k ∧ SW W5 b c ⟨false, 0, d, 2, sl2⟩ wr) (fun u13 _ _ _ => 8 - (intOf u13).toNat)
            case atStart => exact ⟨0, by omega, rfl, HS7.out⟩
            case round =>
              clear HS7
              obtain ⟨k, hk9, rfl, HS⟩ := hrel
              by_cases hlt : k < 8
              · obtain ⟨s, hs⟩ : ∃ s, sl2[k]? = some s := ⟨sl2[k]'(by omega), List.getElem?_eq_getElem _⟩
                have CR : Hid (∀ W, SW W5 b c ⟨false, 0, d, 2, sl2⟩ W → Calls Try.prog 13 #[.pointer (some ⟨b, 0, none⟩), .int .i64 (k : Int)] W fun e w' => e = .returned (.tuple #[.string (M.bs s.text), .int .i64 0]) ∧ SW W5 b c ⟨false, 0, d, 2, sl2⟩ w') := fun W h => by
                  refine (Read_s h hs (by show sl2.length ≤ 128; omega) rfl).mono ?_
                  rintro e w' ⟨rfl, h', n, rfl⟩
                  exact ⟨rfl, h'⟩
                have HCQ : Hid (∀ W, SW W5 b c ⟨false, 0, d, 2, sl2⟩ W → W.cell? ⟨q, k, none⟩ = some (.string (M.bs s.text))) := fun W h => by
                  rw [h.o.cell (p := ⟨q, k, none⟩) hqlt hq1 hq2, cell_row HQ2.out]
                  exact txC_at sl2 k s hs
                clear hs
                have i0 : (0 : Int) ≤ (k : Int) := by omega
                have i1 : (k : Int) < 8 := by omega
                go_wp2_with (go_at_call 13; refine (CR.out _ HS).mono ?_; clear CR HS; rintro e w4 ⟨rfl, HS⟩; have hcq := HCQ.out _ HS)
                go_roundw
                case rel => exact ⟨k + 1, by omega, by go_num, HS⟩
                case measure => simp [intOf]; omega
              · have hk1 : ¬ (k : Int) < 8 := by omega
                go_wp2_with (go_at_call 27; refine (Life_at HS).mono ?_; rintro e wc ⟨rfl, rfl⟩)
                go_ret
                exact ⟨rfl, (HS5.out.trans HS).o.below lb lc (Nat.le_refl _)⟩
end Go.Proofs.Ytdeddiclemdpoaa
