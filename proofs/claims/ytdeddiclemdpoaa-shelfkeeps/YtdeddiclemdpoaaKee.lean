/- The walk of the law ShelfKeeps. -/
import Derived.Test.YtdeddiclemdpoaaH9
namespace Go.Proofs.Ytdeddiclemdpoaa
open Go.RowKit
set_option linter.unusedVariables false
attribute [local go_sem ↓] zeroT
attribute [local go_sem ↓] zeroB'

set_option maxRecDepth 8000 in
set_option maxHeartbeats 8000000 in
theorem shelfKeeps_walk (acts : List Ac) (a : Option Addr) (cap : Nat) (p : Int) (F1 : List Int) (a1 : Option Addr) (cap1 : Nat) (w : World) (hA : Hid (AC w a acts)) (hl : acts.length ≤ 9223372036854775807)
    (hF1 : Hid (FI w a1 F1)) (hl1 : F1.length ≤ 9223372036854775807) (hb1 : Hid (∀ x ∈ F1, -9223372036854775808 ≤ x ∧ x ≤ 9223372036854775807)) :
    Calls Try.prog 4 #[.slice a acts.length cap, .int .i64 p, .slice a1 F1.length cap1] w fun e w' => e = .returned (.bool true) ∧ Below w.heap.size w w' := by
  have CA : Hid (∀ W, Calls Try.prog 8 #[] W fun e w' => e = .returned (.bool true) ∧ Below W.heap.size W w') := awake_at
  have hup : Int.tmod (IntKind.u64.wrap p) 200 = (um p 200 : Int) := um_wrap p 200
  have hup2 := um_lt p 200 (by omega)
  generalize um p 200 = m0 at *
  have C0 : Hid (∀ W, Below w.heap.size w W → Calls Try.prog 9 #[.int .i64 8] W fun e w' => ∃ b c, e = .returned (.pointer (some ⟨b, 0, none⟩)) ∧ w.heap.size ≤ b ∧ w.heap.size ≤ c ∧ SW w b c (new 8) w') := fun W h => New_u 8 (by decide) h
  have C1 : Hid (∀ b c W, SW w b c (new 8) W → Calls Try.prog 21 #[.pointer (some ⟨b, 0, none⟩), .int .i64 (m0 : Int)] W fun e w' => e = .returned (.tuple #[]) ∧ SW w b c ⟨false, m0, 0, 0, List.replicate 8 s0⟩ w') := fun b c W h => by
    have := Arm_at h (m0 : Int) (by omega) (by omega)
    rwa [show (m0 : Int).toNat = m0 by omega] at this
  have htl : zT.toArray.size = 8 := by simp [zT]
  have hz1 := zT_one
  have hbl : zB.toArray.size = 8 := by simp [zB]
  have hz2 := zB_one
  go_enter Try.func4, Try.ntmps4
  go_wp2_with (first
    | (go_at_call 8; refine (CA.out _).mono ?_; clear CA; rintro e w0 ⟨rfl, HB⟩)
    | (go_at_call 9; refine (C0.out _ HB).mono ?_; clear C0; rintro e w1 ⟨b, c, rfl, lb, lc, HS⟩)
    | (go_at_call 21; refine (C1.out _ _ _ HS).mono ?_; clear C1 HS; rintro e w2 ⟨rfl, HS⟩)
    | (refine wpList_store_row rfl 46 _ _ rfl _ zT.toArray rfl rfl 46 zT.toArray (alloc_new' _ _ (by simp) _) (by rw [htl]; exact infoT) rfl hz1 ?_; rw [setRow_new' _ _ (by simp)])
    | (refine wpList_store_row rfl 47 _ _ rfl _ zB.toArray rfl rfl 47 zB.toArray (alloc_new' _ _ (by simp) _) (by rw [hbl]; exact infoB) rfl hz2 ?_; rw [setRow_new' _ _ (by simp)]))
  have HSA : Hid (SW w b c ⟨false, m0, 0, 0, List.replicate 8 s0⟩ (((w2.alloc (.cells zT.toArray 46)).alloc (.cells zT.toArray 46)).alloc (.cells zB.toArray 47))) := ((HS.alloc _).alloc _).alloc _
  have HRA : Hid (R3 w2.heap.size (w2.heap.size + 1) (w2.heap.size + 2) (List.replicate 8 s0) (((w2.alloc (.cells zT.toArray 46)).alloc (.cells zT.toArray 46)).alloc (.cells zB.toArray 47))) := by
    refine ⟨?_, ?_, ?_⟩
    · rw [Below.heap_alloc _ _ _ (by simp; omega), Below.heap_alloc _ _ _ (by simp)]; exact alloc_new' _ _ rfl _
    · rw [Below.heap_alloc _ _ _ (by simp)]; exact alloc_new' _ _ (by simp) _
    · exact alloc_new' _ _ (by simp) _
  have hq0 : b < w2.heap.size := HS.ltb
  have hq0' : c < w2.heap.size := HS.ltc
  have hq1 : w2.heap.size < w2.heap.size + 1 := by omega
  have hq2 : w2.heap.size + 1 < w2.heap.size + 2 := by omega
  have hqw : w.heap.size ≤ w2.heap.size := HS.o.size
  generalize (((w2.alloc (.cells zT.toArray 46)).alloc (.cells zT.toArray 46)).alloc (.cells zB.toArray 47)) = WA at *
  clear HS HB hup htl hz1
  generalize w2.heap.size + 2 = q3 at *
  generalize w2.heap.size + 1 = q2 at *
  generalize w2.heap.size = q1 at *
  have hn12 : q1 ≠ q2 := by omega
  have hn23 : q2 ≠ q3 := by omega
  have hn32 : q3 ≠ q2 := by omega
  have hn13 : q1 ≠ q3 := by omega
  go_loopw [11, 12, 13, 14] (fun u11 u12 u13 u14 wr => ∃ (i m d : Nat) (sl : List H.Sl), i ≤ acts.length ∧ i ≤ 150 ∧ d ≤ i ∧ m < 200 ∧ u11 = .int .i64 i ∧ Ss 8 sl ∧ Inv sl ∧ SW w b c ⟨false, m, d, 0, sl⟩ wr ∧ R3 q1 q2 q3 sl wr) (fun u11 _ _ _ _ => 150 - (intOf u11).toNat)
  case atStart => exact ⟨0, m0, 0, _, Nat.zero_le _, by omega, by omega, hup2, rfl, Ss.new 8, fun s hs _ => by rw [List.eq_of_mem_replicate hs]; rfl, HSA.out, HRA.out⟩
  case round =>
    clear HSA HRA
    obtain ⟨i, m, d, sl, hi, hi2, hd, hm, rfl, hsl, hinv, HSX, HRX⟩ := hrel
    have HSLX : Hid (Ss 8 sl) := hsl
    have HINX : Hid (Inv sl) := hinv
    clear hsl hinv
    by_cases hlt : i < acts.length ∧ i < 150
    · obtain ⟨x, hx⟩ : ∃ x, acts[i]? = some x := ⟨acts[i], List.getElem?_eq_getElem hlt.1⟩
      obtain ⟨sb, off, rfl, hsb, hc0, hc1, hc2, hc3, hat, htx, fa, fn, fc, hfe⟩ := hA.out i x hx
      rw [hfe] at hc3
      have go : ∀ o, wr.cell? ⟨sb, o, none⟩ = w.cell? ⟨sb, o, none⟩ := fun o => HSX.o.cell (p := ⟨sb, o, none⟩) hsb (by show sb ≠ b; omega) (by show sb ≠ c; omega)
      rw [← go] at hc0 hc1 hc2 hc3
      have hu := um_wrap8 x.at'
      have hu2 := um_lt x.at' 8 (by omega)
      generalize um x.at' 8 = j at *
      have j0 : (0 : Int) ≤ (i : Int) := by omega
      have j1 : (i : Int) < (acts.length : Int) := by omega
      have j2 : (i : Int) < 150 := by omega
      have hzt := M.bs_size x.text
      have hmx : maxLen ≤ 9223372036854775807 := by decide
      have htx' : x.text.length ≤ 9223372036854775807 := by omega
      by_cases hlong : 640 < x.text.length
      · have HBL : Hid (Below w.heap.size w (wr.alloc (.cells #[.int .i64 x.kind, .int .i64 x.at', .string (M.bs x.text), .slice fa fn fc] 30))) := (HSX.alloc _).o.below lb lc (Nat.le_refl _)
        clear go hfe hx hA HSX HRX HSLX HINX hmx htx hqw hq0 hq0' hq1 hq2
        go_wp2_with fail
        go_ret
        exact ⟨rfl, HBL.out⟩
      · have hlx : x.text.length ≤ 640 := by omega
        have HO : Hid (SW w b c ⟨false, m, d, 0, sl⟩ (wr.alloc (.cells #[.int .i64 x.kind, .int .i64 x.at', .string (M.bs x.text), .slice fa fn fc] 30))) := HSX.alloc _
        have HR1 : R3 q1 q2 q3 sl (wr.alloc (.cells #[.int .i64 x.kind, .int .i64 x.at', .string (M.bs x.text), .slice fa fn fc] 30)) := HRX.off (b := b) (c := c) (Off2.of_below ((Below.refl _ wr).alloc (Nat.le_refl _) _)) hq0 hq0' hq1 hq2
        have hbx : q3 < wr.heap.size := row_lt HRX.u
        have HBX : Hid (∀ W, Off2 b c (wr.alloc (.cells #[.int .i64 x.kind, .int .i64 x.at', .string (M.bs x.text), .slice fa fn fc] 30)) W → W.cell? ⟨wr.heap.size, 0, none⟩ = some (.int .i64 x.kind) ∧ W.cell? ⟨wr.heap.size, 2, none⟩ = some (.string (M.bs x.text)) ∧ R3 q1 q2 q3 sl W) := fun W h => by
          have hnew := heap_alloc_new wr (.cells #[.int .i64 x.kind, .int .i64 x.at', .string (M.bs x.text), .slice fa fn fc] 30)
          have hrow : W.heap[wr.heap.size]? = some (.cells #[.int .i64 x.kind, .int .i64 x.at', .string (M.bs x.text), .slice fa fn fc] 30) := by rw [h.block wr.heap.size (by simp) (by omega) (by omega)]; exact hnew
          refine ⟨?_, ?_, HR1.off h hq0 hq0' hq1 hq2⟩
          · unfold World.cell?; rw [hrow]; rfl
          · unfold World.cell?; rw [hrow]; rfl
        have HK : SW (wr.alloc (.cells #[.int .i64 x.kind, .int .i64 x.at', .string (M.bs x.text), .slice fa fn fc] 30)) b c ⟨false, m, d, 0, sl⟩ (wr.alloc (.cells #[.int .i64 x.kind, .int .i64 x.at', .string (M.bs x.text), .slice fa fn fc] 30)) := HO.out.base
        have hl8 := HSLX.out.n
        have HSM : Hid (Sm ⟨false, m, d, 0, sl⟩) := HSLX.out.sm (by omega) _ _ _ _ (by omega) (by omega) (by omega)
        obtain ⟨sj, hsj⟩ : ∃ sj, sl[j]? = some sj := ⟨sl[j]'(by omega), List.getElem?_eq_getElem _⟩
        clear go hfe hx HSX HRX HR1 hmx htx hlong
        by_cases hk3 : x.kind = 3
        · have hk3' : (x.kind == 3) = true := by simp [hk3]
          clear hk3
          by_cases ham : m = 1
          · subst ham
            have CS : Hid (∀ W, SW (wr.alloc (.cells #[.int .i64 x.kind, .int .i64 x.at', .string (M.bs x.text), .slice fa fn fc] 30)) b c ⟨false, 1, d, 0, sl⟩ W → Calls Try.prog 15 #[.pointer (some ⟨b, 0, none⟩)] W fun e w' => e = .returned (.int .i64 10) ∧ SW (wr.alloc (.cells #[.int .i64 x.kind, .int .i64 x.at', .string (M.bs x.text), .slice fa fn fc] 30)) b c ⟨true, 0, d + 1, 1, sl⟩ w') := fun W h => Sync_cut h rfl HSM.out rfl
            go_wp2_with (go_at_call 15; refine (CS.out _ HK).mono ?_; clear CS HK; rintro e w4 ⟨rfl, HK⟩; obtain ⟨g1, g2, g3⟩ := HBX.out _ HK.o)
            have HSX := HO.out.trans HK
            have HRX := g3
            clear HO HK HBX g1 g2 g3 hc0 hc1 hc2 hc3 hsj HSM
            have HB0 : SW w4 b c ⟨true, 0, (d + 1), 1, sl⟩ w4 := HSX.base
            have HSW : Hid (SW w b c ⟨true, 0, (d + 1), 1, sl⟩ w4) := HSX
            obtain ⟨sl2, hsl2⟩ : ∃ sl2, sl2 = sl.mapIdx (H.back (if F1.length = 0 then [0] else F1) sl) := ⟨_, rfl⟩
            have HSL2 : Hid (Ss 8 sl2) := by rw [hsl2]; exact HSLX.out.on _
            have HK3 : Hid (∀ (k : Nat) (s : H.Sl), sl[k]? = some s → ∃ s2, sl2[k]? = some s2 ∧ ((s.un = false ∧ s2.text = s.sure) ∨ (s.un = true ∧ (s2.text = s.sure ∨ s2.text = s.text ∨ ∃ n, n ≤ s.text.length ∧ s2.text = s.text.take n ++ s.sure.drop n)))) := fun k s hs => by
              refine ⟨_, by rw [hsl2]; exact back_at _ _ _ _ hs, ?_⟩
              unfold H.back
              cases hu : s.un
              · left; exact ⟨rfl, by rw [if_neg (by simp)]; exact HINX.out s (List.mem_of_getElem? hs) hu⟩
              · right; exact ⟨rfl, by rw [if_pos rfl]; exact left_three s _⟩
            have CO : Hid (∀ W', SW w4 b c ⟨true, 0, (d + 1), 1, sl⟩ W' → Calls Try.prog 17 #[.pointer (some ⟨b, 0, none⟩)] W' fun e w' => e = .returned (.tuple #[]) ∧ SW w4 b c ⟨true, 0, (d + 1), 1, sl⟩ w') := fun W' h => Off_at h (by show 1 ≤ 1000000; omega)
            have HFT : Hid (FT w4 b c a1 F1) := hF1.out.at HSX lb lc
            have CN : Hid (∀ W', SW w4 b c ⟨true, 0, (d + 1), 1, sl⟩ W' → Calls Try.prog 19 #[.pointer (some ⟨b, 0, none⟩), .slice a1 F1.length cap1] W' fun e w' => e = .returned (.tuple #[]) ∧ SW w4 b c ⟨false, 0, (d + 1), 1, sl2⟩ w') := fun W' h => by
              have := On_at h rfl (HSLX.out.sm (by omega) _ _ _ _ (by omega) (by omega) (by omega)) F1 a1 cap1 HFT.out hl1 hb1.out
              rw [hsl2]
              exact this
            clear hsl2 HSX
            go_wp2_with (first
              | (go_at_call 17; refine (CO.out _ HB0).mono ?_; clear CO HB0; rintro e wx1 ⟨rfl, HB0⟩)
              | (go_at_call 19; refine (CN.out _ HB0).mono ?_; clear CN HB0; rintro e wx2 ⟨rfl, HB0⟩))
            have HB1 : Hid (SW w4 b c ⟨false, 0, (d + 1), 1, sl2⟩ wx2) := HB0
            have HRH : Hid (R3 q1 q2 q3 sl w4) := HRX
            clear HB0 HRX HFT
            go_loopw [15, 16, 17] (fun u15 u16 u17 wr => ∃ k : Nat, k ≤ 8 ∧ u15 = .int .i64 k ∧ SW w4 b c ⟨false, 0, (d + 1), 1, sl2⟩ wr) (fun u15 _ _ _ => 8 - (intOf u15).toNat)
            case atStart => exact ⟨0, by omega, rfl, HB1.out⟩
            case round =>
              clear HB1
              obtain ⟨k, hk8, rfl, HS⟩ := hrel
              have hl8 := HSL2.out.n
              have hl9 := HSLX.out.n
              by_cases hlt : k < 8
              · obtain ⟨s, hs⟩ : ∃ s, sl[k]? = some s := ⟨sl[k]'(by omega), List.getElem?_eq_getElem _⟩
                obtain ⟨s2, hs2, hc⟩ := HK3.out k s hs
                have CR : Hid (∀ W, SW w4 b c ⟨false, 0, (d + 1), 1, sl2⟩ W → Calls Try.prog 13 #[.pointer (some ⟨b, 0, none⟩), .int .i64 (k : Int)] W fun e w' => e = .returned (.tuple #[.string (M.bs s2.text), .int .i64 0]) ∧ SW w4 b c ⟨false, 0, (d + 1), 1, sl2⟩ w') := fun W h => by
                  refine (Read_s h hs2 (by show sl2.length ≤ 128; omega) rfl).mono ?_
                  rintro e w' ⟨rfl, h', n, rfl⟩
                  exact ⟨rfl, h'⟩
                have HCC : Hid (∀ W, SW w4 b c ⟨false, 0, (d + 1), 1, sl2⟩ W → W.cell? ⟨q1, k, none⟩ = some (.string (M.bs s.sure)) ∧ W.cell? ⟨q2, k, none⟩ = some (.string (M.bs s.text)) ∧ W.cell? ⟨q3, k, none⟩ = some (.bool s.un)) := fun W h => by
                  have r := HRH.out.off h.o hq0 hq0' hq1 hq2
                  exact ⟨by rw [cell_row r.s]; exact suC_at _ _ _ hs, by rw [cell_row r.t]; exact txC_at _ _ _ hs, by rw [cell_row r.u]; exact unC_at _ _ _ hs⟩
                obtain ⟨z1, z2⟩ := HSLX.out.t s (List.mem_of_getElem? hs)
                have i0 : (0 : Int) ≤ (k : Int) := by omega
                have i1 : (k : Int) < 8 := by omega
                clear hs hs2
                rcases hc with ⟨e1, e2⟩ | ⟨e1, e2⟩
                · rw [e1] at HCC
                  rw [e2] at CR
                  clear e1 e2
                  go_wp2_with (go_at_call 13; refine (CR.out _ HS).mono ?_; clear CR HS; rintro e w4 ⟨rfl, HS⟩; obtain ⟨g1, g2, g3⟩ := HCC.out _ HS)
                  go_quiet (fail)
                  go_wp2_with fail
                  go_roundw
                  case rel => exact ⟨k + 1, by omega, by go_num, HS.drewN _⟩
                  case measure => simp [intOf]; omega
                · rw [e1] at HCC
                  have b1 := bs_beq s2.text s.sure
                  have b2 := bs_beq s2.text s.text
                  by_cases q1' : s2.text = s.sure
                  · rw [decide_eq_true q1'] at b1
                    clear e1 e2 q1' b2
                    go_wp2_with (go_at_call 13; refine (CR.out _ HS).mono ?_; clear CR HS; rintro e w4 ⟨rfl, HS⟩; obtain ⟨g1, g2, g3⟩ := HCC.out _ HS)
                    go_quiet (fail)
                    go_wp2_with fail
                    go_roundw
                    case rel => exact ⟨k + 1, by omega, by go_num, HS.drewN _⟩
                    case measure => simp [intOf]; omega
                  · rw [decide_eq_false q1'] at b1
                    by_cases q2' : s2.text = s.text
                    · rw [decide_eq_true q2'] at b2
                      clear e1 e2 q1' q2'
                      go_wp2_with (go_at_call 13; refine (CR.out _ HS).mono ?_; clear CR HS; rintro e w4 ⟨rfl, HS⟩; obtain ⟨g1, g2, g3⟩ := HCC.out _ HS)
                      go_quiet (fail)
                      go_wp2_with fail
                      go_roundw
                      case rel => exact ⟨k + 1, by omega, by go_num, HS.drewN _⟩
                      case measure => simp [intOf]; omega
                    · rw [decide_eq_false q2'] at b2
                      have CT : Hid (∀ W, Calls Try.prog 30 #[.string (M.bs s2.text), .string (M.bs s.text), .string (M.bs s.sure)] W fun e w' => e = .returned (.bool true) ∧ w' = W) := fun W => by
                        rcases e2 with h | h | ⟨n, h1, h2⟩
                        · exact absurd h q1'
                        · exact absurd h q2'
                        · exact torn_at _ _ _ n h1 h2 z1 z2 W
                      clear e1 e2 q1' q2'
                      go_wp2_with (go_at_call 13; refine (CR.out _ HS).mono ?_; clear CR HS; rintro e w4 ⟨rfl, HS⟩; obtain ⟨g1, g2, g3⟩ := HCC.out _ HS)
                      go_quiet ((go_at_call 30; exact Calls.quiet_of_same (CT.out _)))
                      go_wp2_with fail
                      go_roundw
                      case rel => exact ⟨k + 1, by omega, by go_num, HS.drewN _⟩
                      case measure => simp [intOf]; omega
              · have hk1 : ¬ (k : Int) < 8 := by omega
                have N1 : Hid (∀ W, Calls Try.prog 13 #[.pointer none, .int .i64 0] W fun e w' => e = .returned (.tuple #[.string ⟨#[]⟩, .int .i64 2]) ∧ w' = W) := Read_nil 0
                have N2 : Hid (∀ W, Calls Try.prog 11 #[.pointer none, .int .i64 0, .string ⟨#[]⟩] W fun e w' => e = .returned (.int .i64 2) ∧ w' = W) := Write_nil 0 ⟨#[]⟩
                have N3 : Hid (∀ W, Calls Try.prog 15 #[.pointer none] W fun e w' => e = .returned (.int .i64 2) ∧ w' = W) := Sync_nil
                have N4 : Hid (∀ W, Calls Try.prog 23 #[.pointer none] W fun e w' => e = .returned (.bool true) ∧ w' = W) := Down_nil
                have N5 : Hid (∀ W, Calls Try.prog 29 #[.pointer none] W fun e w' => e = .returned (.int .i64 0) ∧ w' = W) := Len_nil
                go_wp2_with (first
                  | (go_at_call 13; refine (N1.out _).mono ?_; rintro e w4 ⟨rfl, rfl⟩)
                  | (go_at_call 11; refine (N2.out _).mono ?_; rintro e w4 ⟨rfl, rfl⟩)
                  | (go_at_call 15; refine (N3.out _).mono ?_; rintro e w4 ⟨rfl, rfl⟩)
                  | (go_at_call 23; refine (N4.out _).mono ?_; rintro e w4 ⟨rfl, rfl⟩)
                  | (go_at_call 29; refine (N5.out _).mono ?_; rintro e w4 ⟨rfl, rfl⟩))
                go_ret
                exact ⟨rfl, (HSW.out.trans HS).o.below lb lc (Nat.le_refl _)⟩
          · have CS : Hid (∀ W, SW (wr.alloc (.cells #[.int .i64 x.kind, .int .i64 x.at', .string (M.bs x.text), .slice fa fn fc] 30)) b c ⟨false, m, d, 0, sl⟩ W → Calls Try.prog 15 #[.pointer (some ⟨b, 0, none⟩)] W fun e w' => e = .returned (.int .i64 0) ∧ ∃ m', m' < 200 ∧ SW (wr.alloc (.cells #[.int .i64 x.kind, .int .i64 x.at', .string (M.bs x.text), .slice fa fn fc] 30)) b c ⟨false, m', d + 1, 0, sl.map (fun s => H.settle s.text)⟩ w') := fun W h => by
              refine (Sync_at h rfl HSM.out ham).mono ?_
              rintro e w' ⟨rfl, h'⟩
              refine ⟨rfl, ?_⟩
              rcases (by omega : m = 0 ∨ 2 ≤ m) with h0 | h2
              · subst h0; exact ⟨0, by omega, h'⟩
              · rw [act_2 _ _ _ _ h2] at h'; exact ⟨m - 1, by omega, h'⟩
            have ht1 := txC_one sl
            have ht2 : (txC sl).toArray.size = 8 := by simp [txC, hl8]
            have ht3 : (suC sl).toArray.size = 8 := by simp [suC, hl8]
            have ht4 : (unC sl).toArray.size = 8 := by simp [unC, hl8]
            go_wp2_with (first
              | (go_at_call 15; refine (CS.out _ HK).mono ?_; clear CS HK; rintro e w4 ⟨rfl, m', hm', HK⟩; obtain ⟨g1, g2, g3⟩ := HBX.out _ HK.o)
              | refine wpList_load_row rfl 46 _ rfl _ rfl 46 (txC sl).toArray (0, 0) _ g3.t undT rfl (by rw [ht2]; exact infoT) ?_
              | refine wpList_store_row rfl 46 _ _ rfl _ (txC sl).toArray rfl rfl 46 (suC sl).toArray g3.s (by rw [ht2]; exact infoT) (by rw [ht3, ht2]) ht1 ?_
              | refine wpList_store_row rfl 47 _ _ rfl _ zB.toArray rfl rfl 47 (unC sl).toArray (by rw [heap_setRow_ne (by omega)]; exact g3.u) (by rw [hbl]; exact infoB) (by rw [ht4, hbl]) hz2 ?_)
            go_roundw
            case rel =>
              refine ⟨i + 1, m', d + 1, _, by omega, by omega, by omega, hm', by go_num, HSLX.out.sync, Inv.sync _, ((HO.out.trans HK).row (by omega) (by omega) (by omega) _).row (by omega) (by omega) (by omega) _, ?_⟩
              refine ⟨?_, ?_, ?_⟩
              · rw [suC_sync, heap_setRow_ne (by omega)]; exact setRow_heap _ _ _ _ _ _ g3.s
              · rw [txC_sync, heap_setRow_ne (by omega), heap_setRow_ne (by omega)]; exact g3.t
              · rw [unC_sync _ hl8]; exact setRow_heap _ _ _ _ _ _ (by rw [heap_setRow_ne (by omega)]; exact g3.u)
            case measure => simp [intOf]; omega
        · have hk3' : (x.kind == 3) = false := by simp [hk3]
          clear hk3
          obtain ⟨sl3, hsl3⟩ : ∃ sl3, sl3 = sl.modify j (fun s => { s with text := x.text, un := true }) := ⟨_, rfl⟩
          have HSL3 : Hid (Ss 8 sl3) := by rw [hsl3]; exact HSLX.out.put j _ hlx
          have HIN3 : Hid (Inv sl3) := by rw [hsl3]; exact HINX.out.put j _
          have HR3 : Hid (∀ W, R3 q1 q2 q3 sl W → R3 q1 q2 q3 sl3 ((W.setCell ⟨q2, j, none⟩ (.string (M.bs x.text))).setCell ⟨q3, j, none⟩ (.bool true))) := fun W h => by
            rw [hsl3]
            refine ⟨?_, ?_, ?_⟩
            · rw [suC_put, Below.heap_setCell _ _ _ _ (by show q1 ≠ q3; omega), Below.heap_setCell _ _ _ _ (by show q1 ≠ q2; omega)]; exact h.s
            · rw [txC_put _ _ _ (by omega), Below.heap_setCell _ _ _ _ (by show q2 ≠ q3; omega), heap_setCell_row h.t, List.setIfInBounds_toArray]
            · rw [unC_put _ _ _ (by omega)]
              have hu : (W.setCell ⟨q2, j, none⟩ (.string (M.bs x.text))).heap[q3]? = some (.cells (unC sl).toArray 47 (0, 0)) := by rw [Below.heap_setCell _ _ _ _ (by show q3 ≠ q2; omega)]; exact h.u
              rw [heap_setCell_row hu, List.setIfInBounds_toArray]
          have HCJ : Hid (∀ W, R3 q1 q2 q3 sl W → W.cell? ⟨q2, j, none⟩ = some (.string (M.bs sj.text)) ∧ W.frozen? ⟨q2, j, none⟩ = false ∧ W.cell? ⟨q3, j, none⟩ = some (.bool sj.un) ∧ W.frozen? ⟨q3, j, none⟩ = false) := fun W h =>
            ⟨by rw [cell_row h.t]; exact txC_at _ _ _ hsj, frozen_row h.t _, by rw [cell_row h.u]; exact unC_at _ _ _ hsj, frozen_row h.u _⟩
          have i0 : (0 : Int) ≤ (j : Int) := by omega
          have i1 : (j : Int) < 8 := by omega
          by_cases ham : m = 1
          · subst ham
            have CW : Hid (∀ W, SW (wr.alloc (.cells #[.int .i64 x.kind, .int .i64 x.at', .string (M.bs x.text), .slice fa fn fc] 30)) b c ⟨false, 1, d, 0, sl⟩ W → Calls Try.prog 11 #[.pointer (some ⟨b, 0, none⟩), .int .i64 (j : Int), .string (M.bs x.text)] W fun e w' => e = .returned (.int .i64 10) ∧ SW (wr.alloc (.cells #[.int .i64 x.kind, .int .i64 x.at', .string (M.bs x.text), .slice fa fn fc] 30)) b c ⟨true, 0, d + 1, 1, sl3⟩ w') := fun W h => by
              rw [hsl3]; exact Write_at h hsj HSM.out rfl x.text hlx
            clear hsj
            go_wp2_with (go_at_call 11; refine (CW.out _ HK).mono ?_; clear CW HK; rintro e w4 ⟨rfl, HK⟩; obtain ⟨g1, g2, g3⟩ := HBX.out _ HK.o; obtain ⟨y1, y2, y3, y4⟩ := HCJ.out _ g3)
            have HSX := ((HO.out.trans HK).other (q := q2) (by omega) (by omega) (by omega) j (.string (M.bs x.text))).other (q := q3) (by omega) (by omega) (by omega) j (.bool true)
            have HRX := HR3.out _ g3
            generalize (w4.setCell ⟨q2, j, none⟩ (.string (M.bs x.text))).setCell ⟨q3, j, none⟩ (.bool true) = w5 at *
            clear HO HK HBX g1 g2 g3 y1 y2 y3 y4 hc0 hc1 hc2 hc3 HSM HCJ HR3 HSLX HINX hsl3
            have HSLX := HSL3
            have HINX := HIN3
            have HB0 : SW w5 b c ⟨true, 0, (d + 1), 1, sl3⟩ w5 := HSX.base
            have HSW : Hid (SW w b c ⟨true, 0, (d + 1), 1, sl3⟩ w5) := HSX
            obtain ⟨sl2, hsl2⟩ : ∃ sl2, sl2 = sl3.mapIdx (H.back (if F1.length = 0 then [0] else F1) sl3) := ⟨_, rfl⟩
            have HSL2 : Hid (Ss 8 sl2) := by rw [hsl2]; exact HSLX.out.on _
            have HK3 : Hid (∀ (k : Nat) (s : H.Sl), sl3[k]? = some s → ∃ s2, sl2[k]? = some s2 ∧ ((s.un = false ∧ s2.text = s.sure) ∨ (s.un = true ∧ (s2.text = s.sure ∨ s2.text = s.text ∨ ∃ n, n ≤ s.text.length ∧ s2.text = s.text.take n ++ s.sure.drop n)))) := fun k s hs => by
              refine ⟨_, by rw [hsl2]; exact back_at _ _ _ _ hs, ?_⟩
              unfold H.back
              cases hu : s.un
              · left; exact ⟨rfl, by rw [if_neg (by simp)]; exact HINX.out s (List.mem_of_getElem? hs) hu⟩
              · right; exact ⟨rfl, by rw [if_pos rfl]; exact left_three s _⟩
            have CO : Hid (∀ W', SW w5 b c ⟨true, 0, (d + 1), 1, sl3⟩ W' → Calls Try.prog 17 #[.pointer (some ⟨b, 0, none⟩)] W' fun e w' => e = .returned (.tuple #[]) ∧ SW w5 b c ⟨true, 0, (d + 1), 1, sl3⟩ w') := fun W' h => Off_at h (by show 1 ≤ 1000000; omega)
            have HFT : Hid (FT w5 b c a1 F1) := hF1.out.at HSX lb lc
            have CN : Hid (∀ W', SW w5 b c ⟨true, 0, (d + 1), 1, sl3⟩ W' → Calls Try.prog 19 #[.pointer (some ⟨b, 0, none⟩), .slice a1 F1.length cap1] W' fun e w' => e = .returned (.tuple #[]) ∧ SW w5 b c ⟨false, 0, (d + 1), 1, sl2⟩ w') := fun W' h => by
              have := On_at h rfl (HSLX.out.sm (by omega) _ _ _ _ (by omega) (by omega) (by omega)) F1 a1 cap1 HFT.out hl1 hb1.out
              rw [hsl2]
              exact this
            clear hsl2 HSX
            go_wp2_with (first
              | (go_at_call 17; refine (CO.out _ HB0).mono ?_; clear CO HB0; rintro e wx1 ⟨rfl, HB0⟩)
              | (go_at_call 19; refine (CN.out _ HB0).mono ?_; clear CN HB0; rintro e wx2 ⟨rfl, HB0⟩))
            have HB1 : Hid (SW w5 b c ⟨false, 0, (d + 1), 1, sl2⟩ wx2) := HB0
            have HRH : Hid (R3 q1 q2 q3 sl3 w5) := HRX
            clear HB0 HRX HFT
            go_loopw [15, 16, 17] (fun u15 u16 u17 wr => ∃ k : Nat, k ≤ 8 ∧ u15 = .int .i64 k ∧ SW w5 b c ⟨false, 0, (d + 1), 1, sl2⟩ wr) (fun u15 _ _ _ => 8 - (intOf u15).toNat)
            case atStart => exact ⟨0, by omega, rfl, HB1.out⟩
            case round =>
              clear HB1
              obtain ⟨k, hk8, rfl, HS⟩ := hrel
              have hl8 := HSL2.out.n
              have hl9 := HSLX.out.n
              by_cases hlt : k < 8
              · obtain ⟨s, hs⟩ : ∃ s, sl3[k]? = some s := ⟨sl3[k]'(by omega), List.getElem?_eq_getElem _⟩
                obtain ⟨s2, hs2, hc⟩ := HK3.out k s hs
                have CR : Hid (∀ W, SW w5 b c ⟨false, 0, (d + 1), 1, sl2⟩ W → Calls Try.prog 13 #[.pointer (some ⟨b, 0, none⟩), .int .i64 (k : Int)] W fun e w' => e = .returned (.tuple #[.string (M.bs s2.text), .int .i64 0]) ∧ SW w5 b c ⟨false, 0, (d + 1), 1, sl2⟩ w') := fun W h => by
                  refine (Read_s h hs2 (by show sl2.length ≤ 128; omega) rfl).mono ?_
                  rintro e w' ⟨rfl, h', n, rfl⟩
                  exact ⟨rfl, h'⟩
                have HCC : Hid (∀ W, SW w5 b c ⟨false, 0, (d + 1), 1, sl2⟩ W → W.cell? ⟨q1, k, none⟩ = some (.string (M.bs s.sure)) ∧ W.cell? ⟨q2, k, none⟩ = some (.string (M.bs s.text)) ∧ W.cell? ⟨q3, k, none⟩ = some (.bool s.un)) := fun W h => by
                  have r := HRH.out.off h.o hq0 hq0' hq1 hq2
                  exact ⟨by rw [cell_row r.s]; exact suC_at _ _ _ hs, by rw [cell_row r.t]; exact txC_at _ _ _ hs, by rw [cell_row r.u]; exact unC_at _ _ _ hs⟩
                obtain ⟨z1, z2⟩ := HSLX.out.t s (List.mem_of_getElem? hs)
                have i0 : (0 : Int) ≤ (k : Int) := by omega
                have i1 : (k : Int) < 8 := by omega
                clear hs hs2
                rcases hc with ⟨e1, e2⟩ | ⟨e1, e2⟩
                · rw [e1] at HCC
                  rw [e2] at CR
                  clear e1 e2
                  go_wp2_with (go_at_call 13; refine (CR.out _ HS).mono ?_; clear CR HS; rintro e w4 ⟨rfl, HS⟩; obtain ⟨g1, g2, g3⟩ := HCC.out _ HS)
                  go_quiet (fail)
                  go_wp2_with fail
                  go_roundw
                  case rel => exact ⟨k + 1, by omega, by go_num, HS.drewN _⟩
                  case measure => simp [intOf]; omega
                · rw [e1] at HCC
                  have b1 := bs_beq s2.text s.sure
                  have b2 := bs_beq s2.text s.text
                  by_cases q1' : s2.text = s.sure
                  · rw [decide_eq_true q1'] at b1
                    clear e1 e2 q1' b2
                    go_wp2_with (go_at_call 13; refine (CR.out _ HS).mono ?_; clear CR HS; rintro e w4 ⟨rfl, HS⟩; obtain ⟨g1, g2, g3⟩ := HCC.out _ HS)
                    go_quiet (fail)
                    go_wp2_with fail
                    go_roundw
                    case rel => exact ⟨k + 1, by omega, by go_num, HS.drewN _⟩
                    case measure => simp [intOf]; omega
                  · rw [decide_eq_false q1'] at b1
                    by_cases q2' : s2.text = s.text
                    · rw [decide_eq_true q2'] at b2
                      clear e1 e2 q1' q2'
                      go_wp2_with (go_at_call 13; refine (CR.out _ HS).mono ?_; clear CR HS; rintro e w4 ⟨rfl, HS⟩; obtain ⟨g1, g2, g3⟩ := HCC.out _ HS)
                      go_quiet (fail)
                      go_wp2_with fail
                      go_roundw
                      case rel => exact ⟨k + 1, by omega, by go_num, HS.drewN _⟩
                      case measure => simp [intOf]; omega
                    · rw [decide_eq_false q2'] at b2
                      have CT : Hid (∀ W, Calls Try.prog 30 #[.string (M.bs s2.text), .string (M.bs s.text), .string (M.bs s.sure)] W fun e w' => e = .returned (.bool true) ∧ w' = W) := fun W => by
                        rcases e2 with h | h | ⟨n, h1, h2⟩
                        · exact absurd h q1'
                        · exact absurd h q2'
                        · exact torn_at _ _ _ n h1 h2 z1 z2 W
                      clear e1 e2 q1' q2'
                      go_wp2_with (go_at_call 13; refine (CR.out _ HS).mono ?_; clear CR HS; rintro e w4 ⟨rfl, HS⟩; obtain ⟨g1, g2, g3⟩ := HCC.out _ HS)
                      go_quiet ((go_at_call 30; exact Calls.quiet_of_same (CT.out _)))
                      go_wp2_with fail
                      go_roundw
                      case rel => exact ⟨k + 1, by omega, by go_num, HS.drewN _⟩
                      case measure => simp [intOf]; omega
              · have hk1 : ¬ (k : Int) < 8 := by omega
                have N1 : Hid (∀ W, Calls Try.prog 13 #[.pointer none, .int .i64 0] W fun e w' => e = .returned (.tuple #[.string ⟨#[]⟩, .int .i64 2]) ∧ w' = W) := Read_nil 0
                have N2 : Hid (∀ W, Calls Try.prog 11 #[.pointer none, .int .i64 0, .string ⟨#[]⟩] W fun e w' => e = .returned (.int .i64 2) ∧ w' = W) := Write_nil 0 ⟨#[]⟩
                have N3 : Hid (∀ W, Calls Try.prog 15 #[.pointer none] W fun e w' => e = .returned (.int .i64 2) ∧ w' = W) := Sync_nil
                have N4 : Hid (∀ W, Calls Try.prog 23 #[.pointer none] W fun e w' => e = .returned (.bool true) ∧ w' = W) := Down_nil
                have N5 : Hid (∀ W, Calls Try.prog 29 #[.pointer none] W fun e w' => e = .returned (.int .i64 0) ∧ w' = W) := Len_nil
                go_wp2_with (first
                  | (go_at_call 13; refine (N1.out _).mono ?_; rintro e w4 ⟨rfl, rfl⟩)
                  | (go_at_call 11; refine (N2.out _).mono ?_; rintro e w4 ⟨rfl, rfl⟩)
                  | (go_at_call 15; refine (N3.out _).mono ?_; rintro e w4 ⟨rfl, rfl⟩)
                  | (go_at_call 23; refine (N4.out _).mono ?_; rintro e w4 ⟨rfl, rfl⟩)
                  | (go_at_call 29; refine (N5.out _).mono ?_; rintro e w4 ⟨rfl, rfl⟩))
                go_ret
                exact ⟨rfl, (HSW.out.trans HS).o.below lb lc (Nat.le_refl _)⟩
          · have CW : Hid (∀ W, SW (wr.alloc (.cells #[.int .i64 x.kind, .int .i64 x.at', .string (M.bs x.text), .slice fa fn fc] 30)) b c ⟨false, m, d, 0, sl⟩ W → Calls Try.prog 11 #[.pointer (some ⟨b, 0, none⟩), .int .i64 (j : Int), .string (M.bs x.text)] W fun e w' => e = .returned (.int .i64 0) ∧ ∃ m', m' < 200 ∧ SW (wr.alloc (.cells #[.int .i64 x.kind, .int .i64 x.at', .string (M.bs x.text), .slice fa fn fc] 30)) b c ⟨false, m', d + 1, 0, sl3⟩ w') := fun W h => by
              have h1 := Write_at h hsj HSM.out rfl x.text hlx
              rw [show actE ⟨false, m, d, 0, sl⟩ = 0 by unfold actE; rw [if_neg ham]] at h1
              refine h1.mono ?_
              rintro e w' ⟨rfl, h'⟩
              refine ⟨rfl, ?_⟩
              rw [hsl3]
              rcases (by omega : m = 0 ∨ 2 ≤ m) with h0 | h2
              · subst h0; exact ⟨0, by omega, h'⟩
              · have e2 : H.act (H.put ⟨false, m, d, 0, sl⟩ j x.text) = ⟨false, m - 1, d + 1, 0, sl.modify j (fun s => { s with text := x.text, un := true })⟩ := act_2 _ _ _ _ h2
                rw [e2] at h'; exact ⟨m - 1, by omega, h'⟩
            clear hsj
            go_wp2_with (go_at_call 11; refine (CW.out _ HK).mono ?_; clear CW HK; rintro e w4 ⟨rfl, m', hm', HK⟩; obtain ⟨g1, g2, g3⟩ := HBX.out _ HK.o; obtain ⟨y1, y2, y3, y4⟩ := HCJ.out _ g3)
            go_roundw
            case rel => exact ⟨i + 1, m', d + 1, _, by omega, by omega, by omega, hm', by go_num, HSL3.out, HIN3.out, ((HO.out.trans HK).other (q := q2) (by omega) (by omega) (by omega) _ _).other (q := q3) (by omega) (by omega) (by omega) _ _, HR3.out _ g3⟩
            case measure => simp [intOf]; omega
    · have hk1 : i < acts.length ∧ 150 ≤ i ∨ acts.length ≤ i := by omega
      clear hlt
      rcases hk1 with ⟨h1', h2'⟩ | h1'
      · generalize wr = w5 at *
        go_wp2_with fail
        have HB0 : SW w5 b c ⟨false, m, d, 0, sl⟩ w5 := HSX.base
        have HSW : Hid (SW w b c ⟨false, m, d, 0, sl⟩ w5) := HSX
        obtain ⟨sl2, hsl2⟩ : ∃ sl2, sl2 = sl.mapIdx (H.back (if F1.length = 0 then [0] else F1) sl) := ⟨_, rfl⟩
        have HSL2 : Hid (Ss 8 sl2) := by rw [hsl2]; exact HSLX.out.on _
        have HK3 : Hid (∀ (k : Nat) (s : H.Sl), sl[k]? = some s → ∃ s2, sl2[k]? = some s2 ∧ ((s.un = false ∧ s2.text = s.sure) ∨ (s.un = true ∧ (s2.text = s.sure ∨ s2.text = s.text ∨ ∃ n, n ≤ s.text.length ∧ s2.text = s.text.take n ++ s.sure.drop n)))) := fun k s hs => by
          refine ⟨_, by rw [hsl2]; exact back_at _ _ _ _ hs, ?_⟩
          unfold H.back
          cases hu : s.un
          · left; exact ⟨rfl, by rw [if_neg (by simp)]; exact HINX.out s (List.mem_of_getElem? hs) hu⟩
          · right; exact ⟨rfl, by rw [if_pos rfl]; exact left_three s _⟩
        have CO : Hid (∀ W', SW w5 b c ⟨false, m, d, 0, sl⟩ W' → Calls Try.prog 17 #[.pointer (some ⟨b, 0, none⟩)] W' fun e w' => e = .returned (.tuple #[]) ∧ SW w5 b c ⟨true, 0, d, 1, sl⟩ w') := fun W' h => Off_at h (by show 0 ≤ 1000000; omega)
        have HFT : Hid (FT w5 b c a1 F1) := hF1.out.at HSX lb lc
        have CN : Hid (∀ W', SW w5 b c ⟨true, 0, d, 1, sl⟩ W' → Calls Try.prog 19 #[.pointer (some ⟨b, 0, none⟩), .slice a1 F1.length cap1] W' fun e w' => e = .returned (.tuple #[]) ∧ SW w5 b c ⟨false, 0, d, 1, sl2⟩ w') := fun W' h => by
          have := On_at h rfl (HSLX.out.sm (by omega) _ _ _ _ (by omega) (by omega) (by omega)) F1 a1 cap1 HFT.out hl1 hb1.out
          rw [hsl2]
          exact this
        clear hsl2 HSX
        go_wp2_with (first
          | (go_at_call 17; refine (CO.out _ HB0).mono ?_; clear CO HB0; rintro e wx1 ⟨rfl, HB0⟩)
          | (go_at_call 19; refine (CN.out _ HB0).mono ?_; clear CN HB0; rintro e wx2 ⟨rfl, HB0⟩))
        have HB1 : Hid (SW w5 b c ⟨false, 0, d, 1, sl2⟩ wx2) := HB0
        have HRH : Hid (R3 q1 q2 q3 sl w5) := HRX
        clear HB0 HRX HFT
        go_loopw [15, 16, 17] (fun u15 u16 u17 wr => ∃ k : Nat, k ≤ 8 ∧ u15 = .int .i64 k ∧ SW w5 b c ⟨false, 0, d, 1, sl2⟩ wr) (fun u15 _ _ _ => 8 - (intOf u15).toNat)
        case atStart => exact ⟨0, by omega, rfl, HB1.out⟩
        case round =>
          clear HB1
          obtain ⟨k, hk8, rfl, HS⟩ := hrel
          have hl8 := HSL2.out.n
          have hl9 := HSLX.out.n
          by_cases hlt : k < 8
          · obtain ⟨s, hs⟩ : ∃ s, sl[k]? = some s := ⟨sl[k]'(by omega), List.getElem?_eq_getElem _⟩
            obtain ⟨s2, hs2, hc⟩ := HK3.out k s hs
            have CR : Hid (∀ W, SW w5 b c ⟨false, 0, d, 1, sl2⟩ W → Calls Try.prog 13 #[.pointer (some ⟨b, 0, none⟩), .int .i64 (k : Int)] W fun e w' => e = .returned (.tuple #[.string (M.bs s2.text), .int .i64 0]) ∧ SW w5 b c ⟨false, 0, d, 1, sl2⟩ w') := fun W h => by
              refine (Read_s h hs2 (by show sl2.length ≤ 128; omega) rfl).mono ?_
              rintro e w' ⟨rfl, h', n, rfl⟩
              exact ⟨rfl, h'⟩
            have HCC : Hid (∀ W, SW w5 b c ⟨false, 0, d, 1, sl2⟩ W → W.cell? ⟨q1, k, none⟩ = some (.string (M.bs s.sure)) ∧ W.cell? ⟨q2, k, none⟩ = some (.string (M.bs s.text)) ∧ W.cell? ⟨q3, k, none⟩ = some (.bool s.un)) := fun W h => by
              have r := HRH.out.off h.o hq0 hq0' hq1 hq2
              exact ⟨by rw [cell_row r.s]; exact suC_at _ _ _ hs, by rw [cell_row r.t]; exact txC_at _ _ _ hs, by rw [cell_row r.u]; exact unC_at _ _ _ hs⟩
            obtain ⟨z1, z2⟩ := HSLX.out.t s (List.mem_of_getElem? hs)
            have i0 : (0 : Int) ≤ (k : Int) := by omega
            have i1 : (k : Int) < 8 := by omega
            clear hs hs2
            rcases hc with ⟨e1, e2⟩ | ⟨e1, e2⟩
            · rw [e1] at HCC
              rw [e2] at CR
              clear e1 e2
              go_wp2_with (go_at_call 13; refine (CR.out _ HS).mono ?_; clear CR HS; rintro e w4 ⟨rfl, HS⟩; obtain ⟨g1, g2, g3⟩ := HCC.out _ HS)
              go_quiet (fail)
              go_wp2_with fail
              go_roundw
              case rel => exact ⟨k + 1, by omega, by go_num, HS.drewN _⟩
              case measure => simp [intOf]; omega
            · rw [e1] at HCC
              have b1 := bs_beq s2.text s.sure
              have b2 := bs_beq s2.text s.text
              by_cases q1' : s2.text = s.sure
              · rw [decide_eq_true q1'] at b1
                clear e1 e2 q1' b2
                go_wp2_with (go_at_call 13; refine (CR.out _ HS).mono ?_; clear CR HS; rintro e w4 ⟨rfl, HS⟩; obtain ⟨g1, g2, g3⟩ := HCC.out _ HS)
                go_quiet (fail)
                go_wp2_with fail
                go_roundw
                case rel => exact ⟨k + 1, by omega, by go_num, HS.drewN _⟩
                case measure => simp [intOf]; omega
              · rw [decide_eq_false q1'] at b1
                by_cases q2' : s2.text = s.text
                · rw [decide_eq_true q2'] at b2
                  clear e1 e2 q1' q2'
                  go_wp2_with (go_at_call 13; refine (CR.out _ HS).mono ?_; clear CR HS; rintro e w4 ⟨rfl, HS⟩; obtain ⟨g1, g2, g3⟩ := HCC.out _ HS)
                  go_quiet (fail)
                  go_wp2_with fail
                  go_roundw
                  case rel => exact ⟨k + 1, by omega, by go_num, HS.drewN _⟩
                  case measure => simp [intOf]; omega
                · rw [decide_eq_false q2'] at b2
                  have CT : Hid (∀ W, Calls Try.prog 30 #[.string (M.bs s2.text), .string (M.bs s.text), .string (M.bs s.sure)] W fun e w' => e = .returned (.bool true) ∧ w' = W) := fun W => by
                    rcases e2 with h | h | ⟨n, h1, h2⟩
                    · exact absurd h q1'
                    · exact absurd h q2'
                    · exact torn_at _ _ _ n h1 h2 z1 z2 W
                  clear e1 e2 q1' q2'
                  go_wp2_with (go_at_call 13; refine (CR.out _ HS).mono ?_; clear CR HS; rintro e w4 ⟨rfl, HS⟩; obtain ⟨g1, g2, g3⟩ := HCC.out _ HS)
                  go_quiet ((go_at_call 30; exact Calls.quiet_of_same (CT.out _)))
                  go_wp2_with fail
                  go_roundw
                  case rel => exact ⟨k + 1, by omega, by go_num, HS.drewN _⟩
                  case measure => simp [intOf]; omega
          · have hk1 : ¬ (k : Int) < 8 := by omega
            have N1 : Hid (∀ W, Calls Try.prog 13 #[.pointer none, .int .i64 0] W fun e w' => e = .returned (.tuple #[.string ⟨#[]⟩, .int .i64 2]) ∧ w' = W) := Read_nil 0
            have N2 : Hid (∀ W, Calls Try.prog 11 #[.pointer none, .int .i64 0, .string ⟨#[]⟩] W fun e w' => e = .returned (.int .i64 2) ∧ w' = W) := Write_nil 0 ⟨#[]⟩
            have N3 : Hid (∀ W, Calls Try.prog 15 #[.pointer none] W fun e w' => e = .returned (.int .i64 2) ∧ w' = W) := Sync_nil
            have N4 : Hid (∀ W, Calls Try.prog 23 #[.pointer none] W fun e w' => e = .returned (.bool true) ∧ w' = W) := Down_nil
            have N5 : Hid (∀ W, Calls Try.prog 29 #[.pointer none] W fun e w' => e = .returned (.int .i64 0) ∧ w' = W) := Len_nil
            go_wp2_with (first
              | (go_at_call 13; refine (N1.out _).mono ?_; rintro e w4 ⟨rfl, rfl⟩)
              | (go_at_call 11; refine (N2.out _).mono ?_; rintro e w4 ⟨rfl, rfl⟩)
              | (go_at_call 15; refine (N3.out _).mono ?_; rintro e w4 ⟨rfl, rfl⟩)
              | (go_at_call 23; refine (N4.out _).mono ?_; rintro e w4 ⟨rfl, rfl⟩)
              | (go_at_call 29; refine (N5.out _).mono ?_; rintro e w4 ⟨rfl, rfl⟩))
            go_ret
            exact ⟨rfl, (HSW.out.trans HS).o.below lb lc (Nat.le_refl _)⟩
      · generalize wr = w5 at *
        go_wp2_with fail
        have HB0 : SW w5 b c ⟨false, m, d, 0, sl⟩ w5 := HSX.base
        have HSW : Hid (SW w b c ⟨false, m, d, 0, sl⟩ w5) := HSX
        obtain ⟨sl2, hsl2⟩ : ∃ sl2, sl2 = sl.mapIdx (H.back (if F1.length = 0 then [0] else F1) sl) := ⟨_, rfl⟩
        have HSL2 : Hid (Ss 8 sl2) := by rw [hsl2]; exact HSLX.out.on _
        have HK3 : Hid (∀ (k : Nat) (s : H.Sl), sl[k]? = some s → ∃ s2, sl2[k]? = some s2 ∧ ((s.un = false ∧ s2.text = s.sure) ∨ (s.un = true ∧ (s2.text = s.sure ∨ s2.text = s.text ∨ ∃ n, n ≤ s.text.length ∧ s2.text = s.text.take n ++ s.sure.drop n)))) := fun k s hs => by
          refine ⟨_, by rw [hsl2]; exact back_at _ _ _ _ hs, ?_⟩
          unfold H.back
          cases hu : s.un
          · left; exact ⟨rfl, by rw [if_neg (by simp)]; exact HINX.out s (List.mem_of_getElem? hs) hu⟩
          · right; exact ⟨rfl, by rw [if_pos rfl]; exact left_three s _⟩
        have CO : Hid (∀ W', SW w5 b c ⟨false, m, d, 0, sl⟩ W' → Calls Try.prog 17 #[.pointer (some ⟨b, 0, none⟩)] W' fun e w' => e = .returned (.tuple #[]) ∧ SW w5 b c ⟨true, 0, d, 1, sl⟩ w') := fun W' h => Off_at h (by show 0 ≤ 1000000; omega)
        have HFT : Hid (FT w5 b c a1 F1) := hF1.out.at HSX lb lc
        have CN : Hid (∀ W', SW w5 b c ⟨true, 0, d, 1, sl⟩ W' → Calls Try.prog 19 #[.pointer (some ⟨b, 0, none⟩), .slice a1 F1.length cap1] W' fun e w' => e = .returned (.tuple #[]) ∧ SW w5 b c ⟨false, 0, d, 1, sl2⟩ w') := fun W' h => by
          have := On_at h rfl (HSLX.out.sm (by omega) _ _ _ _ (by omega) (by omega) (by omega)) F1 a1 cap1 HFT.out hl1 hb1.out
          rw [hsl2]
          exact this
        clear hsl2 HSX
        go_wp2_with (first
          | (go_at_call 17; refine (CO.out _ HB0).mono ?_; clear CO HB0; rintro e wx1 ⟨rfl, HB0⟩)
          | (go_at_call 19; refine (CN.out _ HB0).mono ?_; clear CN HB0; rintro e wx2 ⟨rfl, HB0⟩))
        have HB1 : Hid (SW w5 b c ⟨false, 0, d, 1, sl2⟩ wx2) := HB0
        have HRH : Hid (R3 q1 q2 q3 sl w5) := HRX
        clear HB0 HRX HFT
        go_loopw [15, 16, 17] (fun u15 u16 u17 wr => ∃ k : Nat, k ≤ 8 ∧ u15 = .int .i64 k ∧ SW w5 b c ⟨false, 0, d, 1, sl2⟩ wr) (fun u15 _ _ _ => 8 - (intOf u15).toNat)
        case atStart => exact ⟨0, by omega, rfl, HB1.out⟩
        case round =>
          clear HB1
          obtain ⟨k, hk8, rfl, HS⟩ := hrel
          have hl8 := HSL2.out.n
          have hl9 := HSLX.out.n
          by_cases hlt : k < 8
          · obtain ⟨s, hs⟩ : ∃ s, sl[k]? = some s := ⟨sl[k]'(by omega), List.getElem?_eq_getElem _⟩
            obtain ⟨s2, hs2, hc⟩ := HK3.out k s hs
            have CR : Hid (∀ W, SW w5 b c ⟨false, 0, d, 1, sl2⟩ W → Calls Try.prog 13 #[.pointer (some ⟨b, 0, none⟩), .int .i64 (k : Int)] W fun e w' => e = .returned (.tuple #[.string (M.bs s2.text), .int .i64 0]) ∧ SW w5 b c ⟨false, 0, d, 1, sl2⟩ w') := fun W h => by
              refine (Read_s h hs2 (by show sl2.length ≤ 128; omega) rfl).mono ?_
              rintro e w' ⟨rfl, h', n, rfl⟩
              exact ⟨rfl, h'⟩
            have HCC : Hid (∀ W, SW w5 b c ⟨false, 0, d, 1, sl2⟩ W → W.cell? ⟨q1, k, none⟩ = some (.string (M.bs s.sure)) ∧ W.cell? ⟨q2, k, none⟩ = some (.string (M.bs s.text)) ∧ W.cell? ⟨q3, k, none⟩ = some (.bool s.un)) := fun W h => by
              have r := HRH.out.off h.o hq0 hq0' hq1 hq2
              exact ⟨by rw [cell_row r.s]; exact suC_at _ _ _ hs, by rw [cell_row r.t]; exact txC_at _ _ _ hs, by rw [cell_row r.u]; exact unC_at _ _ _ hs⟩
            obtain ⟨z1, z2⟩ := HSLX.out.t s (List.mem_of_getElem? hs)
            have i0 : (0 : Int) ≤ (k : Int) := by omega
            have i1 : (k : Int) < 8 := by omega
            clear hs hs2
            rcases hc with ⟨e1, e2⟩ | ⟨e1, e2⟩
            · rw [e1] at HCC
              rw [e2] at CR
              clear e1 e2
              go_wp2_with (go_at_call 13; refine (CR.out _ HS).mono ?_; clear CR HS; rintro e w4 ⟨rfl, HS⟩; obtain ⟨g1, g2, g3⟩ := HCC.out _ HS)
              go_quiet (fail)
              go_wp2_with fail
              go_roundw
              case rel => exact ⟨k + 1, by omega, by go_num, HS.drewN _⟩
              case measure => simp [intOf]; omega
            · rw [e1] at HCC
              have b1 := bs_beq s2.text s.sure
              have b2 := bs_beq s2.text s.text
              by_cases q1' : s2.text = s.sure
              · rw [decide_eq_true q1'] at b1
                clear e1 e2 q1' b2
                go_wp2_with (go_at_call 13; refine (CR.out _ HS).mono ?_; clear CR HS; rintro e w4 ⟨rfl, HS⟩; obtain ⟨g1, g2, g3⟩ := HCC.out _ HS)
                go_quiet (fail)
                go_wp2_with fail
                go_roundw
                case rel => exact ⟨k + 1, by omega, by go_num, HS.drewN _⟩
                case measure => simp [intOf]; omega
              · rw [decide_eq_false q1'] at b1
                by_cases q2' : s2.text = s.text
                · rw [decide_eq_true q2'] at b2
                  clear e1 e2 q1' q2'
                  go_wp2_with (go_at_call 13; refine (CR.out _ HS).mono ?_; clear CR HS; rintro e w4 ⟨rfl, HS⟩; obtain ⟨g1, g2, g3⟩ := HCC.out _ HS)
                  go_quiet (fail)
                  go_wp2_with fail
                  go_roundw
                  case rel => exact ⟨k + 1, by omega, by go_num, HS.drewN _⟩
                  case measure => simp [intOf]; omega
                · rw [decide_eq_false q2'] at b2
                  have CT : Hid (∀ W, Calls Try.prog 30 #[.string (M.bs s2.text), .string (M.bs s.text), .string (M.bs s.sure)] W fun e w' => e = .returned (.bool true) ∧ w' = W) := fun W => by
                    rcases e2 with h | h | ⟨n, h1, h2⟩
                    · exact absurd h q1'
                    · exact absurd h q2'
                    · exact torn_at _ _ _ n h1 h2 z1 z2 W
                  clear e1 e2 q1' q2'
                  go_wp2_with (go_at_call 13; refine (CR.out _ HS).mono ?_; clear CR HS; rintro e w4 ⟨rfl, HS⟩; obtain ⟨g1, g2, g3⟩ := HCC.out _ HS)
                  go_quiet ((go_at_call 30; exact Calls.quiet_of_same (CT.out _)))
                  go_wp2_with fail
                  go_roundw
                  case rel => exact ⟨k + 1, by omega, by go_num, HS.drewN _⟩
                  case measure => simp [intOf]; omega
          · have hk1 : ¬ (k : Int) < 8 := by omega
            have N1 : Hid (∀ W, Calls Try.prog 13 #[.pointer none, .int .i64 0] W fun e w' => e = .returned (.tuple #[.string ⟨#[]⟩, .int .i64 2]) ∧ w' = W) := Read_nil 0
            have N2 : Hid (∀ W, Calls Try.prog 11 #[.pointer none, .int .i64 0, .string ⟨#[]⟩] W fun e w' => e = .returned (.int .i64 2) ∧ w' = W) := Write_nil 0 ⟨#[]⟩
            have N3 : Hid (∀ W, Calls Try.prog 15 #[.pointer none] W fun e w' => e = .returned (.int .i64 2) ∧ w' = W) := Sync_nil
            have N4 : Hid (∀ W, Calls Try.prog 23 #[.pointer none] W fun e w' => e = .returned (.bool true) ∧ w' = W) := Down_nil
            have N5 : Hid (∀ W, Calls Try.prog 29 #[.pointer none] W fun e w' => e = .returned (.int .i64 0) ∧ w' = W) := Len_nil
            go_wp2_with (first
              | (go_at_call 13; refine (N1.out _).mono ?_; rintro e w4 ⟨rfl, rfl⟩)
              | (go_at_call 11; refine (N2.out _).mono ?_; rintro e w4 ⟨rfl, rfl⟩)
              | (go_at_call 15; refine (N3.out _).mono ?_; rintro e w4 ⟨rfl, rfl⟩)
              | (go_at_call 23; refine (N4.out _).mono ?_; rintro e w4 ⟨rfl, rfl⟩)
              | (go_at_call 29; refine (N5.out _).mono ?_; rintro e w4 ⟨rfl, rfl⟩))
            go_ret
            exact ⟨rfl, (HSW.out.trans HS).o.below lb lc (Nat.le_refl _)⟩
end Go.Proofs.Ytdeddiclemdpoaa
