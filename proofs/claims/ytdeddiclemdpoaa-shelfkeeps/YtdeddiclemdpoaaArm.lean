/- The walk of the law ShelfArms. -/
import Derived.Test.YtdeddiclemdpoaaH7
namespace Go.Proofs.Ytdeddiclemdpoaa
open Go.RowKit
set_option linter.unusedVariables false

theorem SW.under {w W0 W : World} {b c : Nat} {st : H.Sh} (h : SW W0 b c st W) (hb : Below w.heap.size w W0) : SW w b c st W := ⟨h.hb, h.hc, h.ne, (Off2.of_below hb).trans h.o⟩
theorem New_u (n : Nat) (hn : n ≤ 128) {w W : World} (hb : Below w.heap.size w W) :
    Calls Try.prog 9 #[.int .i64 (n : Int)] W fun e w' => ∃ b c, e = .returned (.pointer (some ⟨b, 0, none⟩)) ∧ w.heap.size ≤ b ∧ w.heap.size ≤ c ∧ SW w b c (new n) w' := by
  refine (New_at n hn W).mono ?_
  rintro e w' ⟨b, c, rfl, h1, h2, h3⟩
  have := hb.size
  exact ⟨b, c, rfl, by omega, by omega, h3.under hb⟩
theorem Down_s {w W : World} {b c : Nat} {st : H.Sh} (h : SW w b c st W) : Calls Try.prog 23 #[.pointer (some ⟨b, 0, none⟩)] W fun e w' => e = .returned (.bool st.off) ∧ SW w b c st w' := by
  refine (Down_at h).mono ?_
  rintro e w' ⟨rfl, n, rfl⟩
  exact ⟨rfl, h.drewN n⟩
theorem act_0 (a l : Nat) (s : List H.Sl) : H.act ⟨false, 0, a, l, s⟩ = ⟨false, 0, a + 1, l, s⟩ := rfl
theorem act_1 (a l : Nat) (s : List H.Sl) : H.act ⟨false, 1, a, l, s⟩ = ⟨true, 0, a + 1, l + 1, s⟩ := rfl
theorem act_2 (m a l : Nat) (s : List H.Sl) (h : 2 ≤ m) : H.act ⟨false, m, a, l, s⟩ = ⟨false, m - 1, a + 1, l, s⟩ := by
  unfold H.act; rw [if_neg (by show ¬ m = 0; omega), if_neg (by show ¬ m = 1; omega)]

set_option maxRecDepth 8000 in
set_option maxHeartbeats 4000000 in
theorem shelfArms_walk (n : Int) (acts : List Ac) (a : Option Addr) (cap : Nat) (w : World) (hA : Hid (AC w a acts)) (hl : acts.length ≤ 9223372036854775807) :
    Calls Try.prog 5 #[.int .i64 n, .slice a acts.length cap] w fun e w' => e = .returned (.bool true) ∧ Below w.heap.size w w' := by
  have CA : Hid (∀ W, Calls Try.prog 8 #[] W fun e w' => e = .returned (.bool true) ∧ Below W.heap.size W w') := awake_at
  have hu : Int.tmod (IntKind.u64.wrap n) 150 = (um n 150 : Int) := um_wrap n 150
  have hu2 := um_lt n 150 (by omega)
  generalize um n 150 = m at *
  have C0 : Hid (∀ W, Below w.heap.size w W → Calls Try.prog 9 #[.int .i64 4] W fun e w' => ∃ b c, e = .returned (.pointer (some ⟨b, 0, none⟩)) ∧ w.heap.size ≤ b ∧ w.heap.size ≤ c ∧ SW w b c (new 4) w') := fun W h => New_u 4 (by decide) h
  have C1 : Hid (∀ b c W, SW w b c (new 4) W → Calls Try.prog 21 #[.pointer (some ⟨b, 0, none⟩), .int .i64 (1 + (m : Int))] W fun e w' => e = .returned (.tuple #[]) ∧ SW w b c ⟨false, m + 1, 0, 0, List.replicate 4 s0⟩ w') := fun b c W h => by
    have := Arm_at h (1 + (m : Int)) (by omega) (by omega)
    rwa [show (1 + (m : Int)).toNat = m + 1 by omega] at this
  go_enter Try.func5, Try.ntmps5
  go_wp2_with (first
    | (go_at_call 8; refine (CA.out _).mono ?_; clear CA; rintro e w0 ⟨rfl, HB⟩)
    | (go_at_call 9; refine (C0.out _ HB).mono ?_; clear C0; rintro e w1 ⟨b, c, rfl, lb, lc, HS⟩)
    | (go_at_call 21; refine (C1.out _ _ _ HS).mono ?_; clear C1 HS; rintro e w2 ⟨rfl, HS⟩))
  have HS0 : Hid (SW w b c ⟨false, m + 1, 0, 0, List.replicate 4 s0⟩ w2) := HS
  clear HS HB hu
  go_loopw [6, 7, 8] (fun u6 u7 u8 wr => ∃ (k d : Nat) (sl : List H.Sl), k ≤ acts.length ∧ k ≤ 150 ∧ d < m + 1 ∧ u7 = .int .i64 k ∧ u6 = .int .i64 d ∧ Ss 4 sl ∧ SW w b c ⟨false, m + 1 - d, d, 0, sl⟩ wr) (fun _ u7 _ _ => 150 - (intOf u7).toNat)
  case atStart => exact ⟨0, 0, _, Nat.zero_le _, by omega, by omega, rfl, rfl, Ss.new 4, HS0.out⟩
  case round =>
    obtain ⟨k, d, sl, hk, hk2, hd, rfl, rfl, hsl, HS⟩ := hrel
    clear HS0
    have HSL : Hid (Ss 4 sl) := hsl
    clear hsl
    have sm : Sm ⟨false, m + 1 - d, d, 0, sl⟩ := HSL.out.sm (by omega) _ _ _ _ (by omega) (by omega) (by omega)
    have hlen : sl.length = 4 := HSL.out.n
    by_cases hlt : k < acts.length ∧ k < 150
    · obtain ⟨x, hx⟩ : ∃ x, acts[k]? = some x := ⟨acts[k], List.getElem?_eq_getElem hlt.1⟩
      obtain ⟨sb, off, rfl, hsb, hc0, hc1, hc2, hc3, hat, htx, hfa⟩ := hA.out k x hx
      have HC : Hid (∀ {st : H.Sh} W, SW w b c st W → W.cell? ⟨sb, off + k * 4, none⟩ = some (.int .i64 x.kind)) := fun W h => by
        rw [h.o.cell (p := ⟨sb, off + k * 4, none⟩) hsb (by show sb ≠ b; omega) (by show sb ≠ c; omega)]; exact hc0
      obtain ⟨s, hs⟩ : ∃ s, sl[0]? = some s := ⟨sl[0], List.getElem?_eq_getElem (by omega)⟩
      have CW4 : Hid (∀ W, SW w b c ⟨false, m + 1 - d, d, 0, sl⟩ W → Calls Try.prog 11 #[.pointer (some ⟨b, 0, none⟩), .int .i64 4, .string ⟨#[120]⟩] W fun e w' => e = .returned (.int .i64 1) ∧ SW w b c ⟨false, m + 1 - d, d, 0, sl⟩ w') := fun W h => by
        have e1 : slotE ⟨false, m + 1 - d, d, 0, sl⟩ 4 = 1 := by unfold slotE; rw [if_neg (by simp), if_neg (by show ¬ (_ ∧ (4 : Int) < (sl.length : Int)); omega)]
        have h1 := Write_no h 4 ⟨#[120]⟩ sm.n (by rw [e1]; decide)
        rw [e1] at h1
        refine h1.mono ?_
        rintro e w' ⟨rfl, nn, rfl⟩
        exact ⟨rfl, h.drewN nn⟩
      have CW1 : Hid (∀ W, SW w b c ⟨false, m + 1 - d, d, 0, sl⟩ W → Calls Try.prog 11 #[.pointer (some ⟨b, 0, none⟩), .int .i64 (-1), .string ⟨#[]⟩] W fun e w' => e = .returned (.int .i64 1) ∧ SW w b c ⟨false, m + 1 - d, d, 0, sl⟩ w') := fun W h => by
        have e1 : slotE ⟨false, m + 1 - d, d, 0, sl⟩ (-1) = 1 := by unfold slotE; rw [if_neg (by simp), if_neg (by omega)]
        have h1 := Write_no h (-1) ⟨#[]⟩ sm.n (by rw [e1]; decide)
        rw [e1] at h1
        refine h1.mono ?_
        rintro e w' ⟨rfl, nn, rfl⟩
        exact ⟨rfl, h.drewN nn⟩
      have CR : Hid (∀ W, SW w b c ⟨false, m + 1 - d, d, 0, sl⟩ W → Calls Try.prog 13 #[.pointer (some ⟨b, 0, none⟩), .int .i64 0] W fun e w' => e = .returned (.tuple #[.string (M.bs s.text), .int .i64 0]) ∧ SW w b c ⟨false, m + 1 - d, d, 0, sl⟩ w') := fun W h => by
        refine (Read_at (i := 0) (s := s) h hs sm.n rfl).mono ?_
        rintro e w' ⟨rfl, nn, rfl⟩
        exact ⟨rfl, h.drewN nn⟩
      have hk4 : Int.tmod (k : Int) 4 = ((k % 4 : Nat) : Int) := tmod_nat k 4
      obtain ⟨j, hj⟩ : ∃ j, j = k % 4 := ⟨_, rfl⟩
      rw [← hj] at hk4
      have hj4 : j < 4 := by omega
      have hi0 : (0 : Int) ≤ (k : Int) := by omega
      have hi1 : (k : Int) < (acts.length : Int) := by omega
      have hi2 : (k : Int) < 150 := by omega
      clear hj hc0 hc1 hc2 hc3 hat htx hfa hs hx hA
      by_cases q1 : d = m
      · subst q1
        have CS : Hid (∀ W, SW w b c ⟨false, d + 1 - d, d, 0, sl⟩ W → Calls Try.prog 15 #[.pointer (some ⟨b, 0, none⟩)] W fun e w' => e = .returned (.int .i64 10) ∧ SW w b c ⟨true, 0, d + 1, 1, sl⟩ w') := fun W h => by
          have := Sync_cut h rfl sm (show d + 1 - d = 1 by omega)
          rwa [show d + 1 - d = 1 by omega, act_1] at this
        have CW : Hid (∀ W, SW w b c ⟨true, 0, d + 1, 1, sl⟩ W → Calls Try.prog 11 #[.pointer (some ⟨b, 0, none⟩), .int .i64 (j : Int), .string ⟨#[116]⟩] W fun e w' => e = .returned (.int .i64 10) ∧ SW w b c ⟨true, 0, d + 1, 1, sl⟩ w') := fun W h => by
          have h1 := Write_no h (j : Int) ⟨#[116]⟩ sm.n (by simp [slotE])
          refine h1.mono ?_
          rintro e w' ⟨rfl, nn, rfl⟩
          exact ⟨rfl, h.drewN nn⟩
        have z1 : ((d : Int) + 1 == 1 + (d : Int)) = true := by simp; omega
        have z2 : (d : Int) + 1 ≤ 1 + (d : Int) := by omega
        clear sm
        by_cases hkd : x.kind = 1
        · have hkd' : (x.kind == 1) = true := by simp [hkd]
          clear hkd
          go_wp2_with (first
          | (go_at_call 11; refine (CW4.out _ HS).mono ?_; clear CW4 HS; rintro e wa ⟨rfl, HS⟩)
          | (go_at_call 11; refine (CW1.out _ HS).mono ?_; clear CW1 HS; rintro e wb ⟨rfl, HS⟩)
          | (go_at_call 25; refine (Acts_at HS).mono ?_; rintro e wc ⟨rfl, rfl⟩)
          | (go_at_call 27; refine (Life_at HS).mono ?_; rintro e wc ⟨rfl, rfl⟩)
          | (go_at_call 13; refine (CR.out _ HS).mono ?_; clear CR HS; rintro e wd ⟨rfl, HS⟩)
          | (go_at_call 15; refine (CS.out _ HS).mono ?_; clear CS HS; rintro e we ⟨rfl, HS⟩; have hc := HC.out _ HS)
          | (go_at_call 11; refine (CW.out _ HS).mono ?_; clear CW HS; rintro e wf ⟨rfl, HS⟩)
          | (go_at_call 23; refine (Down_s HS).mono ?_; clear HS; rintro e wg ⟨rfl, HS⟩))
          go_ret
          exact ⟨rfl, HS.o.below lb lc (Nat.le_refl _)⟩
        · have hkd' : (x.kind == 1) = false := by simp [hkd]
          clear hkd
          go_wp2_with (first
          | (go_at_call 11; refine (CW4.out _ HS).mono ?_; clear CW4 HS; rintro e wa ⟨rfl, HS⟩)
          | (go_at_call 11; refine (CW1.out _ HS).mono ?_; clear CW1 HS; rintro e wb ⟨rfl, HS⟩)
          | (go_at_call 25; refine (Acts_at HS).mono ?_; rintro e wc ⟨rfl, rfl⟩)
          | (go_at_call 27; refine (Life_at HS).mono ?_; rintro e wc ⟨rfl, rfl⟩)
          | (go_at_call 13; refine (CR.out _ HS).mono ?_; clear CR HS; rintro e wd ⟨rfl, HS⟩)
          | (go_at_call 15; refine (CS.out _ HS).mono ?_; clear CS HS; rintro e we ⟨rfl, HS⟩; have hc := HC.out _ HS)
          | (go_at_call 11; refine (CW.out _ HS).mono ?_; clear CW HS; rintro e wf ⟨rfl, HS⟩)
          | (go_at_call 23; refine (Down_s HS).mono ?_; clear HS; rintro e wg ⟨rfl, HS⟩))
          go_ret
          exact ⟨rfl, HS.o.below lb lc (Nat.le_refl _)⟩
      · have CS : Hid (∀ W, SW w b c ⟨false, m + 1 - d, d, 0, sl⟩ W → Calls Try.prog 15 #[.pointer (some ⟨b, 0, none⟩)] W fun e w' => e = .returned (.int .i64 0) ∧ SW w b c ⟨false, m - d, d + 1, 0, sl.map (fun s => H.settle s.text)⟩ w') := fun W h => by
          have := Sync_at h rfl sm (show m + 1 - d ≠ 1 by omega)
          rw [act_2 _ _ _ _ (by omega), show m + 1 - d - 1 = m - d by omega] at this
          exact this
        obtain ⟨sl2, hsl2⟩ : ∃ sl2, sl2 = sl.map (fun s => H.settle s.text) := ⟨_, rfl⟩
        have HSL2 : Hid (Ss 4 sl2) := by rw [hsl2]; exact HSL.out.sync
        rw [← hsl2] at CS
        clear hsl2
        have sm2 : Sm ⟨false, m - d, d + 1, 0, sl2⟩ := HSL2.out.sm (by omega) _ _ _ _ (by omega) (by omega) (by omega)
        obtain ⟨s2, hs2⟩ : ∃ s2, sl2[j]? = some s2 := ⟨sl2[j]'(by rw [HSL2.out.n]; exact hj4), List.getElem?_eq_getElem _⟩
        obtain ⟨sl3, hsl3⟩ : ∃ sl3, sl3 = sl2.modify j (fun s => { s with text := tt, un := true }) := ⟨_, rfl⟩
        have HSL3 : Hid (Ss 4 sl3) := by rw [hsl3]; exact HSL2.out.put j tt (by decide)
        by_cases hkd : x.kind = 1
        · have hkd' : (x.kind == 1) = true := by simp [hkd]
          clear hkd
          by_cases q2 : d + 1 = m
          · have CW : Hid (∀ W, SW w b c ⟨false, m - d, d + 1, 0, sl2⟩ W → Calls Try.prog 11 #[.pointer (some ⟨b, 0, none⟩), .int .i64 (j : Int), .string ⟨#[116]⟩] W fun e w' => e = .returned (.int .i64 10) ∧ SW w b c ⟨true, 0, d + 2, 1, sl3⟩ w') := fun W h => by
              have h1 := Write_at h hs2 sm2 rfl tt (by decide)
              have ha : actE ⟨false, m - d, d + 1, 0, sl2⟩ = 10 := by unfold actE; rw [if_pos (by show m - d = 1; omega)]
              rw [ha] at h1
              have e2 : H.act (H.put ⟨false, m - d, d + 1, 0, sl2⟩ j tt) = ⟨true, 0, d + 2, 1, sl3⟩ := by
                show H.act ⟨false, m - d, d + 1, 0, _⟩ = _
                rw [show m - d = 1 by omega, act_1, hsl3]
              rw [e2] at h1
              exact h1
            have z0 : ((d : Int) + 1 == 1 + (m : Int)) = false := by simp; omega
            have z1 : ((d : Int) + 2 == 1 + (m : Int)) = true := by simp; omega
            have z2 : (d : Int) + 2 ≤ 1 + (m : Int) := by omega
            clear sm sm2 hs2 hsl3
            go_wp2_with (first
          | (go_at_call 11; refine (CW4.out _ HS).mono ?_; clear CW4 HS; rintro e wa ⟨rfl, HS⟩)
          | (go_at_call 11; refine (CW1.out _ HS).mono ?_; clear CW1 HS; rintro e wb ⟨rfl, HS⟩)
          | (go_at_call 25; refine (Acts_at HS).mono ?_; rintro e wc ⟨rfl, rfl⟩)
          | (go_at_call 27; refine (Life_at HS).mono ?_; rintro e wc ⟨rfl, rfl⟩)
          | (go_at_call 13; refine (CR.out _ HS).mono ?_; clear CR HS; rintro e wd ⟨rfl, HS⟩)
          | (go_at_call 15; refine (CS.out _ HS).mono ?_; clear CS HS; rintro e we ⟨rfl, HS⟩; have hc := HC.out _ HS)
          | (go_at_call 11; refine (CW.out _ HS).mono ?_; clear CW HS; rintro e wf ⟨rfl, HS⟩)
          | (go_at_call 23; refine (Down_s HS).mono ?_; clear HS; rintro e wg ⟨rfl, HS⟩))
            go_ret
            exact ⟨rfl, HS.o.below lb lc (Nat.le_refl _)⟩
          · have CW : Hid (∀ W, SW w b c ⟨false, m - d, d + 1, 0, sl2⟩ W → Calls Try.prog 11 #[.pointer (some ⟨b, 0, none⟩), .int .i64 (j : Int), .string ⟨#[116]⟩] W fun e w' => e = .returned (.int .i64 0) ∧ SW w b c ⟨false, m + 1 - (d + 2), d + 2, 0, sl3⟩ w') := fun W h => by
              have h1 := Write_at h hs2 sm2 rfl tt (by decide)
              have ha : actE ⟨false, m - d, d + 1, 0, sl2⟩ = 0 := by unfold actE; rw [if_neg (by show ¬ m - d = 1; omega)]
              rw [ha] at h1
              have e2 : H.act (H.put ⟨false, m - d, d + 1, 0, sl2⟩ j tt) = ⟨false, m + 1 - (d + 2), d + 2, 0, sl3⟩ := by
                show H.act ⟨false, m - d, d + 1, 0, _⟩ = _
                rw [act_2 _ _ _ _ (by omega), hsl3, show m - d - 1 = m + 1 - (d + 2) by omega]
              rw [e2] at h1
              exact h1
            clear sm sm2 hs2 hsl3
            go_wp2_with (first
          | (go_at_call 11; refine (CW4.out _ HS).mono ?_; clear CW4 HS; rintro e wa ⟨rfl, HS⟩)
          | (go_at_call 11; refine (CW1.out _ HS).mono ?_; clear CW1 HS; rintro e wb ⟨rfl, HS⟩)
          | (go_at_call 25; refine (Acts_at HS).mono ?_; rintro e wc ⟨rfl, rfl⟩)
          | (go_at_call 27; refine (Life_at HS).mono ?_; rintro e wc ⟨rfl, rfl⟩)
          | (go_at_call 13; refine (CR.out _ HS).mono ?_; clear CR HS; rintro e wd ⟨rfl, HS⟩)
          | (go_at_call 15; refine (CS.out _ HS).mono ?_; clear CS HS; rintro e we ⟨rfl, HS⟩; have hc := HC.out _ HS)
          | (go_at_call 11; refine (CW.out _ HS).mono ?_; clear CW HS; rintro e wf ⟨rfl, HS⟩)
          | (go_at_call 23; refine (Down_s HS).mono ?_; clear HS; rintro e wg ⟨rfl, HS⟩))
            go_roundw
            case rel => exact ⟨k + 1, d + 2, sl3, by omega, by omega, by omega, by go_num, by go_num, HSL3.out, HS⟩
            case measure => simp [intOf]; omega
        · have hkd' : (x.kind == 1) = false := by simp [hkd]
          clear hkd sm sm2 hs2 hsl3
          have hq : m - d = m + 1 - (d + 1) := by omega
          rw [hq] at CS
          clear hq
          go_wp2_with (first
          | (go_at_call 11; refine (CW4.out _ HS).mono ?_; clear CW4 HS; rintro e wa ⟨rfl, HS⟩)
          | (go_at_call 11; refine (CW1.out _ HS).mono ?_; clear CW1 HS; rintro e wb ⟨rfl, HS⟩)
          | (go_at_call 25; refine (Acts_at HS).mono ?_; rintro e wc ⟨rfl, rfl⟩)
          | (go_at_call 27; refine (Life_at HS).mono ?_; rintro e wc ⟨rfl, rfl⟩)
          | (go_at_call 13; refine (CR.out _ HS).mono ?_; clear CR HS; rintro e wd ⟨rfl, HS⟩)
          | (go_at_call 15; refine (CS.out _ HS).mono ?_; clear CS HS; rintro e we ⟨rfl, HS⟩; have hc := HC.out _ HS)
          | (go_at_call 11; refine (CW.out _ HS).mono ?_; clear CW HS; rintro e wf ⟨rfl, HS⟩)
          | (go_at_call 23; refine (Down_s HS).mono ?_; clear HS; rintro e wg ⟨rfl, HS⟩))
          go_roundw
          case rel => exact ⟨k + 1, d + 1, sl2, by omega, by omega, by omega, by go_num, by go_num, HSL2.out, HS⟩
          case measure => simp [intOf]; omega
    · have z1 : ((d : Int) == 1 + (m : Int)) = false := by simp; omega
      have z2 : (d : Int) ≤ 1 + (m : Int) := by omega
      clear sm
      by_cases h1 : k < acts.length
      · have h1' : (k : Int) < (acts.length : Int) := by omega
        have h2' : decide ((k : Int) < 150) = false := by simp; omega
        go_wp2_with (first
          | (go_at_call 11; refine (CW4.out _ HS).mono ?_; clear CW4 HS; rintro e wa ⟨rfl, HS⟩)
          | (go_at_call 11; refine (CW1.out _ HS).mono ?_; clear CW1 HS; rintro e wb ⟨rfl, HS⟩)
          | (go_at_call 25; refine (Acts_at HS).mono ?_; rintro e wc ⟨rfl, rfl⟩)
          | (go_at_call 27; refine (Life_at HS).mono ?_; rintro e wc ⟨rfl, rfl⟩)
          | (go_at_call 13; refine (CR.out _ HS).mono ?_; clear CR HS; rintro e wd ⟨rfl, HS⟩)
          | (go_at_call 15; refine (CS.out _ HS).mono ?_; clear CS HS; rintro e we ⟨rfl, HS⟩; have hc := HC.out _ HS)
          | (go_at_call 11; refine (CW.out _ HS).mono ?_; clear CW HS; rintro e wf ⟨rfl, HS⟩)
          | (go_at_call 23; refine (Down_s HS).mono ?_; clear HS; rintro e wg ⟨rfl, HS⟩))
        go_ret
        exact ⟨rfl, HS.o.below lb lc (Nat.le_refl _)⟩
      · have h1' : decide ((k : Int) < (acts.length : Int)) = false := by simp; omega
        go_wp2_with (first
          | (go_at_call 11; refine (CW4.out _ HS).mono ?_; clear CW4 HS; rintro e wa ⟨rfl, HS⟩)
          | (go_at_call 11; refine (CW1.out _ HS).mono ?_; clear CW1 HS; rintro e wb ⟨rfl, HS⟩)
          | (go_at_call 25; refine (Acts_at HS).mono ?_; rintro e wc ⟨rfl, rfl⟩)
          | (go_at_call 27; refine (Life_at HS).mono ?_; rintro e wc ⟨rfl, rfl⟩)
          | (go_at_call 13; refine (CR.out _ HS).mono ?_; clear CR HS; rintro e wd ⟨rfl, HS⟩)
          | (go_at_call 15; refine (CS.out _ HS).mono ?_; clear CS HS; rintro e we ⟨rfl, HS⟩; have hc := HC.out _ HS)
          | (go_at_call 11; refine (CW.out _ HS).mono ?_; clear CW HS; rintro e wf ⟨rfl, HS⟩)
          | (go_at_call 23; refine (Down_s HS).mono ?_; clear HS; rintro e wg ⟨rfl, HS⟩))
        go_ret
        exact ⟨rfl, HS.o.below lb lc (Nat.le_refl _)⟩
end Go.Proofs.Ytdeddiclemdpoaa
