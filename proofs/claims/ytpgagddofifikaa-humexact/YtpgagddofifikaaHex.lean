/- The walk of the law HumExact. -/
import Derived.Test.YtpgagddofifikaaHX0
import Derived.Test.YtpgagddofifikaaRegT
namespace Go.Proofs.Ytpgagddofifikaa
open Go.RowKit Go.Maps
set_option linter.unusedVariables false
set_option linter.unusedSimpArgs false

set_option maxRecDepth 8000 in
set_option maxHeartbeats 16000000 in
theorem humExact_walk (t : Int) (As : List Ac11) (a : Option Addr) (c : Nat) (w : World) (hA : RS lyA w a As) (hok : ∀ x ∈ As, ac11Ok w x) (hn : As.length ≤ maxLen) :
    Calls Try.prog 3 #[.int .i64 t, .slice a As.length c] w fun e w' => e = .returned (.bool true) ∧ Bl w w' := by
  unfold maxLen at hn
  have HRA : Hid (RS lyA w a As) := hA
  have HOK : Hid (∀ x ∈ As, ac11Ok w x) := hok
  have C0 : Hid (Calls Try.prog 6 #[] w fun e w' => e = .returned (.bool true) ∧ Bl w w') := awake_11 w
  have C1 : Hid (∀ W, Calls Try.prog 7 #[.int .i64 t] W fun e w' => ∃ b, e = .returned (.pointer (some ⟨b, 0, none⟩)) ∧ HA W b (tms t) HU.e0 [] w') := fun W => (New_h t W).mono fun e w' ⟨b, h1, h2, h3⟩ => ⟨b, h1, HA.new h2 h3⟩
  have C2 : Hid (∀ w1 b W, HA w1 b (tms t) HU.e0 [] W → Calls Try.prog 8 #[.int .i64 t] W fun e w' => ∃ r, e = .returned (.pointer (some ⟨r, 0, none⟩)) ∧ HA w1 b (tms t) HU.e0 [] w' ∧ RH w' r (tms t) HU.e0 ∧ w1.heap.size ≤ r) := fun w1 b W h => (rNew_x t W).mono fun e w' ⟨r, h1, h2, h3, h4⟩ => ⟨r, h1, h.grow h4, h3, by rw [h2]; exact Below.size h.bl⟩
  obtain ⟨fs, hum⟩ := undAc
  have HT2 : Hid (tms t ≤ 100) := (tms_1 t).2
  generalize tms t = T at *
  clear hA hok
  go_enter Try.func3, Try.ntmps3
  go_wp2_with (first
    | (go_at_call 6; refine (C0.out).mono ?_; clear C0; rintro e w1 ⟨rfl, hb1⟩)
    | (go_at_call 7; refine (C1.out _).mono ?_; clear C1; rintro e w2 ⟨b, rfl, H2⟩)
    | (go_at_call 8; refine (C2.out _ _ _ H2).mono ?_; clear C2 H2; rintro e w3 ⟨r, rfl, H3, G3, hrb⟩))
  have HB1 : Hid (Bl w w1) := hb1
  have HH3 := hidP H3
  have HG3 := hidP G3
  have HRB := hidP hrb
  clear hb1 H3 G3 hrb
  go_loopw [7, 8] (fun u7 _ wr => ∃ (k : Nat) (F : HU.St), k ≤ As.length ∧ k ≤ 100 ∧ u7 = .int .i64 k ∧ HA w1 b T F [] wr ∧ RH wr r T F) (fun u7 _ _ => As.length - (intOf u7).toNat)
  case atStart => exact ⟨0, HU.e0, Nat.zero_le _, by omega, rfl, HH3.out, HG3.out⟩
  case round =>
    obtain ⟨k, F, hk, hk100, rfl, hx, hgx⟩ := hrel
    clear HH3 HG3
    have HX := hidP hx
    have HGX := hidP hgx
    clear hx hgx
    have hend : ¬ (k < As.length ∧ k < 100) ∨ (k < As.length ∧ k < 100) := by omega
    rcases hend with hend | ⟨hlt, hl100⟩
    · have HBE : Hid (Bl w wr) := HB1.out.step HX.out.bl
      clear HX HGX HRA HOK
      by_cases h1 : k < As.length
      · obtain rfl : k = 100 := by omega
        go_wp2_with (first | go_skip)
        go_ret
        exact ⟨rfl, HBE.out⟩
      · have h1d : decide ((k : Int) < (As.length : Int)) = false := decide_eq_false (by omega)
        go_wp2_with (first | go_skip)
        go_ret
        exact ⟨rfl, HBE.out⟩
    · obtain ⟨⟨kd, ⟨xa, xc, ms⟩, nn⟩, hx0⟩ : ∃ x, As[k]? = some x := ⟨As[k], List.getElem?_eq_getElem hlt⟩
      obtain ⟨hms, hml, hn1, hn2⟩ := HOK.out _ (List.mem_of_getElem? hx0)
      simp only at hms hml hn1 hn2
      unfold maxLen at hml
      have hblw : Bl w wr := HB1.out.step HX.out.bl
      obtain ⟨ab, ao, ha, hab, hrg0⟩ := HRA.out.bl hblw k _ hx0
      have HR : Hid (wr.rangeAt ab (ao + k * 3) [.int .i64 kd, .slice xa ms.length xc, .int .i64 nn]) := hrg0
      have HMS : Hid (RS lyM w1 xa ms) := hms.bl HB1.out
      have hkl : (k : Int) < (As.length : Int) := by omega
      have hk1 : (k : Int) < 100 := by omega
      have HE0 : Hid (EX w1 b r T F F wr.heap.size #[.int .i64 kd, .slice xa ms.length xc, .int .i64 nn] (wr.alloc (.cells #[.int .i64 kd, .slice xa ms.length xc, .int .i64 nn] 30))) := ⟨HX.out.grow ((Bl.refl wr).alloc _), HGX.out.grow ((Bl.refl wr).alloc _), heap_alloc_new wr _, HRB.out⟩
      have hokF := HX.out.ok
      have HBW := hidP hblw
      clear hx0 hms hrg0 HRA HOK hab hblw HX HGX
      subst ha
      by_cases h40 : ms.length > 40
      · have h40i : (ms.length : Int) > 40 := by omega
        have HBE : Hid (∀ o, Bl w (wr.alloc o)) := fun o => HBW.out.alloc o
        clear HE0 HMS
        go_wp2_with (first
          | go_skip
          | (refine wpList_load_mid rfl 30 _ rfl ab (ao + k * 3) rfl [.int .i64 kd, .slice xa ms.length xc, .int .i64 nn] _ HR.out hum rfl infoAc ?_; clear HR))
        go_ret
        exact ⟨rfl, HBE.out _⟩
      · have h40i : ¬ ((ms.length : Int) > 40) := by omega
        by_cases hkd : kd = 1
        · subst hkd
          have CPA : Hid (∀ W, EX w1 b r T F F wr.heap.size #[.int .i64 1, .slice xa ms.length xc, .int .i64 nn] W → Calls Try.prog 9 #[.pointer (some ⟨b, 0, none⟩), .slice xa ms.length xc] W fun e w' => e = .returned (.tuple #[]) ∧ EX w1 b r T (HU.push T F ms) F wr.heap.size #[.int .i64 1, .slice xa ms.length xc, .int .i64 nn] w') := fun W h => h.pushA HMS.out xc (by omega)
          have CPB : Hid (∀ W, EX w1 b r T (HU.push T F ms) F wr.heap.size #[.int .i64 1, .slice xa ms.length xc, .int .i64 nn] W → Calls Try.prog 10 #[.pointer (some ⟨r, 0, none⟩), .slice xa ms.length xc] W fun e w' => e = .returned (.tuple #[]) ∧ EX w1 b r T (HU.push T F ms) (HU.push T F ms) wr.heap.size #[.int .i64 1, .slice xa ms.length xc, .int .i64 nn] w') := fun W h => h.pushB HMS.out xc (by omega)
          generalize HU.push T F ms = F2 at *
          have CLA : Hid (∀ W, EX w1 b r T F2 F2 wr.heap.size #[.int .i64 1, .slice xa ms.length xc, .int .i64 nn] W → Calls Try.prog 15 #[.pointer (some ⟨b, 0, none⟩)] W fun e w' => ∃ a c, e = .returned (.slice a (HU.lf F2).length c) ∧ RS lyR w' a (HU.lf F2) ∧ EX w1 b r T F2 F2 wr.heap.size #[.int .i64 1, .slice xa ms.length xc, .int .i64 nn] w') := fun W h => h.leftA
          have CLB : Hid (∀ (a8 : Option Addr) W, EX w1 b r T F2 F2 wr.heap.size #[.int .i64 1, .slice xa ms.length xc, .int .i64 nn] W → RS lyR W a8 (HU.lf F2) → Calls Try.prog 16 #[.pointer (some ⟨r, 0, none⟩)] W fun e w' => ∃ a c, e = .returned (.slice a (HU.lf F2).length c) ∧ RS lyR w' a (HU.lf F2) ∧ RS lyR w' a8 (HU.lf F2) ∧ EX w1 b r T F2 F2 wr.heap.size #[.int .i64 1, .slice xa ms.length xc, .int .i64 nn] w') := fun a8 W h h8 => h.leftB h8
          have CLS : Hid (∀ (a1 a2 : Option Addr) (c1 c2 : Nat) W, EX w1 b r T F2 F2 wr.heap.size #[.int .i64 1, .slice xa ms.length xc, .int .i64 nn] W → RS lyR W a1 (HU.lf F2) → RS lyR W a2 (HU.lf F2) → Calls Try.prog 14 #[.slice a1 (HU.lf F2).length c1, .slice a2 (HU.lf F2).length c2] W fun e w' => e = .returned (.bool true) ∧ EX w1 b r T F2 F2 wr.heap.size #[.int .i64 1, .slice xa ms.length xc, .int .i64 nn] w') := fun a1 a2 c1 c2 W h h1 h2 => h.sameR _ a1 a2 c1 c2 h1 h2 (HU.lf_len _)
          have HE := HE0.out
          clear HE0 HMS hokF
          go_wp2_with (first
            | go_skip
            | (refine wpList_load_mid rfl 30 _ rfl ab (ao + k * 3) rfl [.int .i64 1, .slice xa ms.length xc, .int .i64 nn] _ HR.out hum rfl infoAc ?_; clear HR)
            | (go_at_call 9; refine (CPA.out _ HE).mono ?_; clear CPA HE; rintro e W5 ⟨rfl, HE⟩; have k51 : W5.cell? ⟨wr.heap.size, 1, none⟩ = some (.slice xa ms.length xc) := (by rw [Lib.cell_of_heap HE.x]; rfl))
            | (go_at_call 10; refine (CPB.out _ HE).mono ?_; clear CPB HE k51; rintro e W6 ⟨rfl, HE⟩)
            | (go_at_call 15; refine (CLA.out _ HE).mono ?_; clear CLA HE; rintro e W7 ⟨a7, c7, rfl, R7, HE⟩)
            | (go_at_call 16; refine (CLB.out _ _ HE R7).mono ?_; clear CLB HE R7; rintro e W8 ⟨a8, c8, rfl, R8, R7, HE⟩)
            | (go_at_call 14; refine (CLS.out _ _ _ _ _ HE R7 R8).mono ?_; clear CLS HE R7 R8; rintro e W9 ⟨rfl, HE⟩))
          go_roundw
          case rel => exact ⟨k + 1, F2, by omega, by omega, by go_num, HE.h, HE.g⟩
          case measure => simp [intOf]; omega
        · have hkdb : (kd == 1) = false := beq_eq_false_iff_ne.2 hkd
          by_cases hkd2 : kd = 2
          · subst hkd2
            have CTA : Hid (∀ W, EX w1 b r T F F wr.heap.size #[.int .i64 2, .slice xa ms.length xc, .int .i64 nn] W → Calls Try.prog 12 #[.pointer (some ⟨b, 0, none⟩), .int .i64 nn] W fun e w' => ∃ a c, e = .returned (.slice a (HU.told F (HU.cnt F nn)).length c) ∧ EY w1 b r T (HU.took F (HU.cnt F nn)) F wr.heap.size #[.int .i64 2, .slice xa ms.length xc, .int .i64 nn] a (HU.told F (HU.cnt F nn)) w') := fun W h => h.takeA nn
            have CTB : Hid (∀ (a : Option Addr) W, EY w1 b r T (HU.took F (HU.cnt F nn)) F wr.heap.size #[.int .i64 2, .slice xa ms.length xc, .int .i64 nn] a (HU.told F (HU.cnt F nn)) W → Calls Try.prog 13 #[.pointer (some ⟨r, 0, none⟩), .int .i64 nn] W fun e w' => ∃ a2 c2, e = .returned (.slice a2 (HU.told F (HU.cnt F nn)).length c2) ∧ RS lyM w' a2 (HU.told F (HU.cnt F nn)) ∧ EY w1 b r T (HU.took F (HU.cnt F nn)) (HU.took F (HU.cnt F nn)) wr.heap.size #[.int .i64 2, .slice xa ms.length xc, .int .i64 nn] a (HU.told F (HU.cnt F nn)) w') := fun a W h => h.takeB hokF HT2.out nn
            have CTS : Hid (∀ (a1 a2 : Option Addr) (c1 c2 : Nat) W, EY w1 b r T (HU.took F (HU.cnt F nn)) (HU.took F (HU.cnt F nn)) wr.heap.size #[.int .i64 2, .slice xa ms.length xc, .int .i64 nn] a1 (HU.told F (HU.cnt F nn)) W → RS lyM W a2 (HU.told F (HU.cnt F nn)) → Calls Try.prog 11 #[.slice a1 (HU.told F (HU.cnt F nn)).length c1, .slice a2 (HU.told F (HU.cnt F nn)).length c2] W fun e w' => e = .returned (.bool true) ∧ EX w1 b r T (HU.took F (HU.cnt F nn)) (HU.took F (HU.cnt F nn)) wr.heap.size #[.int .i64 2, .slice xa ms.length xc, .int .i64 nn] w') := fun a1 a2 c1 c2 W h h2 => h.e.sameM _ a1 a2 c1 c2 h.l h2 (by have := HU.tl_len F; have := HU.cnt_le F nn; rw [told_len]; omega)
            generalize HU.told F (HU.cnt F nn) = L at *
            generalize HU.took F (HU.cnt F nn) = F2 at *
            have HKX : Hid (∀ {F G : HU.St} (W : World), EX w1 b r T F G wr.heap.size #[.int .i64 2, .slice xa ms.length xc, .int .i64 nn] W → W.cell? ⟨wr.heap.size, 2, none⟩ = some (.int .i64 nn)) := fun W h => by rw [Lib.cell_of_heap h.x]; rfl
            have CLA : Hid (∀ W, EX w1 b r T F2 F2 wr.heap.size #[.int .i64 2, .slice xa ms.length xc, .int .i64 nn] W → Calls Try.prog 15 #[.pointer (some ⟨b, 0, none⟩)] W fun e w' => ∃ a c, e = .returned (.slice a (HU.lf F2).length c) ∧ RS lyR w' a (HU.lf F2) ∧ EX w1 b r T F2 F2 wr.heap.size #[.int .i64 2, .slice xa ms.length xc, .int .i64 nn] w') := fun W h => h.leftA
            have CLB : Hid (∀ (a8 : Option Addr) W, EX w1 b r T F2 F2 wr.heap.size #[.int .i64 2, .slice xa ms.length xc, .int .i64 nn] W → RS lyR W a8 (HU.lf F2) → Calls Try.prog 16 #[.pointer (some ⟨r, 0, none⟩)] W fun e w' => ∃ a c, e = .returned (.slice a (HU.lf F2).length c) ∧ RS lyR w' a (HU.lf F2) ∧ RS lyR w' a8 (HU.lf F2) ∧ EX w1 b r T F2 F2 wr.heap.size #[.int .i64 2, .slice xa ms.length xc, .int .i64 nn] w') := fun a8 W h h8 => h.leftB h8
            have CLS : Hid (∀ (a1 a2 : Option Addr) (c1 c2 : Nat) W, EX w1 b r T F2 F2 wr.heap.size #[.int .i64 2, .slice xa ms.length xc, .int .i64 nn] W → RS lyR W a1 (HU.lf F2) → RS lyR W a2 (HU.lf F2) → Calls Try.prog 14 #[.slice a1 (HU.lf F2).length c1, .slice a2 (HU.lf F2).length c2] W fun e w' => e = .returned (.bool true) ∧ EX w1 b r T F2 F2 wr.heap.size #[.int .i64 2, .slice xa ms.length xc, .int .i64 nn] w') := fun a1 a2 c1 c2 W h h1 h2 => h.sameR _ a1 a2 c1 c2 h1 h2 (HU.lf_len _)
            have HE := HE0.out
            clear HE0 HMS hokF
            go_upto_region 16 with (first
              | go_skip
              | (refine wpList_load_mid rfl 30 _ rfl ab (ao + k * 3) rfl [.int .i64 2, .slice xa ms.length xc, .int .i64 nn] _ HR.out hum rfl infoAc ?_; clear HR))
            refine wp_region_noPanic ?_
            refine wp_region_held_drew (S := fun U => U.cell? ⟨wr.heap.size, 2, none⟩ = some (.int .i64 nn)) (by kernel_rfl) (HKX.out _ ((HE.grow ((Bl.refl _).drewN 1)))) (fun hHeld => ?_)
            refine wpAnyH_take (i := 0) rfl (by kernel_rfl) (by kernel_rfl) (by kernel_rfl) (fun _ _ _ h => h) (yi_move (by kernel_rfl) rfl rfl) (by assumption) ?_
            simp only [Act.put, List.getElem_toArray, List.getElem_cons_succ, List.getElem_cons_zero, List.setIfInBounds_toArray, List.set_cons_zero, List.set_cons_succ]
            refine wpAnyH_take (i := 1) (v := ?_) rfl (by kernel_rfl) (by kernel_rfl) (by kernel_rfl) (fun _ _ _ h => h) (Or.inl ⟨by kernel_rfl, ?_⟩) (by assumption) ?_
            rotate_left
            · (intro w hSw; (try dsimp only at hSw); go_simp; (try with_reducible rfl))
            simp only [Act.put, List.getElem_toArray, List.getElem_cons_succ, List.getElem_cons_zero, List.setIfInBounds_toArray, List.set_cons_zero, List.set_cons_succ]
            refine wpAnyH_take (i := 2) (v := ?_) rfl (by kernel_rfl) (by kernel_rfl) (by kernel_rfl) (fun _ _ _ h => h) (Or.inl ⟨by kernel_rfl, ?_⟩) (by assumption) ?_
            rotate_left
            · (intro w hSw; have e1 : w.cell? ⟨wr.heap.size, 2, none⟩ = some (.int .i64 nn) := hSw; go_simp; (try with_reducible rfl))
            simp only [Act.put, List.getElem_toArray, List.getElem_cons_succ, List.getElem_cons_zero, List.setIfInBounds_toArray, List.set_cons_zero, List.set_cons_succ]
            refine wpAnyH_take (i := 4) rfl (by kernel_rfl) (by kernel_rfl) (by kernel_rfl) (fun _ _ _ h => h) (yi_move (by kernel_rfl) rfl rfl) (by assumption) ?_
            simp only [Act.put, List.getElem_toArray, List.getElem_cons_succ, List.getElem_cons_zero, List.setIfInBounds_toArray, List.set_cons_zero, List.set_cons_succ]
            refine wpAnyH_take (i := 5) (v := ?_) rfl (by kernel_rfl) (by kernel_rfl) (by kernel_rfl) (fun _ _ _ h => h) (Or.inl ⟨by kernel_rfl, ?_⟩) (by assumption) ?_
            rotate_left
            · (intro w hSw; (try dsimp only at hSw); go_simp; (try with_reducible rfl))
            simp only [Act.put, List.getElem_toArray, List.getElem_cons_succ, List.getElem_cons_zero, List.setIfInBounds_toArray, List.set_cons_zero, List.set_cons_succ]
            refine wpAnyH_take (i := 6) (v := ?_) rfl (by kernel_rfl) (by kernel_rfl) (by kernel_rfl) (fun _ _ _ h => h) (Or.inl ⟨by kernel_rfl, ?_⟩) (by assumption) ?_
            rotate_left
            · (intro w hSw; have e1 : w.cell? ⟨wr.heap.size, 2, none⟩ = some (.int .i64 nn) := hSw; go_simp; (try with_reducible rfl))
            simp only [Act.put, List.getElem_toArray, List.getElem_cons_succ, List.getElem_cons_zero, List.setIfInBounds_toArray, List.set_cons_zero, List.set_cons_succ]
            refine wpAnyH_ready (rs := [3]) (by kernel_rfl) (by simp) ?_
            refine AllReadyH.cons (o := _) rfl (fun K hK => ?_) AllReadyH.nil
            go_simp
            go_at_call 12; refine (CTA.out _ (HE.grow ((Bl.refl _).drewN 1))).mono ?_; clear CTA; rintro e V7 ⟨a5, c5, rfl, HY7⟩; have HB7 := HY7.e
            refine hK.out _ _ (HKX.out _ (HB7)) (fun hHeld => ?_)
            clear hK K
            (try simp only [Act.put, List.getElem_toArray, List.getElem_cons_succ, List.getElem_cons_zero, List.setIfInBounds_toArray, List.set_cons_zero, List.set_cons_succ])
            refine wpAnyH_ready (rs := [7]) (by kernel_rfl) (by simp) ?_
            refine AllReadyH.cons (o := _) rfl (fun K hK => ?_) AllReadyH.nil
            go_simp
            go_at_call 13; refine (CTB.out _ _ HY7).mono ?_; clear CTB; rintro e V8 ⟨a6, c6, rfl, R6, HY8⟩; have HB8 := HY8.e
            refine hK.out _ _ (HKX.out _ (HB8)) (fun hHeld => ?_)
            clear hK K
            (try simp only [Act.put, List.getElem_toArray, List.getElem_cons_succ, List.getElem_cons_zero, List.setIfInBounds_toArray, List.set_cons_zero, List.set_cons_succ])
            refine wpAnyH_ready (rs := [8]) (by kernel_rfl) (by simp) ?_
            refine AllReadyH.cons (o := _) rfl (fun K hK => ?_) AllReadyH.nil
            go_simp
            go_at_call 11; refine (CTS.out _ _ _ _ _ HY8 R6).mono ?_; clear CTS; rintro e V9 ⟨rfl, HB9⟩
            refine hK.out _ _ (HKX.out _ (HB9)) (fun hHeld => ?_)
            clear hK K
            (try simp only [Act.put, List.getElem_toArray, List.getElem_cons_succ, List.getElem_cons_zero, List.setIfInBounds_toArray, List.set_cons_zero, List.set_cons_succ])
            refine wpAnyH_take (i := 9) (v := ?_) rfl (by kernel_rfl) (by kernel_rfl) (by kernel_rfl) (fun _ _ _ h => h) (Or.inl ⟨by kernel_rfl, ?_⟩) (by assumption) ?_
            rotate_left
            · (intro w hSw; (try dsimp only at hSw); go_simp; (try with_reducible rfl))
            simp only [Act.put, List.getElem_toArray, List.getElem_cons_succ, List.getElem_cons_zero, List.setIfInBounds_toArray, List.set_cons_zero, List.set_cons_succ]
            refine wpAnyH_done (by kernel_rfl) ?_ _
            refine NoPanic.normal ?_
            clear HE
            have HE := HB9
            go_wp2_with (first
              | (go_at_call 15; refine (CLA.out _ HE).mono ?_; clear CLA HE; rintro e W7 ⟨a7, c7, rfl, R7, HE⟩)
              | (go_at_call 16; refine (CLB.out _ _ HE R7).mono ?_; clear CLB HE R7; rintro e W8 ⟨a8, c8, rfl, R8, R7, HE⟩)
              | (go_at_call 14; refine (CLS.out _ _ _ _ _ HE R7 R8).mono ?_; clear CLS HE R7 R8; rintro e W9 ⟨rfl, HE⟩))
            go_roundw
            case rel => exact ⟨k + 1, F2, by omega, by omega, by go_num, HE.h, HE.g⟩
            case measure => simp [intOf]; omega
          · have hkdb2 : (kd == 2) = false := beq_eq_false_iff_ne.2 hkd2
            have CLA : Hid (∀ W, EX w1 b r T F F wr.heap.size #[.int .i64 kd, .slice xa ms.length xc, .int .i64 nn] W → Calls Try.prog 15 #[.pointer (some ⟨b, 0, none⟩)] W fun e w' => ∃ a c, e = .returned (.slice a (HU.lf F).length c) ∧ RS lyR w' a (HU.lf F) ∧ EX w1 b r T F F wr.heap.size #[.int .i64 kd, .slice xa ms.length xc, .int .i64 nn] w') := fun W h => h.leftA
            have CLB : Hid (∀ (a8 : Option Addr) W, EX w1 b r T F F wr.heap.size #[.int .i64 kd, .slice xa ms.length xc, .int .i64 nn] W → RS lyR W a8 (HU.lf F) → Calls Try.prog 16 #[.pointer (some ⟨r, 0, none⟩)] W fun e w' => ∃ a c, e = .returned (.slice a (HU.lf F).length c) ∧ RS lyR w' a (HU.lf F) ∧ RS lyR w' a8 (HU.lf F) ∧ EX w1 b r T F F wr.heap.size #[.int .i64 kd, .slice xa ms.length xc, .int .i64 nn] w') := fun a8 W h h8 => h.leftB h8
            have CLS : Hid (∀ (a1 a2 : Option Addr) (c1 c2 : Nat) W, EX w1 b r T F F wr.heap.size #[.int .i64 kd, .slice xa ms.length xc, .int .i64 nn] W → RS lyR W a1 (HU.lf F) → RS lyR W a2 (HU.lf F) → Calls Try.prog 14 #[.slice a1 (HU.lf F).length c1, .slice a2 (HU.lf F).length c2] W fun e w' => e = .returned (.bool true) ∧ EX w1 b r T F F wr.heap.size #[.int .i64 kd, .slice xa ms.length xc, .int .i64 nn] w') := fun a1 a2 c1 c2 W h h1 h2 => h.sameR _ a1 a2 c1 c2 h1 h2 (HU.lf_len _)
            have HE := HE0.out
            clear HE0 HMS hokF
            go_wp2_with (first
              | go_skip
              | (refine wpList_load_mid rfl 30 _ rfl ab (ao + k * 3) rfl [.int .i64 kd, .slice xa ms.length xc, .int .i64 nn] _ HR.out hum rfl infoAc ?_; clear HR)
              | (go_at_call 15; refine (CLA.out _ HE).mono ?_; clear CLA HE; rintro e W7 ⟨a7, c7, rfl, R7, HE⟩)
              | (go_at_call 16; refine (CLB.out _ _ HE R7).mono ?_; clear CLB HE R7; rintro e W8 ⟨a8, c8, rfl, R8, R7, HE⟩)
              | (go_at_call 14; refine (CLS.out _ _ _ _ _ HE R7 R8).mono ?_; clear CLS HE R7 R8; rintro e W9 ⟨rfl, HE⟩))
            go_roundw
            case rel => exact ⟨k + 1, F, by omega, by omega, by go_num, HE.h, HE.g⟩
            case measure => simp [intOf]; omega
end Go.Proofs.Ytpgagddofifikaa
