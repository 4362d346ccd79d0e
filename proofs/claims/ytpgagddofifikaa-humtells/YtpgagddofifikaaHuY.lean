/- The walk of the law HumTells. -/
import Derived.Test.YtpgagddofifikaaHuG
import Derived.Test.YtpgagddofifikaaRegT
import Derived.Deep.CutBlock
import Derived.Deep.DeepCutAuto
namespace Go.Proofs.Ytpgagddofifikaa
open Go.RowKit Go.Maps
set_option linter.unusedVariables false
set_option linter.unusedSimpArgs false

attribute [local go_sem ↓] zero42 zero43 zero45
set_option maxRecDepth 8000 in
set_option maxHeartbeats 16000000 in
theorem humTells_walk (x : Int) (ms : List K.Me) (a : Option Addr) (c : Nat) (y : Int) (w : World) (hA : RS lyM w a ms) (hn : ms.length ≤ maxLen) :
    Calls Try.prog 4 #[.int .i64 x, .slice a ms.length c, .int .i64 y] w fun e w' => e = .returned (.bool true) ∧ Bl w w' := by
  unfold maxLen at hn
  have HRA : Hid (RS lyM w a ms) := hA
  have C0 : Hid (Calls Try.prog 6 #[] w fun e w' => e = .returned (.bool true) ∧ Bl w w') := awake_11 w
  obtain ⟨fs, hum⟩ := undMe
  clear hA
  by_cases h40 : ms.length > 40
  · have h40i : (ms.length : Int) > 40 := by omega
    go_enter Try.func4, Try.ntmps4
    go_wp2_with (first
      | (go_at_call 6; refine (C0.out).mono ?_; clear C0; rintro e w1 ⟨rfl, hb1⟩))
    go_ret
    exact ⟨rfl, hb1⟩
  have h40i : ¬ ((ms.length : Int) > 40) := by omega
  have hu := um_lt x 100 (by omega)
  have hx0 : Int.tmod (IntKind.u64.wrap x) 100 = (um x 100 : Int) := um_wrap x 100
  have hv := um_lt y 6 (by omega)
  have hy0 : Int.tmod (IntKind.u64.wrap y) 6 = (um y 6 : Int) := um_wrap y 6
  generalize um x 100 = u at *
  generalize um y 6 = v at *
  have hux : IntKind.i64.wrap (u : Int) = u := wrap_i64_ofU (by omega) (by omega)
  have hvx : IntKind.i64.wrap (v : Int) = v := wrap_i64_ofU (by omega) (by omega)
  have C1 : Hid (∀ W, Calls Try.prog 7 #[.int .i64 (1 + (u : Int))] W fun e w' => ∃ b, e = .returned (.pointer (some ⟨b, 0, none⟩)) ∧ HA W b (1 + (u : Int)) HU.e0 [] w') := fun W => (New_h (1 + (u : Int)) W).mono fun e w' ⟨b, h1, h2, h3⟩ => ⟨b, h1, by
    have := HA.new h2 h3
    rwa [show tms (1 + (u : Int)) = 1 + (u : Int) by unfold tms; omega] at this⟩
  obtain ⟨T, hT⟩ : ∃ T : Int, 1 + (u : Int) = T := ⟨_, rfl⟩
  have hT1 : 1 ≤ T := by omega
  have hT2 : T ≤ 100 := by omega
  obtain ⟨M, hM⟩ : ∃ M : Int, 1 + (v : Int) = M := ⟨_, rfl⟩
  have hM1 : 1 ≤ M := by omega
  have hM2 : M ≤ 6 := by omega
  rw [hT] at C1
  have CP : Hid (∀ W b W1, Bl w W → HA W b T HU.e0 [] W1 → Calls Try.prog 9 #[.pointer (some ⟨b, 0, none⟩), .slice a ms.length c] W1 fun e w' => e = .returned (.tuple #[]) ∧ HA W b T (HU.push T HU.e0 ms) [] w') := fun W b W1 hb h => (HA.push (h.old (HRA.out.bl hb)) (List.mem_cons_self ..) c (by omega)).mono fun e w' ⟨h1, h2⟩ => ⟨h1, h2.sub (fun p hp => by simp at hp)⟩
  go_enter Try.func4, Try.ntmps4
  go_wp2_with (first
    | (go_at_call 6; refine (C0.out).mono ?_; clear C0; rintro e w1 ⟨rfl, hb1⟩)
    | (go_at_call 7; refine (C1.out _).mono ?_; clear C1; rintro e w2 ⟨b, rfl, H2⟩)
    | (go_at_call 9; refine (CP.out _ _ _ hb1 H2).mono ?_; clear CP; rintro e w3 ⟨rfl, H3⟩; have s1 := stNew w3 _ z21 42 rfl one21; have s2 := stNew (w3.alloc (.cells z21 42)) (w3.heap.size + 1) z7b 43 (by simp) one7b))
  have HB1 := hidP hb1
  have X4 : T2 w1 b T (HU.push T HU.e0 ms) HU.e0 w3.heap.size (w3.heap.size + 1) ((w3.alloc (.cells z21 42)).alloc (.cells z7b 43)) := by
    have hs := Below.size H3.bl
    refine ⟨H3.grow (((Bl.refl _).alloc _).alloc _), ⟨z21, ?_, LA.new⟩, ⟨z7b, ?_, IA.new⟩, hs, by omega⟩
    · rw [Below.heap_alloc _ _ _ (by simp)]; exact heap_alloc_new _ _
    · have := heap_alloc_new (w3.alloc (.cells z21 42)) (.cells z7b 43)
      rwa [size_alloc1] at this
  have HX4 := hidP X4
  clear X4 s1 s2 H2 H3 hb1
  obtain ⟨LB, hLB⟩ : ∃ LB, w3.heap.size = LB := ⟨_, rfl⟩
  rw [hLB] at HX4
  generalize (w3.alloc (.cells z21 42)).alloc (.cells z7b 43) = w4 at HX4 ⊢
  rw [hLB]
  clear hLB
  have hTT := hidP (show 0 < T by omega)
  clear hx0 hy0 hux hvx hu hv hT hM
  go_loopw [10] (fun u10 wr => ∃ k : Nat, k ≤ ms.length ∧ u10 = .int .i64 k ∧ T2 w1 b T (HU.push T HU.e0 ms) (HU.push T HU.e0 (ms.take k)) LB (LB + 1) wr) (fun u10 _ => ms.length - (intOf u10).toNat)
  case atStart => exact ⟨0, Nat.zero_le _, rfl, HX4.out⟩
  case round =>
    obtain ⟨k, hk, rfl, hx⟩ := hrel
    clear HX4
    by_cases hlt : k < ms.length
    · obtain ⟨m, hm⟩ : ∃ m, ms[k]? = some m := ⟨ms[k], List.getElem?_eq_getElem hlt⟩
      have hblw : Bl w wr := HB1.out.step hx.h.bl
      obtain ⟨mb, mo, ha, hmb, hrg⟩ := HRA.out k m hm
      have HPU : Hid (HU.push T HU.e0 (ms.take (k + 1)) = HU.put T (HU.push T HU.e0 (ms.take k)) m) := HU.push_take hm
      have hkl : (k : Int) < (ms.length : Int) := by omega
      have HX := hidP hx
      generalize HU.push T HU.e0 (ms.take k) = F at *
      subst ha
      have C2 : Hid (Calls Try.prog 17 #[.agg (meV m)] wr fun e w' => e = .returned (.bool (K.good m)) ∧ Bl wr w') := Good_x m _ _ (Bl.refl _)
      have hmw1 : mb < w1.heap.size := by have := Below.size HB1.out; omega
      have HRW : Hid (∀ W, Bl wr W → W.rangeAt mb (mo + k * 3) (lyM.f m)) := fun W hb j v hv => by rw [Bl.cell (hblw.step hb) hmb]; exact hrg j v hv
      clear hm hx hrg hblw
      cases hg : K.good m with
      | false =>
        rw [hg] at C2
        have HPE : Hid (HU.put T F m = F) := by show _ = _; unfold HU.put; rw [hg]; rfl
        clear hg
        obtain ⟨n, i, s⟩ := m
        have R0 : Hid (wr.rangeAt mb (mo + k * 3) [.int .i64 n, .int .i64 i, .int .i64 s]) := HRW.out _ (Bl.refl _)
        unfold meV at C2
        simp only at C2
        go_wp2_with (first
          | (refine wpList_load_mid rfl 41 _ rfl mb (mo + k * 3) rfl [.int .i64 n, .int .i64 i, .int .i64 s] _ R0.out hum rfl infoMe ?_; clear R0)
          | (go_at_call 17; refine (C2.out).mono ?_; clear C2; rintro e w5 ⟨rfl, HB⟩))
        go_roundw
        case rel => exact ⟨k + 1, by omega, by go_num, by rw [HPU.out, HPE.out]; exact HX.out.grow HB⟩
        case measure => simp [intOf]; omega
      | true =>
        rw [hg] at C2
        have HPE : Hid (HU.put T F m = HU.set1 F T m) := by show _ = _; unfold HU.put; rw [if_pos hg]
        have hgm : K.Good m := (K.good_iff m).1 hg
        clear hg
        obtain ⟨n, i, s⟩ := m
        unfold K.Good at hgm
        simp only at hgm
        obtain ⟨p, rfl⟩ : ∃ p : Nat, n = (p : Int) := ⟨n.toNat, by omega⟩
        have hp7 : p < 7 := by omega
        have hp7i : (p : Int) < 7 := by omega
        have hp0 : (0 : Int) ≤ (p : Int) := by omega
        have R0 : Hid (wr.rangeAt mb (mo + k * 3) [.int .i64 (p : Int), .int .i64 i, .int .i64 s]) := HRW.out _ (Bl.refl _)
        unfold meV at C2
        simp only at C2
        clear hgm
        have HLW : Hid (w1.heap.size ≤ LB ∧ w1.heap.size ≤ LB + 1) := ⟨HX.out.lb, HX.out.ib⟩
        have hn1 : mb ≠ LB := by have := HLW.out; omega
        have hn2 : mb ≠ LB + 1 := by have := HLW.out; omega
        go_wp2_with (first
          | (refine wpList_load_mid rfl 41 _ rfl mb (mo + k * 3) rfl [.int .i64 (p : Int), .int .i64 i, .int .i64 s] _ R0.out hum rfl infoMe ?_; clear R0)
          | (go_at_call 17; refine (C2.out).mono ?_; clear C2; rintro e w5 ⟨rfl, HB⟩))
        have rr := HRW.out w5 HB
        have e0 : w5.cell? ⟨mb, mo + k * 3, none⟩ = some (.int .i64 (p : Int)) := rr 0 _ rfl
        have e1 : w5.cell? ⟨mb, mo + k * 3 + 1, none⟩ = some (.int .i64 i) := rr 1 _ rfl
        have e2 : w5.cell? ⟨mb, mo + k * 3 + 2, none⟩ = some (.int .i64 s) := rr 2 _ rfl
        have X5 := HX.out.grow HB
        obtain ⟨⟨z0, q0⟩, fz0, ⟨z1, q1⟩, ⟨z2, q2⟩, ⟨z3, q3⟩, fz1, hLI⟩ := X5.cn p hp7
        have f1 := fz1 (p * 3)
        have f2 := fz1 (p * 3 + 1)
        have f3 := fz1 (p * 3 + 2)
        have HX5 : Hid (T2 w1 b T (HU.push T HU.e0 ms) F LB (LB + 1) w5.drew) := X5.grow (Bl.refl _).drew
        clear rr X5 fz1
        go_region
        all_goals
          go_wp2_with fail
          go_roundw
          case rel => exact ⟨k + 1, by omega, by go_num, by rw [HPU.out, HPE.out]; exact HX5.out.put hTT.out p hp7 i s⟩
          case measure => simp [intOf]; omega
    · obtain rfl : k = ms.length := by omega
      rw [List.take_length] at hx
      have HF1 : Hid (∀ n, (HU.push T HU.e0 ms n).2 = 0 ∨ (HU.push T HU.e0 ms n).2 = T) := push_T ms (fun n => Or.inl rfl)
      have hok1 := hx.h.ok
      generalize HU.push T HU.e0 ms = F1 at *
      have s3 := stNew wr _ z7i 45 rfl one7i
      have X5 : T3 w1 b T F1 F1 LB (LB + 1) wr.heap.size (fun n => (F1 n).2 - (F1 n).2) (wr.alloc (.cells z7i 45)) := by
        refine ⟨hx.grow ((Bl.refl _).alloc _), ⟨z7i, heap_alloc_new _ _, ?_⟩, Below.size hx.h.bl⟩
        have e : (fun n : Nat => (F1 n).2 - (F1 n).2) = fun _ => 0 := by funext n; omega
        rw [e]; exact TA.new
      have HX5 := hidP X5
      have hsm := sm_le hok1 hT2
      have HOK1 := hidP hok1
      clear hx X5 HRA hok1 hk hlt
      go_wp2_with fail
      clear s3
      obtain ⟨TB, hTB⟩ : ∃ TB, wr.heap.size = TB := ⟨_, rfl⟩
      rw [hTB] at HX5
      generalize wr.alloc (.cells z7i 45) = w6 at HX5 ⊢
      rw [hTB]
      clear hTB
      go_loopw [12, 13, 14, 15] (fun u12 _ _ _ wr => ∃ (i : Nat) (G : HU.St), u12 = .int .i64 i ∧ T3 w1 b T G F1 LB (LB + 1) TB (fun n => (F1 n).2 - (G n).2) wr ∧ (∀ n, (G n).1 = (F1 n).1) ∧ (i : Int) + sm G ≤ 600) (fun u12 _ _ _ _ => 700 - (intOf u12).toNat)
      case atStart => exact ⟨0, F1, rfl, HX5.out, fun _ => rfl, by simpa using hsm.2⟩
      case round =>
        obtain ⟨i, G, rfl, hx, hsame, hsum⟩ := hrel
        clear HX5 hsm
        have hokG := hx.t.h.ok
        have hsg := sm_le hokG hT2
        have hi7 : (i : Int) < 700 := by omega
        have CT : Hid (Calls Try.prog 12 #[.pointer (some ⟨b, 0, none⟩), .int .i64 M] wr fun e w' => ∃ a c, e = .returned (.slice a (HU.told G (HU.cnt G M)).length c) ∧ T3 w1 b T (HU.took G (HU.cnt G M)) F1 LB (LB + 1) TB (fun n => (F1 n).2 - (G n).2) w' ∧ RS lyM w' a (HU.told G (HU.cnt G M)) ∧ ∀ q off, a = some ⟨q, off, none⟩ → q ≠ TB) := hx.take M
        rw [told_len] at CT
        by_cases hc0 : HU.cnt G M = 0
        · obtain ⟨hlf, hz⟩ := cnt_zero hokG hM1 hc0
          have HTK : Hid (HU.took G 0 = G) := by
            show _ = _
            funext n
            unfold HU.took HU.inT
            simp
          have HLF := hidP hlf
          have HZ := hidP hz
          rw [hc0] at CT
          clear hx hsame hsum hokG hsg hc0 hlf hz
          go_wp2_with (first
            | (go_at_call 12; refine (CT.out).mono ?_; clear CT; rintro e w7 ⟨a7, c7, rfl, H7, _, _⟩))
          rw [HTK.out] at H7
          have HX7 := hidP H7
          clear H7 HTK
          go_loopw [16] (fun u16 wr => ∃ n : Nat, 1 ≤ n ∧ n ≤ 7 ∧ u16 = .int .i64 n ∧ T3 w1 b T G F1 LB (LB + 1) TB (fun n => (F1 n).2 - (G n).2) wr) (fun u16 _ => 7 - (intOf u16).toNat)
          case atStart => exact ⟨1, by omega, by omega, rfl, HX7.out⟩
          case round =>
            obtain ⟨n, hn1, hn7, rfl, hx7⟩ := hrel
            clear HX7
            by_cases hlt : n < 7
            · obtain ⟨c1, _, c2, _⟩ := hx7.cn n hlt
              have HX7 := hidP hx7
              have hz := HZ.out (n : Int) (by omega) (by omega)
              rw [hz] at c1
              have hni : (n : Int) < 7 := by omega
              clear hx7
              rcases HF1.out (n : Int) with h0 | h0
              · rw [h0] at c1 c2
                have c1' : wr.cell? ⟨TB, n, none⟩ = some (.int .i64 0) := by simpa using c1
                have c2' : wr.cell? ⟨LB + 1, n, none⟩ = some (.bool false) := by simpa using c2
                clear c1 c2 h0 hz
                go_wp2_with (first | go_skip)
                go_roundw
                case rel => exact ⟨n + 1, by omega, by omega, by go_num, HX7.out⟩
                case measure => simp [intOf]; omega
              · rw [h0] at c1 c2
                have c1' : wr.cell? ⟨TB, n, none⟩ = some (.int .i64 T) := by simpa using c1
                have c2' : wr.cell? ⟨LB + 1, n, none⟩ = some (.bool true) := by rw [c2, decide_eq_true hTT.out]
                clear c1 c2 h0 hz
                go_wp2_with (first | go_skip)
                go_roundw
                case rel => exact ⟨n + 1, by omega, by omega, by go_num, HX7.out⟩
                case measure => simp [intOf]; omega
            · obtain rfl : n = 7 := by omega
              have CL : Hid (Calls Try.prog 15 #[.pointer (some ⟨b, 0, none⟩)] wr fun e w' => ∃ a c, e = .returned (.slice a 0 c) ∧ Bl w w') := by
                have := hx7.t.h.left
                rw [HLF.out] at this
                exact this.mono fun e w' ⟨a, c, h1, _, h2, _⟩ => ⟨a, c, h1, HB1.out.step h2.bl⟩
              clear hx7
              go_wp2_with (first
                | (go_at_call 15; refine (CL.out).mono ?_; clear CL; rintro e w8 ⟨a8, c8, rfl, H8⟩))
              go_ret
              exact ⟨rfl, H8⟩
        · have hc1 : 0 < HU.cnt G M := by omega
          have hcl := HU.cnt_le G M
          have hcM : (HU.cnt G M : Int) ≤ M := by unfold HU.cnt; omega
          have HTL : Hid (TL F1 G (HU.told G (HU.cnt G M))) := TL.of hokG hsame _
          have HSM : Hid (sm (HU.took G (HU.cnt G M)) ≤ sm G - 1) := sm_took hokG hc1 hcl
          have HSA : Hid (∀ n, (HU.took G (HU.cnt G M) n).1 = (F1 n).1) := fun n => ((took_le (G := G) (HU.cnt G M) n).2).trans (hsame n)
          have HLN : Hid ((HU.told G (HU.cnt G M)).length = HU.cnt G M) := told_len G M
          have HTA : Hid (tf F1 G (HU.told G (HU.cnt G M)) (HU.told G (HU.cnt G M)).length = fun (n : Nat) => (F1 n).2 - (HU.took G (HU.cnt G M) n).2) := tf_all F1 G _
          have HTZ : Hid (tf F1 G (HU.told G (HU.cnt G M)) 0 = fun (n : Nat) => (F1 n).2 - (G n).2) := tf_zero F1 G _
          have HBG : Hid (∀ n : Int, 0 ≤ (G n).2 ∧ (G n).2 ≤ 100 ∧ 0 ≤ (F1 n).2 ∧ (F1 n).2 ≤ 100) := fun n => ⟨hokG.lo n, by have := hokG.hi n; omega, HOK1.out.lo n, by have := HOK1.out.hi n; omega⟩
          have hsumH := hidP hsum
          clear hx hsame hokG hsg hcl hsum
          generalize HU.took G (HU.cnt G M) = G' at *
          generalize HU.told G (HU.cnt G M) = L at *
          generalize HU.cnt G M = cn at *
          have hcg : ¬ ((cn : Int) > M) := by omega
          have hce : ((cn : Int) == 0) = false := by rw [beq_eq_false_iff_ne]; omega
          have hcn6 : cn ≤ 6 := by omega
          go_wp2_with (first
            | (go_at_call 12; refine (CT.out).mono ?_; clear CT; rintro e w7 ⟨a9, c9, rfl, H7, R7, A7⟩))
          have HY0 : Hid (T3 w1 b T G' F1 LB (LB + 1) TB (tf F1 G L 0) w7 ∧ RS lyM w7 a9 L) := ⟨by rw [HTZ.out]; exact H7, R7⟩
          have HA7 := hidP A7
          clear H7 R7 A7 HTZ
          go_loopw [14, 15] (fun u14 _ wr => ∃ k : Nat, k ≤ cn ∧ u14 = .int .i64 k ∧ T3 w1 b T G' F1 LB (LB + 1) TB (tf F1 G L k) wr ∧ RS lyM wr a9 L) (fun u14 _ _ => cn - (intOf u14).toNat)
          case atStart => exact ⟨0, Nat.zero_le _, rfl, HY0.out.1, HY0.out.2⟩
          case round =>
            obtain ⟨k, hk, rfl, hx8, hr8⟩ := hrel
            clear HY0
            by_cases hlt : k < cn
            · obtain ⟨m, hm⟩ : ∃ m, L[k]? = some m := ⟨L[k]'(by rw [HLN.out]; exact hlt), List.getElem?_eq_getElem _⟩
              have hmm := List.mem_of_getElem? hm
              have hgm := HTL.out.good m hmm
              have him := HTL.out.is m hmm
              have hany := HTL.out.any hm
              obtain ⟨b9, o9, e9, hb9, _⟩ := hr8 k m hm
              have hnT := HA7.out b9 o9 e9
              subst e9
              obtain ⟨n, i2, s2⟩ := m
              have hgb : K.good (n, i2, s2) = true := (K.good_iff _).2 hgm
              unfold K.Good at hgm
              simp only at hgm
              obtain ⟨p, rfl⟩ : ∃ p : Nat, n = (p : Int) := ⟨n.toNat, by omega⟩
              have hp7 : p < 7 := by omega
              have hp7i : (p : Int) < 7 := by omega
              have hp0 : (0 : Int) ≤ (p : Int) := by omega
              simp only at him hany
              have HTF : Hid (tf F1 G L (k + 1) = fun j => if j = p then tf F1 G L k p + 1 else tf F1 G L k j) := tf_succ hm rfl hany
              have hbd := HBG.out (p : Int)
              have htq : tf F1 G L k p = (F1 p).2 - (G p).2 := by
                unfold tf; rw [hany]; simp
              obtain ⟨q, hq⟩ : ∃ q, tf F1 G L k p = q := ⟨_, rfl⟩
              have hq1 : -1000 ≤ q := by omega
              have hq2 : q ≤ 1000 := by omega
              have heq : ∀ W, (Op.equalIn 10000 41 (.agg #[.int .i64 (p : Int), .int .i64 i2, .int .i64 s2]) (.agg #[.int .i64 (p : Int), .int .i64 i2, .int .i64 s2])).run Try.prog W = .ok true W := fun W => by
                have := eqMe ((p : Int), i2, s2) ((p : Int), i2, s2) W
                simpa using this
              have hki : (k : Int) < (cn : Int) := by omega
              have HY : Hid (TY w1 b T G' F1 LB (LB + 1) TB (tf F1 G L k) (some ⟨b9, o9, none⟩) L wr) := ⟨hx8, hr8⟩
              have HRG : Hid (∀ W, TY w1 b T G' F1 LB (LB + 1) TB (tf F1 G L k) (some ⟨b9, o9, none⟩) L W → W.rangeAt b9 (o9 + k * 3) [.int .i64 (p : Int), .int .i64 i2, .int .i64 s2] ∧ W.rangeAt LB (p * 3) [.int .i64 (p : Int), .int .i64 i2, .int .i64 s2]) := fun W h => by
                obtain ⟨b', o', e', _, g'⟩ := h.r k _ hm
                cases e'
                obtain ⟨_, _, _, l1, l2, l3⟩ := h.t.cn p hp7
                rw [him] at l1 l2 l3
                refine ⟨g', fun j v hv => ?_⟩
                match j, hv with
                | 0, hv => simp at hv; subst hv; exact l1
                | 1, hv => simp at hv; subst hv; exact l2
                | 2, hv => simp at hv; subst hv; exact l3
              have CG : Hid (∀ W, TY w1 b T G' F1 LB (LB + 1) TB (tf F1 G L k) (some ⟨b9, o9, none⟩) L W → Calls Try.prog 17 #[.agg #[.int .i64 (p : Int), .int .i64 i2, .int .i64 s2]] W fun e w' => e = .returned (.bool true) ∧ TY w1 b T G' F1 LB (LB + 1) TB (tf F1 G L k) (some ⟨b9, o9, none⟩) L w') := fun W h => (Good_x ((p : Int), i2, s2) W W (Bl.refl W)).mono fun e w' ⟨h1, h2⟩ => ⟨by rw [h1, hgb], h.grow h2⟩
              have HNX : Hid (∀ W, TY w1 b T G' F1 LB (LB + 1) TB (tf F1 G L k) (some ⟨b9, o9, none⟩) L W → W.cell? ⟨b9, o9 + k * 3, none⟩ = some (.int .i64 (p : Int)) ∧ W.cell? ⟨TB, p, none⟩ = some (.int .i64 q) ∧ W.frozen? ⟨TB, p, none⟩ = false ∧ TY w1 b T G' F1 LB (LB + 1) TB (tf F1 G L (k + 1)) (some ⟨b9, o9, none⟩) L (W.setCell ⟨TB, p, none⟩ (.int .i64 (q + 1)))) := fun W h => by
                obtain ⟨t1, t2, _⟩ := h.t.cn p hp7
                rw [hq] at t1
                refine ⟨(HRG.out W h).1 0 _ rfl, t1, t2, ?_, T3.rs h.r (fun q' off e => by cases e; exact hnT) p _⟩
                rw [HTF.out, hq]
                exact h.t.put p hp7 (q + 1)
              have HMD : Hid (∀ (W : World) (j : Nat), j < k → TY w1 b T G' F1 LB (LB + 1) TB (tf F1 G L (k + 1)) (some ⟨b9, o9, none⟩) L W → ∃ z : Int, W.cell? ⟨b9, o9 + j * 3, none⟩ = some (.int .i64 z) ∧ W.cell? ⟨b9, o9 + k * 3, none⟩ = some (.int .i64 (p : Int)) ∧ (z == (p : Int)) = false) := fun W j hj h => by
                obtain ⟨y, hy⟩ : ∃ y, L[j]? = some y := ⟨L[j]'(by rw [HLN.out]; omega), List.getElem?_eq_getElem _⟩
                obtain ⟨b', o', e', _, g'⟩ := h.r j _ hy
                cases e'
                obtain ⟨b'', o'', e'', _, g''⟩ := h.r k _ hm
                cases e''
                exact ⟨y.1, g' 0 _ rfl, g'' 0 _ rfl, by rw [beq_eq_false_iff_ne]; exact HTL.out.nd j k y _ hj hy hm⟩
              clear hx8 hr8 hm hmm hgm him hany hbd htq hq hgb hnT HTF hb9
              go_wp2_with fail
              refine wp_region_noPanic ?_
              refine wp_region_held_drew (S := fun U => U.rangeAt b9 (o9 + k * 3) [.int .i64 (p : Int), .int .i64 i2, .int .i64 s2] ∧ U.rangeAt LB (p * 3) [.int .i64 (p : Int), .int .i64 i2, .int .i64 s2]) (by kernel_rfl) (HRG.out _ ((HY.out.grow ((Bl.refl _).drewN 1)))) (fun hHeld => ?_)
              refine wpAnyH_take (i := 0) rfl (by kernel_rfl) (by kernel_rfl) (by kernel_rfl) (fun _ _ _ h => h) (yi_move (by kernel_rfl) rfl rfl) (by assumption) ?_
              simp only [Act.put, List.getElem_toArray, List.getElem_cons_succ, List.getElem_cons_zero, List.setIfInBounds_toArray, List.set_cons_zero, List.set_cons_succ]
              refine wpAnyH_take (i := 1) rfl (by kernel_rfl) (by kernel_rfl) (by kernel_rfl) (fun _ _ _ h => h) (yi_move (by kernel_rfl) rfl rfl) (by assumption) ?_
              simp only [Act.put, List.getElem_toArray, List.getElem_cons_succ, List.getElem_cons_zero, List.setIfInBounds_toArray, List.set_cons_zero, List.set_cons_succ]
              refine wpAnyH_take (i := 2) (v := ?_) rfl (by kernel_rfl) (by kernel_rfl) (by kernel_rfl) (fun _ _ _ h => h) (Or.inl ⟨by kernel_rfl, ?_⟩) (by assumption) ?_
              rotate_left
              · (intro w hSw; (try dsimp only at hSw); go_simp; (try with_reducible rfl))
              simp only [Act.put, List.getElem_toArray, List.getElem_cons_succ, List.getElem_cons_zero, List.setIfInBounds_toArray, List.set_cons_zero, List.set_cons_succ]
              refine wpAnyH_take (i := 3) (v := .agg (List.toArray [.int .i64 (p : Int), .int .i64 i2, .int .i64 s2])) rfl (by kernel_rfl) (by kernel_rfl) (by kernel_rfl) (fun _ _ _ h => h) (yieldsIf_load_mid (by kernel_rfl) _ (.tmp 89) (by kernel_rfl) b9 (o9 + k * 3) (by kernel_rfl) [.int .i64 (p : Int), .int .i64 i2, .int .i64 s2] _ (fun W hW => hW.1) hum rfl infoMe) (by assumption) ?_
              simp only [Act.put, List.getElem_toArray, List.getElem_cons_succ, List.getElem_cons_zero, List.setIfInBounds_toArray, List.set_cons_zero, List.set_cons_succ]
              refine wpAnyH_ready (rs := [4]) (by kernel_rfl) (by simp) ?_
              refine AllReadyH.cons (o := _) rfl (fun K hK => ?_) AllReadyH.nil
              go_simp
              go_at_call 17; refine (CG.out _ (HY.out.grow ((Bl.refl _).drewN 1))).mono ?_; rintro e V5 ⟨rfl, HB5⟩
              refine hK.out _ _ (HRG.out _ (HB5)) (fun hHeld => ?_)
              clear hK K
              (try simp only [Act.put, List.getElem_toArray, List.getElem_cons_succ, List.getElem_cons_zero, List.setIfInBounds_toArray, List.set_cons_zero, List.set_cons_succ])
              refine wpAnyH_take (i := 5) (v := ?_) rfl (by kernel_rfl) (by kernel_rfl) (by kernel_rfl) (fun _ _ _ h => h) (Or.inl ⟨by kernel_rfl, ?_⟩) (by assumption) ?_
              rotate_left
              · (intro w hSw; (try dsimp only at hSw); go_simp; (try with_reducible rfl))
              simp only [Act.put, List.getElem_toArray, List.getElem_cons_succ, List.getElem_cons_zero, List.setIfInBounds_toArray, List.set_cons_zero, List.set_cons_succ]
              refine wpAnyH_take (i := 6) rfl (by kernel_rfl) (by kernel_rfl) (by kernel_rfl) (fun _ _ _ h => h) (yi_move (by kernel_rfl) rfl rfl) (by assumption) ?_
              simp only [Act.put, List.getElem_toArray, List.getElem_cons_succ, List.getElem_cons_zero, List.setIfInBounds_toArray, List.set_cons_zero, List.set_cons_succ]
              refine wpAnyH_take (i := 7) rfl (by kernel_rfl) (by kernel_rfl) (by kernel_rfl) (fun _ _ _ h => h) (yi_move (by kernel_rfl) rfl rfl) (by assumption) ?_
              simp only [Act.put, List.getElem_toArray, List.getElem_cons_succ, List.getElem_cons_zero, List.setIfInBounds_toArray, List.set_cons_zero, List.set_cons_succ]
              refine wpAnyH_take (i := 8) rfl (by kernel_rfl) (by kernel_rfl) (by kernel_rfl) (fun _ _ _ h => h) (yi_move (by kernel_rfl) rfl rfl) (by assumption) ?_
              simp only [Act.put, List.getElem_toArray, List.getElem_cons_succ, List.getElem_cons_zero, List.setIfInBounds_toArray, List.set_cons_zero, List.set_cons_succ]
              refine wpAnyH_take (i := 9) (v := ?_) rfl (by kernel_rfl) (by kernel_rfl) (by kernel_rfl) (fun _ _ _ h => h) (Or.inl ⟨by kernel_rfl, ?_⟩) (by assumption) ?_
              rotate_left
              · (intro w hSw; (try dsimp only at hSw); go_simp; (try with_reducible rfl))
              simp only [Act.put, List.getElem_toArray, List.getElem_cons_succ, List.getElem_cons_zero, List.setIfInBounds_toArray, List.set_cons_zero, List.set_cons_succ]
              refine wpAnyH_take (i := 10) (v := .agg (List.toArray [.int .i64 (p : Int), .int .i64 i2, .int .i64 s2])) rfl (by kernel_rfl) (by kernel_rfl) (by kernel_rfl) (fun _ _ _ h => h) (yieldsIf_load_mid (by kernel_rfl) _ (.tmp 96) (by kernel_rfl) b9 (o9 + k * 3) (by kernel_rfl) [.int .i64 (p : Int), .int .i64 i2, .int .i64 s2] _ (fun W hW => hW.1) hum rfl infoMe) (by assumption) ?_
              simp only [Act.put, List.getElem_toArray, List.getElem_cons_succ, List.getElem_cons_zero, List.setIfInBounds_toArray, List.set_cons_zero, List.set_cons_succ]
              refine wpAnyH_take (i := 11) rfl (by kernel_rfl) (by kernel_rfl) (by kernel_rfl) (fun _ _ _ h => h) (yi_move (by kernel_rfl) rfl rfl) (by assumption) ?_
              simp only [Act.put, List.getElem_toArray, List.getElem_cons_succ, List.getElem_cons_zero, List.setIfInBounds_toArray, List.set_cons_zero, List.set_cons_succ]
              refine wpAnyH_take (i := 12) rfl (by kernel_rfl) (by kernel_rfl) (by kernel_rfl) (fun _ _ _ h => h) (yi_move (by kernel_rfl) rfl rfl) (by assumption) ?_
              simp only [Act.put, List.getElem_toArray, List.getElem_cons_succ, List.getElem_cons_zero, List.setIfInBounds_toArray, List.set_cons_zero, List.set_cons_succ]
              refine wpAnyH_take (i := 13) (v := ?_) rfl (by kernel_rfl) (by kernel_rfl) (by kernel_rfl) (fun _ _ _ h => h) (Or.inl ⟨by kernel_rfl, ?_⟩) (by assumption) ?_
              rotate_left
              · (intro w hSw; (try dsimp only at hSw); go_simp; (try with_reducible rfl))
              simp only [Act.put, List.getElem_toArray, List.getElem_cons_succ, List.getElem_cons_zero, List.setIfInBounds_toArray, List.set_cons_zero, List.set_cons_succ]
              refine wpAnyH_take (i := 14) (v := ?_) rfl (by kernel_rfl) (by kernel_rfl) (by kernel_rfl) (fun _ _ _ h => h) (Or.inl ⟨by kernel_rfl, ?_⟩) (by assumption) ?_
              rotate_left
              · (intro w hSw; (try dsimp only at hSw); go_simp; (try with_reducible rfl))
              simp only [Act.put, List.getElem_toArray, List.getElem_cons_succ, List.getElem_cons_zero, List.setIfInBounds_toArray, List.set_cons_zero, List.set_cons_succ]
              refine wpAnyH_take (i := 15) (v := ?_) rfl (by kernel_rfl) (by kernel_rfl) (by kernel_rfl) (fun _ _ _ h => h) (Or.inl ⟨by kernel_rfl, ?_⟩) (by assumption) ?_
              rotate_left
              · (intro w hSw; have e1 := hSw.1 0 _ rfl; simp only [Nat.add_zero] at e1; go_simp; (try with_reducible rfl))
              simp only [Act.put, List.getElem_toArray, List.getElem_cons_succ, List.getElem_cons_zero, List.setIfInBounds_toArray, List.set_cons_zero, List.set_cons_succ]
              refine wpAnyH_take (i := 16) (v := ?_) rfl (by kernel_rfl) (by kernel_rfl) (by kernel_rfl) (fun _ _ _ h => h) (Or.inl ⟨by kernel_rfl, ?_⟩) (by assumption) ?_
              rotate_left
              · (intro w hSw; (try dsimp only at hSw); go_simp; (try with_reducible rfl))
              simp only [Act.put, List.getElem_toArray, List.getElem_cons_succ, List.getElem_cons_zero, List.setIfInBounds_toArray, List.set_cons_zero, List.set_cons_succ]
              refine wpAnyH_take (i := 17) (v := .agg (List.toArray [.int .i64 (p : Int), .int .i64 i2, .int .i64 s2])) rfl (by kernel_rfl) (by kernel_rfl) (by kernel_rfl) (fun _ _ _ h => h) (yieldsIf_load_mid (by kernel_rfl) _ (.tmp 103) (by kernel_rfl) LB (p * 3) (by kernel_rfl) [.int .i64 (p : Int), .int .i64 i2, .int .i64 s2] _ (fun W hW => hW.2) hum rfl infoMe) (by assumption) ?_
              simp only [Act.put, List.getElem_toArray, List.getElem_cons_succ, List.getElem_cons_zero, List.setIfInBounds_toArray, List.set_cons_zero, List.set_cons_succ]
              refine wpAnyH_take (i := 18) (v := ?_) rfl (by kernel_rfl) (by kernel_rfl) (by kernel_rfl) (fun _ _ _ h => h) (Or.inl ⟨by kernel_rfl, ?_⟩) (by assumption) ?_
              rotate_left
              · (intro w hSw; (try dsimp only at hSw); go_simp; (try with_reducible rfl))
              simp only [Act.put, List.getElem_toArray, List.getElem_cons_succ, List.getElem_cons_zero, List.setIfInBounds_toArray, List.set_cons_zero, List.set_cons_succ]
              refine wpAnyH_take (i := 19) (v := ?_) rfl (by kernel_rfl) (by kernel_rfl) (by kernel_rfl) (fun _ _ _ h => h) (Or.inl ⟨by kernel_rfl, ?_⟩) (by assumption) ?_
              rotate_left
              · (intro w hSw; (try dsimp only at hSw); go_simp; (try with_reducible rfl))
              simp only [Act.put, List.getElem_toArray, List.getElem_cons_succ, List.getElem_cons_zero, List.setIfInBounds_toArray, List.set_cons_zero, List.set_cons_succ]
              refine wpAnyH_done (by kernel_rfl) ?_ _
              refine NoPanic.normal ?_
              obtain ⟨x0, x1, x2, X3⟩ := HNX.out _ (HB5)
              have HX8 := hidP X3
              clear X3 HNX HRG CG HY
              go_wp2_with fail
              go_loopw [15] (fun u15 wr => ∃ j : Nat, j ≤ k ∧ u15 = .int .i64 j ∧ TY w1 b T G' F1 LB (LB + 1) TB (tf F1 G L (k + 1)) (some ⟨b9, o9, none⟩) L wr) (fun u15 _ => k - (intOf u15).toNat)
              case atStart => exact ⟨0, Nat.zero_le _, rfl, HX8.out⟩
              case round =>
                obtain ⟨j, hj, rfl, hx9⟩ := hrel
                clear HX8 x0 x1 x2
                by_cases hjk : j < k
                · obtain ⟨z, y0, y1, y2⟩ := HMD.out wr j hjk hx9
                  have hji : (j : Int) < (k : Int) := by omega
                  have hjc : (j : Int) < (cn : Int) := by omega
                  have HX9 := hidP hx9
                  clear hx9
                  go_wp2_with fail
                  go_quiet (fail)
                  go_wp2_with fail
                  go_roundw
                  case rel => exact ⟨j + 1, by omega, by go_num, HX9.out.grow ((Bl.refl _).drewN _)⟩
                  case measure => simp [intOf]; omega
                · obtain rfl : j = k := by omega
                  have HX9 := hidP hx9
                  clear hx9
                  go_wp2_with fail
                  go_roundw
                  case rel => exact ⟨j + 1, by omega, by go_num, HX9.out.t, HX9.out.r⟩
                  case measure => simp [intOf]; omega
            · obtain rfl : k = cn := by omega
              have hx9 := hx8
              rw [← HLN.out, HTA.out] at hx9
              have HX9 := hidP hx9
              clear hx8 hr8 hx9
              go_wp2_with fail
              go_roundw
              case rel => exact ⟨i + 1, G', by go_num, HX9.out, HSA.out, by have := HSM.out; have := hsumH.out; omega⟩
              case measure => simp [intOf]; omega
end Go.Proofs.Ytpgagddofifikaa
