/- HazeAges' walk. -/
import Derived.Test.YtokicaacllaijaaHzS
namespace Go.Proofs.Ytokicaacllaijaa
open Go.RowKit
set_option linter.unusedVariables false
set_option linter.unusedSimpArgs false
attribute [local go_sem ↓] zeroH zeroD

theorem may_sk0 (k : HZ.D) (now : Int) : ∀ j, mayN sk0 k now j = []
  | 0 => rfl
  | j + 1 => by
    show (if may1 sk0 k now j = true then _ else mayN sk0 k now j) = []
    rw [may_sk0 k now j]; rfl
theorem may_put (n : Nat) (h : HZ.H) (t : Int) (k : HZ.D) (now : Int) : ∀ j, mayN (sk0.put n h t) k now j = if (decide (n < j) && (frsh t now && h.hs k)) = true then [(n : Int)] else []
  | 0 => by simp [mayN]
  | j + 1 => by
    have ih := may_put n h t k now j
    have e : mayN (sk0.put n h t) k now (j + 1) = if may1 (sk0.put n h t) k now j = true then mayN (sk0.put n h t) k now j ++ [(j : Int)] else mayN (sk0.put n h t) k now j := rfl
    rw [e, ih]
    by_cases hj : j = n
    · subst hj
      have e1 : may1 (sk0.put j h t) k now j = (frsh t now && h.hs k) := by unfold may1 SkF.put; simp
      rw [e1]
      cases (frsh t now && h.hs k) <;> simp
    · have e1 : may1 (sk0.put n h t) k now j = false := by unfold may1 SkF.put sk0; simp [hj]
      rw [e1]
      have e2 : decide (n < j + 1) = decide (n < j) := decide_eq_decide.2 ⟨fun _ => by omega, fun _ => by omega⟩
      rw [e2]; simp
theorem may_put7 {n : Nat} (hn : n < 7) (h : HZ.H) (t : Int) (k : HZ.D) (now : Int) : mayN (sk0.put n h t) k now 7 = if (frsh t now && h.hs k) = true then [(n : Int)] else [] := by
  rw [may_put, decide_eq_true hn, Bool.true_and]
theorem put_put (f : SkF) (n : Nat) (h h' : HZ.H) (t t' : Int) : (f.put n h t).put n h' t' = f.put n h' t' := by
  funext j; unfold SkF.put; split <;> rfl
theorem put_drop (n : Nat) (h : HZ.H) (t : Int) : (sk0.put n h t).drop n = sk0 := by
  funext j; unfold SkF.drop SkF.put sk0; split <;> rfl
theorem put_t {n : Nat} {h : HZ.H} {t : Int} (ht : isT t = true) : ∀ j h' t', sk0.put n h t j = some (h', t') → isT t' = true := fun j h' t' e => by
  unfold SkF.put sk0 at e
  split at e
  · simp only [Option.some.injEq, Prod.mk.injEq] at e; rw [← e.2]; exact ht
  · cases e
theorem node_at (x : Int) : ∃ j : Nat, wrap64 ((IntKind.u64.wrap x).tmod 6) = (j : Int) ∧ j < 6 := by
  have h0 : 0 ≤ IntKind.u64.wrap x := by simp only [IntKind.wrap, IntKind.bits, IntKind.signed]; simp; omega
  generalize IntKind.u64.wrap x = u at h0
  rw [Int.tmod_eq_emod_of_nonneg h0]
  refine ⟨(u % 6).toNat, ?_, by omega⟩
  unfold wrap64
  omega
set_option maxRecDepth 8000 in
set_option maxHeartbeats 4000000 in
theorem hazeAges_walk (W : World) (x : Int) (hx : -9223372036854775808 ≤ x ∧ x ≤ 9223372036854775807) (k : HZ.D) (t : Int) (ht : -9223372036854775808 ≤ t ∧ t ≤ 9223372036854775807) (now : Int) (hnow : -9223372036854775808 ≤ now ∧ now ≤ 9223372036854775807) : Calls Try.prog 7 #[.int .i64 x, .agg (dC k).toArray, .int .i64 t, .int .i64 now] W fun e w' => e = .returned (.bool true) ∧ Bl W w' := by
  have C0 : Hid (∀ U, Calls Try.prog 9 #[] U fun e w' => e = .returned (.bool true) ∧ Bl U w') := awake_14
  have HB0 : Hid (Bl W (W.alloc (.cells (dC k).toArray tD))) := (Bl.refl W).alloc _
  have RK0 : Hid ((W.alloc (.cells (dC k).toArray tD)).heap[W.heap.size]? = some (.cells (dC k).toArray tD (0, 0))) := heap_alloc_new W _
  obtain ⟨j, hj, hj6⟩ := node_at x
  have hj64 : IntKind.i64.wrap (1 + (j : Int)) = 1 + (j : Int) := by rw [IntKind.wrap_i64]; omega
  obtain ⟨ht1, ht2⟩ := ht
  obtain ⟨hn1, hn2⟩ := hnow
  clear hx
  have AWK : Hid (∀ U, Calls Try.prog 9 #[] U fun e w' => e = .returned (.bool true) ∧ Bl U w') := awake_14
  clear AWK
  by_cases hb0 : t < 0
  · generalize dC k = LK at *
    go_enter Try.func7, Try.ntmps7
    go_wp2_with (first
      | go_big_skip
      | (go_at_call 9; refine (C0.out _).mono ?_; clear C0; rintro e w1 ⟨rfl, hb1⟩; have HB1 : Hid (Bl W w1) := HB0.out.step hb1; clear hb1))
    go_ret
    exact ⟨rfl, HB1.out⟩
  · by_cases hb1 : t > 1099511627776
    · generalize dC k = LK at *
      go_enter Try.func7, Try.ntmps7
      go_wp2_with (first
        | go_big_skip
        | (go_at_call 9; refine (C0.out _).mono ?_; clear C0; rintro e w1 ⟨rfl, hb1⟩; have HB1 : Hid (Bl W w1) := HB0.out.step hb1; clear hb1))
      go_ret
      exact ⟨rfl, HB1.out⟩
    · have HIT : isT t = true := by unfold isT; rw [decide_eq_true (by omega), decide_eq_true (by omega)]; rfl
      have hE : (1 : Int) + (j : Int) = ((j + 1 : Nat) : Int) := by omega
      have HH : (HZ.zero.wi [k]).hs k = true := HZ.wi_has (by simp)
      have CO1 : Hid (∀ U, Calls Try.prog 14 #[.slice (some ⟨U.heap.size, 0, none⟩) 1 1] (U.alloc (.cells (dC k).toArray tD)) fun e w' => e = .returned (.agg (hC (HZ.zero.wi [k])).toArray) ∧ Bl U w') := fun U =>
        (Of_x [k] (some ⟨U.heap.size, 0, none⟩) 1 (by unfold maxLen; simp) _ (RS.one lyD U tD k)).mono fun e w' ⟨g1, g2⟩ => ⟨g1, g2.up⟩
      generalize HZ.zero.wi [k] = H at *
      have CN : Hid (∀ U, Calls Try.prog 19 #[] U fun e w' => e = .returned (.pointer (some ⟨U.heap.size, 0, none⟩)) ∧ SKY U U.heap.size sk0 w') := New_x
      have CP1 : Hid (∀ V p U, SKY V p sk0 U → Calls Try.prog 20 #[.pointer (some ⟨p, 0, none⟩), .int .i64 (1 + (j : Int)), .agg (hC H).toArray, .int .i64 t] U fun e w' => e = .returned (.tuple #[]) ∧ SKY V p (sk0.put (j + 1) H t) w') := fun V p U x => by
        rw [hE]; exact Put_yes x (j + 1) (by omega) (by omega) t HIT H
      have CP2 : Hid (∀ V p U, SKY V p (sk0.put (j + 1) H t) U → Calls Try.prog 20 #[.pointer (some ⟨p, 0, none⟩), .int .i64 (1 + (j : Int)), .agg zH, .int .i64 t] U fun e w' => e = .returned (.tuple #[]) ∧ SKY V p (sk0.put (j + 1) HZ.zero t) w') := fun V p U x => by
        have := Put_yes x (j + 1) (by omega) (by omega) t HIT HZ.zero
        rw [put_put] at this; rw [hE]; exact this
      have CP3 : Hid (∀ V p U, SKY V p (sk0.put (j + 1) HZ.zero t) U → Calls Try.prog 20 #[.pointer (some ⟨p, 0, none⟩), .int .i64 (1 + (j : Int)), .agg (hC H).toArray, .int .i64 t] U fun e w' => e = .returned (.tuple #[]) ∧ SKY V p (sk0.put (j + 1) H t) w') := fun V p U x => by
        have := Put_yes x (j + 1) (by omega) (by omega) t HIT H
        rw [put_put] at this; rw [hE]; exact this
      have CD : Hid (∀ V p U, SKY V p (sk0.put (j + 1) H t) U → Calls Try.prog 22 #[.pointer (some ⟨p, 0, none⟩), .int .i64 (1 + (j : Int))] U fun e w' => e = .returned (.tuple #[]) ∧ SKY V p sk0 w') := fun V p U x => by
        have := Drop_yes x (j + 1) (by omega) (by omega)
        rw [put_drop] at this; rw [hE]; exact this
      obtain ⟨Lm, hLm⟩ : ∃ L, L = (if frsh t now = true then [(1 : Int) + (j : Int)] else []) := ⟨_, rfl⟩
      have CM1 : Hid (∀ V p U, SKY V p (sk0.put (j + 1) H t) U → Calls Try.prog 25 #[.pointer (some ⟨p, 0, none⟩), .agg (dC k).toArray, .int .i64 now] U fun e w' => ∃ a c, e = .returned (.slice a Lm.length c) ∧ RS lyI w' a Lm ∧ SKY V p (sk0.put (j + 1) H t) w') := fun V p U x => by
        have := May_x x k now ⟨hn1, hn2⟩ (put_t HIT)
        rw [may_put7 (by omega), HH, Bool.and_true, ← hE, ← hLm] at this
        exact this.mono fun e w' ⟨a, c, g1, g2, g3⟩ => ⟨a, c, g1, g2, x.grow g3⟩
      have hf0 : frsh t t = true := by unfold frsh; rw [decide_eq_true (by omega), decide_eq_true (by omega)]; rfl
      have CM2 : Hid (∀ V p U, SKY V p (sk0.put (j + 1) H t) U → Calls Try.prog 25 #[.pointer (some ⟨p, 0, none⟩), .agg (dC k).toArray, .int .i64 t] U fun e w' => ∃ a c, e = .returned (.slice a 1 c) ∧ SKY V p (sk0.put (j + 1) H t) w') := fun V p U x => by
        have := May_x x k t ⟨ht1, ht2⟩ (put_t HIT)
        rw [may_put7 (by omega), HH, hf0] at this
        exact this.mono fun e w' ⟨a, c, g1, g2, g3⟩ => ⟨a, c, g1, x.grow g3⟩
      have CM3 : Hid (∀ V p U, SKY V p (sk0.put (j + 1) HZ.zero t) U → Calls Try.prog 25 #[.pointer (some ⟨p, 0, none⟩), .agg (dC k).toArray, .int .i64 t] U fun e w' => ∃ a c, e = .returned (.slice a 0 c) ∧ SKY V p (sk0.put (j + 1) HZ.zero t) w') := fun V p U x => by
        have := May_x x k t ⟨ht1, ht2⟩ (put_t HIT)
        rw [may_put7 (by omega), HZ.zero_hs, Bool.and_false] at this
        exact this.mono fun e w' ⟨a, c, g1, g2, g3⟩ => ⟨a, c, g1, x.grow g3⟩
      have CM4 : Hid (∀ V p U, SKY V p sk0 U → Calls Try.prog 25 #[.pointer (some ⟨p, 0, none⟩), .agg (dC k).toArray, .int .i64 t] U fun e w' => ∃ a c, e = .returned (.slice a 0 c) ∧ SKY V p sk0 w') := fun V p U x => by
        have := May_x x k t ⟨ht1, ht2⟩ (fun j h t e => by cases e)
        rw [may_sk0] at this
        exact this.mono fun e w' ⟨a, c, g1, g2, g3⟩ => ⟨a, c, g1, x.grow g3⟩
      have CZP : Hid (∀ V p f U, SKY V p f U → Calls Try.prog 20 #[.pointer none, .int .i64 1, .agg zH, .int .i64 0] U fun e w' => e = .returned (.tuple #[]) ∧ SKY V p f w') := fun V p f U x => (Put_nil 1 0 HZ.zero U).mono fun e w' ⟨g1, g2⟩ => ⟨g1, x.grow g2⟩
      have CZD : Hid (∀ U, Calls Try.prog 22 #[.pointer none, .int .i64 1] U fun e w' => e = .returned (.tuple #[]) ∧ w' = U) := Drop_nil 1
      have CZM : Hid (∀ U, Calls Try.prog 25 #[.pointer none, .agg (dC k).toArray, .int .i64 0] U fun e w' => e = .returned (.slice none 0 0) ∧ Bl U w') := May_nil k 0
      have CO2 : Hid (∀ U, Calls Try.prog 14 #[.slice (some ⟨U.heap.size, 0, none⟩) 1 1] (U.alloc (.cells (dC k).toArray tD)) fun e w' => e = .returned (.agg (hC H).toArray) ∧ Bl U w') := CO1.out
      have HLM : Hid (Lm = (if frsh t now = true then [(1 : Int) + (j : Int)] else [])) := hLm
      clear hLm
      have HFR : Hid (frsh t now = (decide (t ≤ now) && decide (now - t ≤ 40))) := rfl
      clear HH hE hf0
      have HKI : Hid ((Try.prog.info? tD).map (·.size) = some (dC k).length) := infoD' k
      have HKL : Hid ((dC k).length = 32) := dC_len k
      generalize sk0.put (j + 1) H t = f1 at *
      generalize sk0.put (j + 1) HZ.zero t = f2 at *
      generalize hC H = LH at *
      generalize dC k = LK at *
      go_enter Try.func7, Try.ntmps7
      go_upto_region 9 with (first
        | go_big_skip
        | (go_at_call 9; refine (C0.out _).mono ?_; clear C0; rintro e w1 ⟨rfl, hb1⟩; have HB1 : Hid (Bl W w1) := HB0.out.step hb1; have RK1 := hidI (hb1.heap RK0.out); clear hb1 HB0 RK0)
        | (go_at_call 19; refine (CN.out _).mono ?_; clear CN; rintro e w2 ⟨rfl, HS⟩; have R1 := range_of (HS.bl.heap RK1.out))
        | (refine wl_midG (by rfl) tD _ rfl W.heap.size 0 rfl LK _ R1 undD rfl HKI.out ?_)
        | (refine wl_bs (by rfl) 23 tD 1 _ rfl [LK] (by simp only [List.map_toArray, List.map_cons, List.map_nil]; rfl) rfl 32 (len1 HKL) LK (by simp) 32 (.agg zD) undDs infoD3 (by omega) (by omega) (by omega) (by omega) ?_)
        | (go_at_call 14; refine (CO1.out _).mono ?_; clear CO1 R1; rintro e w3 ⟨rfl, hb⟩; replace HS := HS.grow hb; clear hb)
        | (go_at_call 20; refine (CP1.out _ _ _ HS).mono ?_; clear CP1 HS; rintro e w4 ⟨rfl, HS⟩; have R1 := range_of (HS.bl.heap RK1.out))
        | (go_at_call 25; refine (CM1.out _ _ _ HS).mono ?_; clear CM1 R1 HS; rintro e w5 ⟨a5, c5, rfl, HR5, HS⟩))
      (try simp only [Act.put, List.setIfInBounds_toArray, List.set_cons_zero, List.set_cons_succ])
      have HSH := hidI HS
      have HRH := hidI HR5
      clear HS HR5
      go_cut [11] (fun s11 wx => s11 = .bool (frsh t now) ∧ w5 = wx)
      case first =>
        by_cases h1 : t ≤ now
        · have h1' : now ≥ t := h1
          have hw : IntKind.i64.wrap (now - t) = now - t := by rw [IntKind.wrap_i64]; omega
          have hw2 : wrap64 (now - t) = now - t := by unfold wrap64; omega
          have E : Hid (frsh t now = decide (now - t ≤ 40)) := by show _ = _; rw [HFR.out, decide_eq_true h1]; rfl
          go_wp2_with go_big_skip
          go_meet
          exact ⟨by rw [E.out], rfl⟩
        · have h1' : ¬ now ≥ t := h1
          have E : Hid (frsh t now = false) := by show _ = _; rw [HFR.out, decide_eq_false h1]; rfl
          go_wp2_with go_big_skip
          go_meet
          exact ⟨by rw [E.out], rfl⟩
      case rest =>
        obtain ⟨rfl, rfl⟩ := hcut
        generalize frsh t now = q at *
        clear HFR
        have HR5 := HRH.out
        have HS := HSH.out
        go_upto_region 10 with fail
        (try simp only [Act.put, List.setIfInBounds_toArray, List.set_cons_zero, List.set_cons_succ])
        clear HS HR5
        go_cut [69] (fun s69 wx => s69 = .bool false ∧ SKY w1 w1.heap.size f1 wx)
        case first =>
          have HS := HSH.out
          have R1 := range_of (HS.bl.heap RK1.out)
          cases q
          · obtain rfl : Lm = [] := HLM.out
            clear HRH HLM
            go_wp2_with (first
              | go_big_skip
              | (refine wl_midG (by rfl) tD _ rfl W.heap.size 0 rfl LK _ R1 undD rfl HKI.out ?_)
              | (go_at_call 25; refine (CM2.out _ _ _ HS).mono ?_; clear CM2 R1 HS; rintro e w6 ⟨a6, c6, rfl, HS⟩))
            go_meet
            exact ⟨rfl, HS⟩
          · obtain rfl : Lm = [(1 : Int) + (j : Int)] := HLM.out
            clear HLM
            have HR5 : RS lyI w5 a5 [(1 : Int) + (j : Int)] := HRH.out
            obtain ⟨b5, o5, rfl, hb5, hr5⟩ := HR5 0 _ rfl
            have HC5 : w5.cell? ⟨b5, o5, none⟩ = some (.int .i64 (1 + (j : Int))) := by have := hr5 0 _ rfl; simpa [lyI] using this
            clear hr5 HRH
            go_wp2_with (first
              | go_big_skip
              | (refine wl_midG (by rfl) tD _ rfl W.heap.size 0 rfl LK _ R1 undD rfl HKI.out ?_)
              | (go_at_call 25; refine (CM2.out _ _ _ HS).mono ?_; clear CM2 R1 HS; rintro e w6 ⟨a6, c6, rfl, HS⟩))
            go_meet
            exact ⟨rfl, HS⟩
        case rest =>
          obtain ⟨rfl, HS⟩ := hcut
          clear HSH HRH CM2 HLM
          go_wp2_with (first
            | go_big_skip
            | (refine wl_build rfl tH #[] rfl [] rfl zH builtH ?_)
            | (go_at_call 20; refine (CP2.out _ _ _ HS).mono ?_; clear CP2 HS; rintro e w7 ⟨rfl, HS⟩; have R1 := range_of (HS.bl.heap RK1.out))
            | (refine wl_midG (by rfl) tD _ rfl W.heap.size 0 rfl LK _ R1 undD rfl HKI.out ?_)
            | (go_at_call 25; refine (CM3.out _ _ _ HS).mono ?_; clear CM3 R1 HS; rintro e w8 ⟨a8, c8, rfl, HS⟩; have R1 := range_of (HS.bl.heap RK1.out))
            | (refine wl_bs (by rfl) 23 tD 1 _ rfl [LK] (by simp only [List.map_toArray, List.map_cons, List.map_nil]; rfl) rfl 32 (len1 HKL) LK (by simp) 32 (.agg zD) undDs infoD3 (by omega) (by omega) (by omega) (by omega) ?_)
            | (go_at_call 14; refine (CO2.out _).mono ?_; clear CO2 R1; rintro e w9 ⟨rfl, hb⟩; replace HS := HS.grow hb; clear hb)
            | (go_at_call 20; refine (CP3.out _ _ _ HS).mono ?_; clear CP3 HS; rintro e w10 ⟨rfl, HS⟩)
            | (go_at_call 22; refine (CD.out _ _ _ HS).mono ?_; clear CD HS; rintro e w11 ⟨rfl, HS⟩)
            | (go_at_call 20; refine (CZP.out _ _ _ _ HS).mono ?_; clear CZP HS; rintro e w12 ⟨rfl, HS⟩)
            | (go_at_call 22; refine (CZD.out _).mono ?_; clear CZD; rintro e w13 ⟨rfl, hw⟩; rw [hw]; clear hw; have R1 := range_of (HS.bl.heap RK1.out))
            | (go_at_call 25; refine (CM4.out _ _ _ HS).mono ?_; clear CM4 R1 HS; rintro e w14 ⟨a14, c14, rfl, HS⟩; have R1 := range_of (HS.bl.heap RK1.out))
            | (go_at_call 25; refine (CZM.out _).mono ?_; clear CZM R1; rintro e w15 ⟨rfl, hb⟩))
          go_ret
          exact ⟨rfl, (HB1.out.step HS.bl).step hb⟩
end Go.Proofs.Ytokicaacllaijaa
