/- RankOrders: ways of its walk. -/
import Derived.Test.YtgnnlnhhikmneaaKor0
namespace Go.Proofs.Ytgnnlnhhikmneaa
open Go.RowKit Go.Maps
set_option linter.unusedVariables false
set_option linter.unusedSimpArgs false

set_option maxRecDepth 8000 in
set_option maxHeartbeats 16000000 in
theorem kor_1 (w : World) (a b c : K.Me) (haa0 : K.above a a = false) (hab1 : K.above a b = true) (hac1 : K.above a c = true) (hba0 : K.above b a = false) (hbc1 : K.above b c = true) (hga1 : K.good a = true) (hgb1 : K.good b = true) (hnn : (a.1 == b.1) = true) (hee : decide (a = b) = false) :
    Calls Try.prog 6 #[.agg #[.int .i64 a.1, .int .i64 a.2.1, .int .i64 a.2.2], .agg #[.int .i64 b.1, .int .i64 b.2.1, .int .i64 b.2.2], .agg #[.int .i64 c.1, .int .i64 c.2.1, .int .i64 c.2.2]] w fun e w' => e = .returned (.bool true) ∧ Bl w w' := by
  have C0 : Hid (∀ W, B3 w a b c W → Calls Try.prog 8 #[] W fun e w' => e = .returned (.bool true) ∧ B3 w a b c w') := fun W h => (awake_10 W).mono fun e w' ⟨h1, h2⟩ => ⟨h1, h.grow h2⟩
  have C1 : Hid (∀ W, B3 w a b c W → Calls Try.prog 20 #[.agg #[.int .i64 a.1, .int .i64 a.2.1, .int .i64 a.2.2], .agg #[.int .i64 a.1, .int .i64 a.2.1, .int .i64 a.2.2]] W fun e w' => e = .returned (.bool false) ∧ B3 w a b c w') := fun W h => Above_3 a a _ haa0 W h
  have C2 : Hid (∀ W, B3 w a b c W → Calls Try.prog 20 #[.agg #[.int .i64 a.1, .int .i64 a.2.1, .int .i64 a.2.2], .agg #[.int .i64 b.1, .int .i64 b.2.1, .int .i64 b.2.2]] W fun e w' => e = .returned (.bool true) ∧ B3 w a b c w') := fun W h => Above_3 a b _ hab1 W h
  have C3 : Hid (∀ W, B3 w a b c W → Calls Try.prog 20 #[.agg #[.int .i64 b.1, .int .i64 b.2.1, .int .i64 b.2.2], .agg #[.int .i64 a.1, .int .i64 a.2.1, .int .i64 a.2.2]] W fun e w' => e = .returned (.bool false) ∧ B3 w a b c w') := fun W h => Above_3 b a _ hba0 W h
  have C4 : Hid (∀ W, B3 w a b c W → Calls Try.prog 20 #[.agg #[.int .i64 a.1, .int .i64 a.2.1, .int .i64 a.2.2], .agg #[.int .i64 b.1, .int .i64 b.2.1, .int .i64 b.2.2]] W fun e w' => e = .returned (.bool true) ∧ B3 w a b c w') := fun W h => Above_3 a b _ hab1 W h
  have C5 : Hid (∀ W, B3 w a b c W → Calls Try.prog 20 #[.agg #[.int .i64 b.1, .int .i64 b.2.1, .int .i64 b.2.2], .agg #[.int .i64 c.1, .int .i64 c.2.1, .int .i64 c.2.2]] W fun e w' => e = .returned (.bool true) ∧ B3 w a b c w') := fun W h => Above_3 b c _ hbc1 W h
  have C6 : Hid (∀ W, B3 w a b c W → Calls Try.prog 20 #[.agg #[.int .i64 a.1, .int .i64 a.2.1, .int .i64 a.2.2], .agg #[.int .i64 c.1, .int .i64 c.2.1, .int .i64 c.2.2]] W fun e w' => e = .returned (.bool true) ∧ B3 w a b c w') := fun W h => Above_3 a c _ hac1 W h
  have C7 : Hid (∀ W, B3 w a b c W → Calls Try.prog 18 #[.agg #[.int .i64 a.1, .int .i64 a.2.1, .int .i64 a.2.2]] W fun e w' => e = .returned (.bool true) ∧ B3 w a b c w') := fun W h => Good_3 a _ hga1 W h
  have C8 : Hid (∀ W, B3 w a b c W → Calls Try.prog 18 #[.agg #[.int .i64 b.1, .int .i64 b.2.1, .int .i64 b.2.2]] W fun e w' => e = .returned (.bool true) ∧ B3 w a b c w') := fun W h => Good_3 b _ hgb1 W h
  have C9 : Hid (∀ W, B3 w a b c W → Calls Try.prog 20 #[.agg #[.int .i64 a.1, .int .i64 a.2.1, .int .i64 a.2.2], .agg #[.int .i64 b.1, .int .i64 b.2.1, .int .i64 b.2.2]] W fun e w' => e = .returned (.bool true) ∧ B3 w a b c w') := fun W h => Above_3 a b _ hab1 W h
  have heq : ∀ W, (Op.equalIn 10000 28 (.agg #[.int .i64 a.1, .int .i64 a.2.1, .int .i64 a.2.2]) (.agg #[.int .i64 b.1, .int .i64 b.2.1, .int .i64 b.2.2])).run Try.prog W = .ok false W := fun W => by rw [eqMe a b W, hee]
  have HT := B3.new w a b c
  obtain ⟨fs, hum⟩ := undMe
  clear haa0 hab1 hac1 hba0 hbc1 hga1 hgb1 hee
  obtain ⟨a0, a1, a2⟩ := a
  obtain ⟨b0, b1, b2⟩ := b
  obtain ⟨c0, c1, c2⟩ := c
  simp only at *
  go_enter Try.func6, Try.ntmps6
  go_wp2_with (first
    | (go_at_call 8; refine (C0.out _ HT).mono ?_; clear C0 HT; rintro e W0 ⟨rfl, HT⟩; have R0 := HT.r0.r; have R1 := HT.r1.r; have R2 := HT.r2.r; have N0 := (cells3 HT.r0).1; have N1 := (cells3 HT.r1).1; simp only at R0 R1 R2 N0 N1)
    | (go_at_call 20; refine (C1.out _ HT).mono ?_; clear C1 HT R0 R1 R2 N0 N1; rintro e W1 ⟨rfl, HT⟩; have R0 := HT.r0.r; have R1 := HT.r1.r; have R2 := HT.r2.r; have N0 := (cells3 HT.r0).1; have N1 := (cells3 HT.r1).1; simp only at R0 R1 R2 N0 N1)
    | (go_at_call 20; refine (C2.out _ HT).mono ?_; clear C2 HT R0 R1 R2 N0 N1; rintro e W2 ⟨rfl, HT⟩; have R0 := HT.r0.r; have R1 := HT.r1.r; have R2 := HT.r2.r; have N0 := (cells3 HT.r0).1; have N1 := (cells3 HT.r1).1; simp only at R0 R1 R2 N0 N1)
    | (go_at_call 20; refine (C3.out _ HT).mono ?_; clear C3 HT R0 R1 R2 N0 N1; rintro e W3 ⟨rfl, HT⟩; have R0 := HT.r0.r; have R1 := HT.r1.r; have R2 := HT.r2.r; have N0 := (cells3 HT.r0).1; have N1 := (cells3 HT.r1).1; simp only at R0 R1 R2 N0 N1)
    | (go_at_call 20; refine (C4.out _ HT).mono ?_; clear C4 HT R0 R1 R2 N0 N1; rintro e W4 ⟨rfl, HT⟩; have R0 := HT.r0.r; have R1 := HT.r1.r; have R2 := HT.r2.r; have N0 := (cells3 HT.r0).1; have N1 := (cells3 HT.r1).1; simp only at R0 R1 R2 N0 N1)
    | (go_at_call 20; refine (C5.out _ HT).mono ?_; clear C5 HT R0 R1 R2 N0 N1; rintro e W5 ⟨rfl, HT⟩; have R0 := HT.r0.r; have R1 := HT.r1.r; have R2 := HT.r2.r; have N0 := (cells3 HT.r0).1; have N1 := (cells3 HT.r1).1; simp only at R0 R1 R2 N0 N1)
    | (go_at_call 20; refine (C6.out _ HT).mono ?_; clear C6 HT R0 R1 R2 N0 N1; rintro e W6 ⟨rfl, HT⟩; have R0 := HT.r0.r; have R1 := HT.r1.r; have R2 := HT.r2.r; have N0 := (cells3 HT.r0).1; have N1 := (cells3 HT.r1).1; simp only at R0 R1 R2 N0 N1)
    | (go_at_call 18; refine (C7.out _ HT).mono ?_; clear C7 HT R0 R1 R2 N0 N1; rintro e W7 ⟨rfl, HT⟩; have R0 := HT.r0.r; have R1 := HT.r1.r; have R2 := HT.r2.r; have N0 := (cells3 HT.r0).1; have N1 := (cells3 HT.r1).1; simp only at R0 R1 R2 N0 N1)
    | (go_at_call 18; refine (C8.out _ HT).mono ?_; clear C8 HT R0 R1 R2 N0 N1; rintro e W8 ⟨rfl, HT⟩; have R0 := HT.r0.r; have R1 := HT.r1.r; have R2 := HT.r2.r; have N0 := (cells3 HT.r0).1; have N1 := (cells3 HT.r1).1; simp only at R0 R1 R2 N0 N1)
    | (go_at_call 20; refine (C9.out _ HT).mono ?_; clear C9 HT R0 R1 R2 N0 N1; rintro e W9 ⟨rfl, HT⟩; have R0 := HT.r0.r; have R1 := HT.r1.r; have R2 := HT.r2.r; have N0 := (cells3 HT.r0).1; have N1 := (cells3 HT.r1).1; simp only at R0 R1 R2 N0 N1)
    | (refine wl_midG rfl 28 _ rfl w.heap.size 0 rfl [.int .i64 a0, .int .i64 a1, .int .i64 a2] _ R0 hum rfl infoMe ?_)
    | (refine wl_midG rfl 28 _ rfl (w.heap.size + 1) 0 rfl [.int .i64 b0, .int .i64 b1, .int .i64 b2] _ R1 hum rfl infoMe ?_)
    | (refine wl_midG rfl 28 _ rfl (w.heap.size + 2) 0 rfl [.int .i64 c0, .int .i64 c1, .int .i64 c2] _ R2 hum rfl infoMe ?_))
  clear R0 R1 R2 N0 N1
  (try simp only [List.append_eq, List.cons_append, List.nil_append])
  refine wp_region_noPanic ?_
  refine wp_region_held_drew (S := fun U => U.rangeAt w.heap.size 0 [.int .i64 a0, .int .i64 a1, .int .i64 a2] ∧ U.rangeAt (w.heap.size + 1) 0 [.int .i64 b0, .int .i64 b1, .int .i64 b2]) (by kernel_rfl) (⟨((HT.grow ((Bl.refl _).drewN 1))).r0.r, ((HT.grow ((Bl.refl _).drewN 1))).r1.r⟩) (fun hHeld => ?_)
  refine wpAnyH_take (i := 0) rfl (by kernel_rfl) (by kernel_rfl) (by kernel_rfl) (fun _ _ _ h => h) (yi_move (by kernel_rfl) rfl rfl) (by assumption) ?_
  simp only [Act.put, List.getElem_toArray, List.getElem_cons_succ, List.getElem_cons_zero, List.setIfInBounds_toArray, List.set_cons_zero, List.set_cons_succ]
  refine wpAnyH_take (i := 1) rfl (by kernel_rfl) (by kernel_rfl) (by kernel_rfl) (fun _ _ _ h => h) (yi_move (by kernel_rfl) rfl rfl) (by assumption) ?_
  simp only [Act.put, List.getElem_toArray, List.getElem_cons_succ, List.getElem_cons_zero, List.setIfInBounds_toArray, List.set_cons_zero, List.set_cons_succ]
  refine wpAnyH_take (i := 2) (v := .agg (List.toArray [.int .i64 a0, .int .i64 a1, .int .i64 a2])) rfl (by kernel_rfl) (by kernel_rfl) (by kernel_rfl) (fun _ _ _ h => h) (yieldsIf_load_mid (by kernel_rfl) _ (.tmp 3) (by kernel_rfl) w.heap.size 0 (by kernel_rfl) [.int .i64 a0, .int .i64 a1, .int .i64 a2] _ (fun W hW => hW.1) hum rfl infoMe) (by assumption) ?_
  simp only [Act.put, List.getElem_toArray, List.getElem_cons_succ, List.getElem_cons_zero, List.setIfInBounds_toArray, List.set_cons_zero, List.set_cons_succ]
  refine wpAnyH_take (i := 3) (v := .agg (List.toArray [.int .i64 b0, .int .i64 b1, .int .i64 b2])) rfl (by kernel_rfl) (by kernel_rfl) (by kernel_rfl) (fun _ _ _ h => h) (yieldsIf_load_mid (by kernel_rfl) _ (.tmp 4) (by kernel_rfl) (w.heap.size + 1) 0 (by kernel_rfl) [.int .i64 b0, .int .i64 b1, .int .i64 b2] _ (fun W hW => hW.2) hum rfl infoMe) (by assumption) ?_
  simp only [Act.put, List.getElem_toArray, List.getElem_cons_succ, List.getElem_cons_zero, List.setIfInBounds_toArray, List.set_cons_zero, List.set_cons_succ]
  refine wpAnyH_take (i := 4) (v := ?_) rfl (by kernel_rfl) (by kernel_rfl) (by kernel_rfl) (fun _ _ _ h => h) (Or.inl ⟨by kernel_rfl, ?_⟩) (by assumption) ?_
  rotate_left
  · (intro w hSw; (try dsimp only at hSw); go_simp; (try with_reducible rfl))
  simp only [Act.put, List.getElem_toArray, List.getElem_cons_succ, List.getElem_cons_zero, List.setIfInBounds_toArray, List.set_cons_zero, List.set_cons_succ]
  refine wpAnyH_take (i := 5) (v := .agg (List.toArray [.int .i64 a0, .int .i64 a1, .int .i64 a2])) rfl (by kernel_rfl) (by kernel_rfl) (by kernel_rfl) (fun _ _ _ h => h) (yieldsIf_load_mid (by kernel_rfl) _ (.tmp 3) (by kernel_rfl) w.heap.size 0 (by kernel_rfl) [.int .i64 a0, .int .i64 a1, .int .i64 a2] _ (fun W hW => hW.1) hum rfl infoMe) (by assumption) ?_
  simp only [Act.put, List.getElem_toArray, List.getElem_cons_succ, List.getElem_cons_zero, List.setIfInBounds_toArray, List.set_cons_zero, List.set_cons_succ]
  refine wpAnyH_take (i := 6) (v := .agg (List.toArray [.int .i64 b0, .int .i64 b1, .int .i64 b2])) rfl (by kernel_rfl) (by kernel_rfl) (by kernel_rfl) (fun _ _ _ h => h) (yieldsIf_load_mid (by kernel_rfl) _ (.tmp 4) (by kernel_rfl) (w.heap.size + 1) 0 (by kernel_rfl) [.int .i64 b0, .int .i64 b1, .int .i64 b2] _ (fun W hW => hW.2) hum rfl infoMe) (by assumption) ?_
  simp only [Act.put, List.getElem_toArray, List.getElem_cons_succ, List.getElem_cons_zero, List.setIfInBounds_toArray, List.set_cons_zero, List.set_cons_succ]
  refine wpAnyH_ready (rs := [7]) (by kernel_rfl) (by simp) ?_
  refine AllReadyH.cons (o := _) rfl (fun K hK => ?_) AllReadyH.nil
  go_simp
  go_at_call 20; refine (C9.out _ (HT.grow ((Bl.refl _).drewN 1))).mono ?_; rintro e V8 ⟨rfl, HB8⟩
  refine hK.out _ _ (⟨(HB8).r0.r, (HB8).r1.r⟩) (fun hHeld => ?_)
  clear hK K
  (try simp only [Act.put, List.getElem_toArray, List.getElem_cons_succ, List.getElem_cons_zero, List.setIfInBounds_toArray, List.set_cons_zero, List.set_cons_succ])
  refine wpAnyH_take (i := 8) rfl (by kernel_rfl) (by kernel_rfl) (by kernel_rfl) (fun _ _ _ h => h) (yi_move (by kernel_rfl) rfl rfl) (by assumption) ?_
  simp only [Act.put, List.getElem_toArray, List.getElem_cons_succ, List.getElem_cons_zero, List.setIfInBounds_toArray, List.set_cons_zero, List.set_cons_succ]
  refine wpAnyH_take (i := 9) (v := undef) rfl (by kernel_rfl) (by kernel_rfl) (by kernel_rfl) (fun _ _ _ h => h) (Or.inr ⟨by kernel_rfl, rfl⟩) (by assumption) ?_
  simp only [Act.put, List.getElem_toArray, List.getElem_cons_succ, List.getElem_cons_zero, List.setIfInBounds_toArray, List.set_cons_zero, List.set_cons_succ]
  refine wpAnyH_take (i := 10) (v := undef) rfl (by kernel_rfl) (by kernel_rfl) (by kernel_rfl) (fun _ _ _ h => h) (Or.inr ⟨by kernel_rfl, rfl⟩) (by assumption) ?_
  simp only [Act.put, List.getElem_toArray, List.getElem_cons_succ, List.getElem_cons_zero, List.setIfInBounds_toArray, List.set_cons_zero, List.set_cons_succ]
  refine wpAnyH_take (i := 11) (v := undef) rfl (by kernel_rfl) (by kernel_rfl) (by kernel_rfl) (fun _ _ _ h => h) (Or.inr ⟨by kernel_rfl, rfl⟩) (by assumption) ?_
  simp only [Act.put, List.getElem_toArray, List.getElem_cons_succ, List.getElem_cons_zero, List.setIfInBounds_toArray, List.set_cons_zero, List.set_cons_succ]
  refine wpAnyH_take (i := 12) (v := ?_) rfl (by kernel_rfl) (by kernel_rfl) (by kernel_rfl) (fun _ _ _ h => h) (Or.inl ⟨by kernel_rfl, ?_⟩) (by assumption) ?_
  rotate_left
  · (intro w hSw; (try dsimp only at hSw); go_simp; (try with_reducible rfl))
  simp only [Act.put, List.getElem_toArray, List.getElem_cons_succ, List.getElem_cons_zero, List.setIfInBounds_toArray, List.set_cons_zero, List.set_cons_succ]
  refine wpAnyH_take (i := 13) (v := ?_) rfl (by kernel_rfl) (by kernel_rfl) (by kernel_rfl) (fun _ _ _ h => h) (Or.inl ⟨by kernel_rfl, ?_⟩) (by assumption) ?_
  rotate_left
  · (intro w hSw; (try dsimp only at hSw); go_simp; (try with_reducible rfl))
  simp only [Act.put, List.getElem_toArray, List.getElem_cons_succ, List.getElem_cons_zero, List.setIfInBounds_toArray, List.set_cons_zero, List.set_cons_succ]
  refine wpAnyH_take (i := 14) (v := ?_) rfl (by kernel_rfl) (by kernel_rfl) (by kernel_rfl) (fun _ _ _ h => h) (Or.inl ⟨by kernel_rfl, ?_⟩) (by assumption) ?_
  rotate_left
  · (intro w hSw; (try dsimp only at hSw); go_simp; (try with_reducible rfl))
  simp only [Act.put, List.getElem_toArray, List.getElem_cons_succ, List.getElem_cons_zero, List.setIfInBounds_toArray, List.set_cons_zero, List.set_cons_succ]
  refine wpAnyH_take (i := 15) rfl (by kernel_rfl) (by kernel_rfl) (by kernel_rfl) (fun _ _ _ h => h) (yi_move (by kernel_rfl) rfl rfl) (by assumption) ?_
  simp only [Act.put, List.getElem_toArray, List.getElem_cons_succ, List.getElem_cons_zero, List.setIfInBounds_toArray, List.set_cons_zero, List.set_cons_succ]
  refine wpAnyH_take (i := 16) (v := undef) rfl (by kernel_rfl) (by kernel_rfl) (by kernel_rfl) (fun _ _ _ h => h) (Or.inr ⟨by kernel_rfl, rfl⟩) (by assumption) ?_
  simp only [Act.put, List.getElem_toArray, List.getElem_cons_succ, List.getElem_cons_zero, List.setIfInBounds_toArray, List.set_cons_zero, List.set_cons_succ]
  refine wpAnyH_take (i := 17) (v := undef) rfl (by kernel_rfl) (by kernel_rfl) (by kernel_rfl) (fun _ _ _ h => h) (Or.inr ⟨by kernel_rfl, rfl⟩) (by assumption) ?_
  simp only [Act.put, List.getElem_toArray, List.getElem_cons_succ, List.getElem_cons_zero, List.setIfInBounds_toArray, List.set_cons_zero, List.set_cons_succ]
  refine wpAnyH_take (i := 18) (v := undef) rfl (by kernel_rfl) (by kernel_rfl) (by kernel_rfl) (fun _ _ _ h => h) (Or.inr ⟨by kernel_rfl, rfl⟩) (by assumption) ?_
  simp only [Act.put, List.getElem_toArray, List.getElem_cons_succ, List.getElem_cons_zero, List.setIfInBounds_toArray, List.set_cons_zero, List.set_cons_succ]
  refine wpAnyH_take (i := 19) (v := undef) rfl (by kernel_rfl) (by kernel_rfl) (by kernel_rfl) (fun _ _ _ h => h) (Or.inr ⟨by kernel_rfl, rfl⟩) (by assumption) ?_
  simp only [Act.put, List.getElem_toArray, List.getElem_cons_succ, List.getElem_cons_zero, List.setIfInBounds_toArray, List.set_cons_zero, List.set_cons_succ]
  refine wpAnyH_take (i := 20) (v := undef) rfl (by kernel_rfl) (by kernel_rfl) (by kernel_rfl) (fun _ _ _ h => h) (Or.inr ⟨by kernel_rfl, rfl⟩) (by assumption) ?_
  simp only [Act.put, List.getElem_toArray, List.getElem_cons_succ, List.getElem_cons_zero, List.setIfInBounds_toArray, List.set_cons_zero, List.set_cons_succ]
  refine wpAnyH_take (i := 21) (v := undef) rfl (by kernel_rfl) (by kernel_rfl) (by kernel_rfl) (fun _ _ _ h => h) (Or.inr ⟨by kernel_rfl, rfl⟩) (by assumption) ?_
  simp only [Act.put, List.getElem_toArray, List.getElem_cons_succ, List.getElem_cons_zero, List.setIfInBounds_toArray, List.set_cons_zero, List.set_cons_succ]
  refine wpAnyH_take (i := 22) (v := undef) rfl (by kernel_rfl) (by kernel_rfl) (by kernel_rfl) (fun _ _ _ h => h) (Or.inr ⟨by kernel_rfl, rfl⟩) (by assumption) ?_
  simp only [Act.put, List.getElem_toArray, List.getElem_cons_succ, List.getElem_cons_zero, List.setIfInBounds_toArray, List.set_cons_zero, List.set_cons_succ]
  refine wpAnyH_take (i := 23) (v := undef) rfl (by kernel_rfl) (by kernel_rfl) (by kernel_rfl) (fun _ _ _ h => h) (Or.inr ⟨by kernel_rfl, rfl⟩) (by assumption) ?_
  simp only [Act.put, List.getElem_toArray, List.getElem_cons_succ, List.getElem_cons_zero, List.setIfInBounds_toArray, List.set_cons_zero, List.set_cons_succ]
  refine wpAnyH_take (i := 24) (v := undef) rfl (by kernel_rfl) (by kernel_rfl) (by kernel_rfl) (fun _ _ _ h => h) (Or.inr ⟨by kernel_rfl, rfl⟩) (by assumption) ?_
  simp only [Act.put, List.getElem_toArray, List.getElem_cons_succ, List.getElem_cons_zero, List.setIfInBounds_toArray, List.set_cons_zero, List.set_cons_succ]
  refine wpAnyH_take (i := 25) (v := undef) rfl (by kernel_rfl) (by kernel_rfl) (by kernel_rfl) (fun _ _ _ h => h) (Or.inr ⟨by kernel_rfl, rfl⟩) (by assumption) ?_
  simp only [Act.put, List.getElem_toArray, List.getElem_cons_succ, List.getElem_cons_zero, List.setIfInBounds_toArray, List.set_cons_zero, List.set_cons_succ]
  refine wpAnyH_take (i := 26) (v := undef) rfl (by kernel_rfl) (by kernel_rfl) (by kernel_rfl) (fun _ _ _ h => h) (Or.inr ⟨by kernel_rfl, rfl⟩) (by assumption) ?_
  simp only [Act.put, List.getElem_toArray, List.getElem_cons_succ, List.getElem_cons_zero, List.setIfInBounds_toArray, List.set_cons_zero, List.set_cons_succ]
  refine wpAnyH_take (i := 27) (v := undef) rfl (by kernel_rfl) (by kernel_rfl) (by kernel_rfl) (fun _ _ _ h => h) (Or.inr ⟨by kernel_rfl, rfl⟩) (by assumption) ?_
  simp only [Act.put, List.getElem_toArray, List.getElem_cons_succ, List.getElem_cons_zero, List.setIfInBounds_toArray, List.set_cons_zero, List.set_cons_succ]
  refine wpAnyH_take (i := 28) (v := undef) rfl (by kernel_rfl) (by kernel_rfl) (by kernel_rfl) (fun _ _ _ h => h) (Or.inr ⟨by kernel_rfl, rfl⟩) (by assumption) ?_
  simp only [Act.put, List.getElem_toArray, List.getElem_cons_succ, List.getElem_cons_zero, List.setIfInBounds_toArray, List.set_cons_zero, List.set_cons_succ]
  refine wpAnyH_take (i := 29) (v := undef) rfl (by kernel_rfl) (by kernel_rfl) (by kernel_rfl) (fun _ _ _ h => h) (Or.inr ⟨by kernel_rfl, rfl⟩) (by assumption) ?_
  simp only [Act.put, List.getElem_toArray, List.getElem_cons_succ, List.getElem_cons_zero, List.setIfInBounds_toArray, List.set_cons_zero, List.set_cons_succ]
  refine wpAnyH_take (i := 30) (v := ?_) rfl (by kernel_rfl) (by kernel_rfl) (by kernel_rfl) (fun _ _ _ h => h) (Or.inl ⟨by kernel_rfl, ?_⟩) (by assumption) ?_
  rotate_left
  · (intro w hSw; (try dsimp only at hSw); go_simp; (try with_reducible rfl))
  simp only [Act.put, List.getElem_toArray, List.getElem_cons_succ, List.getElem_cons_zero, List.setIfInBounds_toArray, List.set_cons_zero, List.set_cons_succ]
  refine wpAnyH_take (i := 31) rfl (by kernel_rfl) (by kernel_rfl) (by kernel_rfl) (fun _ _ _ h => h) (yi_assign (by kernel_rfl) rfl rfl) (by assumption) ?_
  simp only [Act.put, List.getElem_toArray, List.getElem_cons_succ, List.getElem_cons_zero, List.setIfInBounds_toArray, List.set_cons_zero, List.set_cons_succ]
  refine wpAnyH_done (by kernel_rfl) ?_ _
  refine NoPanic.normal ?_
  go_wp2_with fail
  go_ret
  exact ⟨rfl, (HB8).bl⟩
set_option maxRecDepth 8000 in
set_option maxHeartbeats 16000000 in
theorem kor_2 (w : World) (a b c : K.Me) (haa0 : K.above a a = false) (hab1 : K.above a b = true) (hba0 : K.above b a = false) (hbc0 : K.above b c = false) (hga1 : K.good a = true) (hgb1 : K.good b = true) (hnn : (a.1 == b.1) = true) (hee : decide (a = b) = false) :
    Calls Try.prog 6 #[.agg #[.int .i64 a.1, .int .i64 a.2.1, .int .i64 a.2.2], .agg #[.int .i64 b.1, .int .i64 b.2.1, .int .i64 b.2.2], .agg #[.int .i64 c.1, .int .i64 c.2.1, .int .i64 c.2.2]] w fun e w' => e = .returned (.bool true) ∧ Bl w w' := by
  have C0 : Hid (∀ W, B3 w a b c W → Calls Try.prog 8 #[] W fun e w' => e = .returned (.bool true) ∧ B3 w a b c w') := fun W h => (awake_10 W).mono fun e w' ⟨h1, h2⟩ => ⟨h1, h.grow h2⟩
  have C1 : Hid (∀ W, B3 w a b c W → Calls Try.prog 20 #[.agg #[.int .i64 a.1, .int .i64 a.2.1, .int .i64 a.2.2], .agg #[.int .i64 a.1, .int .i64 a.2.1, .int .i64 a.2.2]] W fun e w' => e = .returned (.bool false) ∧ B3 w a b c w') := fun W h => Above_3 a a _ haa0 W h
  have C2 : Hid (∀ W, B3 w a b c W → Calls Try.prog 20 #[.agg #[.int .i64 a.1, .int .i64 a.2.1, .int .i64 a.2.2], .agg #[.int .i64 b.1, .int .i64 b.2.1, .int .i64 b.2.2]] W fun e w' => e = .returned (.bool true) ∧ B3 w a b c w') := fun W h => Above_3 a b _ hab1 W h
  have C3 : Hid (∀ W, B3 w a b c W → Calls Try.prog 20 #[.agg #[.int .i64 b.1, .int .i64 b.2.1, .int .i64 b.2.2], .agg #[.int .i64 a.1, .int .i64 a.2.1, .int .i64 a.2.2]] W fun e w' => e = .returned (.bool false) ∧ B3 w a b c w') := fun W h => Above_3 b a _ hba0 W h
  have C4 : Hid (∀ W, B3 w a b c W → Calls Try.prog 20 #[.agg #[.int .i64 a.1, .int .i64 a.2.1, .int .i64 a.2.2], .agg #[.int .i64 b.1, .int .i64 b.2.1, .int .i64 b.2.2]] W fun e w' => e = .returned (.bool true) ∧ B3 w a b c w') := fun W h => Above_3 a b _ hab1 W h
  have C5 : Hid (∀ W, B3 w a b c W → Calls Try.prog 20 #[.agg #[.int .i64 b.1, .int .i64 b.2.1, .int .i64 b.2.2], .agg #[.int .i64 c.1, .int .i64 c.2.1, .int .i64 c.2.2]] W fun e w' => e = .returned (.bool false) ∧ B3 w a b c w') := fun W h => Above_3 b c _ hbc0 W h
  have C6 : Hid (∀ W, B3 w a b c W → Calls Try.prog 18 #[.agg #[.int .i64 a.1, .int .i64 a.2.1, .int .i64 a.2.2]] W fun e w' => e = .returned (.bool true) ∧ B3 w a b c w') := fun W h => Good_3 a _ hga1 W h
  have C7 : Hid (∀ W, B3 w a b c W → Calls Try.prog 18 #[.agg #[.int .i64 b.1, .int .i64 b.2.1, .int .i64 b.2.2]] W fun e w' => e = .returned (.bool true) ∧ B3 w a b c w') := fun W h => Good_3 b _ hgb1 W h
  have C8 : Hid (∀ W, B3 w a b c W → Calls Try.prog 20 #[.agg #[.int .i64 a.1, .int .i64 a.2.1, .int .i64 a.2.2], .agg #[.int .i64 b.1, .int .i64 b.2.1, .int .i64 b.2.2]] W fun e w' => e = .returned (.bool true) ∧ B3 w a b c w') := fun W h => Above_3 a b _ hab1 W h
  have heq : ∀ W, (Op.equalIn 10000 28 (.agg #[.int .i64 a.1, .int .i64 a.2.1, .int .i64 a.2.2]) (.agg #[.int .i64 b.1, .int .i64 b.2.1, .int .i64 b.2.2])).run Try.prog W = .ok false W := fun W => by rw [eqMe a b W, hee]
  have HT := B3.new w a b c
  obtain ⟨fs, hum⟩ := undMe
  clear haa0 hab1 hba0 hbc0 hga1 hgb1 hee
  obtain ⟨a0, a1, a2⟩ := a
  obtain ⟨b0, b1, b2⟩ := b
  obtain ⟨c0, c1, c2⟩ := c
  simp only at *
  go_enter Try.func6, Try.ntmps6
  go_wp2_with (first
    | (go_at_call 8; refine (C0.out _ HT).mono ?_; clear C0 HT; rintro e W0 ⟨rfl, HT⟩; have R0 := HT.r0.r; have R1 := HT.r1.r; have R2 := HT.r2.r; have N0 := (cells3 HT.r0).1; have N1 := (cells3 HT.r1).1; simp only at R0 R1 R2 N0 N1)
    | (go_at_call 20; refine (C1.out _ HT).mono ?_; clear C1 HT R0 R1 R2 N0 N1; rintro e W1 ⟨rfl, HT⟩; have R0 := HT.r0.r; have R1 := HT.r1.r; have R2 := HT.r2.r; have N0 := (cells3 HT.r0).1; have N1 := (cells3 HT.r1).1; simp only at R0 R1 R2 N0 N1)
    | (go_at_call 20; refine (C2.out _ HT).mono ?_; clear C2 HT R0 R1 R2 N0 N1; rintro e W2 ⟨rfl, HT⟩; have R0 := HT.r0.r; have R1 := HT.r1.r; have R2 := HT.r2.r; have N0 := (cells3 HT.r0).1; have N1 := (cells3 HT.r1).1; simp only at R0 R1 R2 N0 N1)
    | (go_at_call 20; refine (C3.out _ HT).mono ?_; clear C3 HT R0 R1 R2 N0 N1; rintro e W3 ⟨rfl, HT⟩; have R0 := HT.r0.r; have R1 := HT.r1.r; have R2 := HT.r2.r; have N0 := (cells3 HT.r0).1; have N1 := (cells3 HT.r1).1; simp only at R0 R1 R2 N0 N1)
    | (go_at_call 20; refine (C4.out _ HT).mono ?_; clear C4 HT R0 R1 R2 N0 N1; rintro e W4 ⟨rfl, HT⟩; have R0 := HT.r0.r; have R1 := HT.r1.r; have R2 := HT.r2.r; have N0 := (cells3 HT.r0).1; have N1 := (cells3 HT.r1).1; simp only at R0 R1 R2 N0 N1)
    | (go_at_call 20; refine (C5.out _ HT).mono ?_; clear C5 HT R0 R1 R2 N0 N1; rintro e W5 ⟨rfl, HT⟩; have R0 := HT.r0.r; have R1 := HT.r1.r; have R2 := HT.r2.r; have N0 := (cells3 HT.r0).1; have N1 := (cells3 HT.r1).1; simp only at R0 R1 R2 N0 N1)
    | (go_at_call 18; refine (C6.out _ HT).mono ?_; clear C6 HT R0 R1 R2 N0 N1; rintro e W6 ⟨rfl, HT⟩; have R0 := HT.r0.r; have R1 := HT.r1.r; have R2 := HT.r2.r; have N0 := (cells3 HT.r0).1; have N1 := (cells3 HT.r1).1; simp only at R0 R1 R2 N0 N1)
    | (go_at_call 18; refine (C7.out _ HT).mono ?_; clear C7 HT R0 R1 R2 N0 N1; rintro e W7 ⟨rfl, HT⟩; have R0 := HT.r0.r; have R1 := HT.r1.r; have R2 := HT.r2.r; have N0 := (cells3 HT.r0).1; have N1 := (cells3 HT.r1).1; simp only at R0 R1 R2 N0 N1)
    | (go_at_call 20; refine (C8.out _ HT).mono ?_; clear C8 HT R0 R1 R2 N0 N1; rintro e W8 ⟨rfl, HT⟩; have R0 := HT.r0.r; have R1 := HT.r1.r; have R2 := HT.r2.r; have N0 := (cells3 HT.r0).1; have N1 := (cells3 HT.r1).1; simp only at R0 R1 R2 N0 N1)
    | (refine wl_midG rfl 28 _ rfl w.heap.size 0 rfl [.int .i64 a0, .int .i64 a1, .int .i64 a2] _ R0 hum rfl infoMe ?_)
    | (refine wl_midG rfl 28 _ rfl (w.heap.size + 1) 0 rfl [.int .i64 b0, .int .i64 b1, .int .i64 b2] _ R1 hum rfl infoMe ?_)
    | (refine wl_midG rfl 28 _ rfl (w.heap.size + 2) 0 rfl [.int .i64 c0, .int .i64 c1, .int .i64 c2] _ R2 hum rfl infoMe ?_))
  clear R0 R1 R2 N0 N1
  (try simp only [List.append_eq, List.cons_append, List.nil_append])
  refine wp_region_noPanic ?_
  refine wp_region_held_drew (S := fun U => U.rangeAt w.heap.size 0 [.int .i64 a0, .int .i64 a1, .int .i64 a2] ∧ U.rangeAt (w.heap.size + 1) 0 [.int .i64 b0, .int .i64 b1, .int .i64 b2]) (by kernel_rfl) (⟨((HT.grow ((Bl.refl _).drewN 1))).r0.r, ((HT.grow ((Bl.refl _).drewN 1))).r1.r⟩) (fun hHeld => ?_)
  refine wpAnyH_take (i := 0) rfl (by kernel_rfl) (by kernel_rfl) (by kernel_rfl) (fun _ _ _ h => h) (yi_move (by kernel_rfl) rfl rfl) (by assumption) ?_
  simp only [Act.put, List.getElem_toArray, List.getElem_cons_succ, List.getElem_cons_zero, List.setIfInBounds_toArray, List.set_cons_zero, List.set_cons_succ]
  refine wpAnyH_take (i := 1) rfl (by kernel_rfl) (by kernel_rfl) (by kernel_rfl) (fun _ _ _ h => h) (yi_move (by kernel_rfl) rfl rfl) (by assumption) ?_
  simp only [Act.put, List.getElem_toArray, List.getElem_cons_succ, List.getElem_cons_zero, List.setIfInBounds_toArray, List.set_cons_zero, List.set_cons_succ]
  refine wpAnyH_take (i := 2) (v := .agg (List.toArray [.int .i64 a0, .int .i64 a1, .int .i64 a2])) rfl (by kernel_rfl) (by kernel_rfl) (by kernel_rfl) (fun _ _ _ h => h) (yieldsIf_load_mid (by kernel_rfl) _ (.tmp 3) (by kernel_rfl) w.heap.size 0 (by kernel_rfl) [.int .i64 a0, .int .i64 a1, .int .i64 a2] _ (fun W hW => hW.1) hum rfl infoMe) (by assumption) ?_
  simp only [Act.put, List.getElem_toArray, List.getElem_cons_succ, List.getElem_cons_zero, List.setIfInBounds_toArray, List.set_cons_zero, List.set_cons_succ]
  refine wpAnyH_take (i := 3) (v := .agg (List.toArray [.int .i64 b0, .int .i64 b1, .int .i64 b2])) rfl (by kernel_rfl) (by kernel_rfl) (by kernel_rfl) (fun _ _ _ h => h) (yieldsIf_load_mid (by kernel_rfl) _ (.tmp 4) (by kernel_rfl) (w.heap.size + 1) 0 (by kernel_rfl) [.int .i64 b0, .int .i64 b1, .int .i64 b2] _ (fun W hW => hW.2) hum rfl infoMe) (by assumption) ?_
  simp only [Act.put, List.getElem_toArray, List.getElem_cons_succ, List.getElem_cons_zero, List.setIfInBounds_toArray, List.set_cons_zero, List.set_cons_succ]
  refine wpAnyH_take (i := 4) (v := ?_) rfl (by kernel_rfl) (by kernel_rfl) (by kernel_rfl) (fun _ _ _ h => h) (Or.inl ⟨by kernel_rfl, ?_⟩) (by assumption) ?_
  rotate_left
  · (intro w hSw; (try dsimp only at hSw); go_simp; (try with_reducible rfl))
  simp only [Act.put, List.getElem_toArray, List.getElem_cons_succ, List.getElem_cons_zero, List.setIfInBounds_toArray, List.set_cons_zero, List.set_cons_succ]
  refine wpAnyH_take (i := 5) (v := .agg (List.toArray [.int .i64 a0, .int .i64 a1, .int .i64 a2])) rfl (by kernel_rfl) (by kernel_rfl) (by kernel_rfl) (fun _ _ _ h => h) (yieldsIf_load_mid (by kernel_rfl) _ (.tmp 3) (by kernel_rfl) w.heap.size 0 (by kernel_rfl) [.int .i64 a0, .int .i64 a1, .int .i64 a2] _ (fun W hW => hW.1) hum rfl infoMe) (by assumption) ?_
  simp only [Act.put, List.getElem_toArray, List.getElem_cons_succ, List.getElem_cons_zero, List.setIfInBounds_toArray, List.set_cons_zero, List.set_cons_succ]
  refine wpAnyH_take (i := 6) (v := .agg (List.toArray [.int .i64 b0, .int .i64 b1, .int .i64 b2])) rfl (by kernel_rfl) (by kernel_rfl) (by kernel_rfl) (fun _ _ _ h => h) (yieldsIf_load_mid (by kernel_rfl) _ (.tmp 4) (by kernel_rfl) (w.heap.size + 1) 0 (by kernel_rfl) [.int .i64 b0, .int .i64 b1, .int .i64 b2] _ (fun W hW => hW.2) hum rfl infoMe) (by assumption) ?_
  simp only [Act.put, List.getElem_toArray, List.getElem_cons_succ, List.getElem_cons_zero, List.setIfInBounds_toArray, List.set_cons_zero, List.set_cons_succ]
  refine wpAnyH_ready (rs := [7]) (by kernel_rfl) (by simp) ?_
  refine AllReadyH.cons (o := _) rfl (fun K hK => ?_) AllReadyH.nil
  go_simp
  go_at_call 20; refine (C8.out _ (HT.grow ((Bl.refl _).drewN 1))).mono ?_; rintro e V8 ⟨rfl, HB8⟩
  refine hK.out _ _ (⟨(HB8).r0.r, (HB8).r1.r⟩) (fun hHeld => ?_)
  clear hK K
  (try simp only [Act.put, List.getElem_toArray, List.getElem_cons_succ, List.getElem_cons_zero, List.setIfInBounds_toArray, List.set_cons_zero, List.set_cons_succ])
  refine wpAnyH_take (i := 8) rfl (by kernel_rfl) (by kernel_rfl) (by kernel_rfl) (fun _ _ _ h => h) (yi_move (by kernel_rfl) rfl rfl) (by assumption) ?_
  simp only [Act.put, List.getElem_toArray, List.getElem_cons_succ, List.getElem_cons_zero, List.setIfInBounds_toArray, List.set_cons_zero, List.set_cons_succ]
  refine wpAnyH_take (i := 9) (v := undef) rfl (by kernel_rfl) (by kernel_rfl) (by kernel_rfl) (fun _ _ _ h => h) (Or.inr ⟨by kernel_rfl, rfl⟩) (by assumption) ?_
  simp only [Act.put, List.getElem_toArray, List.getElem_cons_succ, List.getElem_cons_zero, List.setIfInBounds_toArray, List.set_cons_zero, List.set_cons_succ]
  refine wpAnyH_take (i := 10) (v := undef) rfl (by kernel_rfl) (by kernel_rfl) (by kernel_rfl) (fun _ _ _ h => h) (Or.inr ⟨by kernel_rfl, rfl⟩) (by assumption) ?_
  simp only [Act.put, List.getElem_toArray, List.getElem_cons_succ, List.getElem_cons_zero, List.setIfInBounds_toArray, List.set_cons_zero, List.set_cons_succ]
  refine wpAnyH_take (i := 11) (v := undef) rfl (by kernel_rfl) (by kernel_rfl) (by kernel_rfl) (fun _ _ _ h => h) (Or.inr ⟨by kernel_rfl, rfl⟩) (by assumption) ?_
  simp only [Act.put, List.getElem_toArray, List.getElem_cons_succ, List.getElem_cons_zero, List.setIfInBounds_toArray, List.set_cons_zero, List.set_cons_succ]
  refine wpAnyH_take (i := 12) (v := ?_) rfl (by kernel_rfl) (by kernel_rfl) (by kernel_rfl) (fun _ _ _ h => h) (Or.inl ⟨by kernel_rfl, ?_⟩) (by assumption) ?_
  rotate_left
  · (intro w hSw; (try dsimp only at hSw); go_simp; (try with_reducible rfl))
  simp only [Act.put, List.getElem_toArray, List.getElem_cons_succ, List.getElem_cons_zero, List.setIfInBounds_toArray, List.set_cons_zero, List.set_cons_succ]
  refine wpAnyH_take (i := 13) (v := ?_) rfl (by kernel_rfl) (by kernel_rfl) (by kernel_rfl) (fun _ _ _ h => h) (Or.inl ⟨by kernel_rfl, ?_⟩) (by assumption) ?_
  rotate_left
  · (intro w hSw; (try dsimp only at hSw); go_simp; (try with_reducible rfl))
  simp only [Act.put, List.getElem_toArray, List.getElem_cons_succ, List.getElem_cons_zero, List.setIfInBounds_toArray, List.set_cons_zero, List.set_cons_succ]
  refine wpAnyH_take (i := 14) (v := ?_) rfl (by kernel_rfl) (by kernel_rfl) (by kernel_rfl) (fun _ _ _ h => h) (Or.inl ⟨by kernel_rfl, ?_⟩) (by assumption) ?_
  rotate_left
  · (intro w hSw; (try dsimp only at hSw); go_simp; (try with_reducible rfl))
  simp only [Act.put, List.getElem_toArray, List.getElem_cons_succ, List.getElem_cons_zero, List.setIfInBounds_toArray, List.set_cons_zero, List.set_cons_succ]
  refine wpAnyH_take (i := 15) rfl (by kernel_rfl) (by kernel_rfl) (by kernel_rfl) (fun _ _ _ h => h) (yi_move (by kernel_rfl) rfl rfl) (by assumption) ?_
  simp only [Act.put, List.getElem_toArray, List.getElem_cons_succ, List.getElem_cons_zero, List.setIfInBounds_toArray, List.set_cons_zero, List.set_cons_succ]
  refine wpAnyH_take (i := 16) (v := undef) rfl (by kernel_rfl) (by kernel_rfl) (by kernel_rfl) (fun _ _ _ h => h) (Or.inr ⟨by kernel_rfl, rfl⟩) (by assumption) ?_
  simp only [Act.put, List.getElem_toArray, List.getElem_cons_succ, List.getElem_cons_zero, List.setIfInBounds_toArray, List.set_cons_zero, List.set_cons_succ]
  refine wpAnyH_take (i := 17) (v := undef) rfl (by kernel_rfl) (by kernel_rfl) (by kernel_rfl) (fun _ _ _ h => h) (Or.inr ⟨by kernel_rfl, rfl⟩) (by assumption) ?_
  simp only [Act.put, List.getElem_toArray, List.getElem_cons_succ, List.getElem_cons_zero, List.setIfInBounds_toArray, List.set_cons_zero, List.set_cons_succ]
  refine wpAnyH_take (i := 18) (v := undef) rfl (by kernel_rfl) (by kernel_rfl) (by kernel_rfl) (fun _ _ _ h => h) (Or.inr ⟨by kernel_rfl, rfl⟩) (by assumption) ?_
  simp only [Act.put, List.getElem_toArray, List.getElem_cons_succ, List.getElem_cons_zero, List.setIfInBounds_toArray, List.set_cons_zero, List.set_cons_succ]
  refine wpAnyH_take (i := 19) (v := undef) rfl (by kernel_rfl) (by kernel_rfl) (by kernel_rfl) (fun _ _ _ h => h) (Or.inr ⟨by kernel_rfl, rfl⟩) (by assumption) ?_
  simp only [Act.put, List.getElem_toArray, List.getElem_cons_succ, List.getElem_cons_zero, List.setIfInBounds_toArray, List.set_cons_zero, List.set_cons_succ]
  refine wpAnyH_take (i := 20) (v := undef) rfl (by kernel_rfl) (by kernel_rfl) (by kernel_rfl) (fun _ _ _ h => h) (Or.inr ⟨by kernel_rfl, rfl⟩) (by assumption) ?_
  simp only [Act.put, List.getElem_toArray, List.getElem_cons_succ, List.getElem_cons_zero, List.setIfInBounds_toArray, List.set_cons_zero, List.set_cons_succ]
  refine wpAnyH_take (i := 21) (v := undef) rfl (by kernel_rfl) (by kernel_rfl) (by kernel_rfl) (fun _ _ _ h => h) (Or.inr ⟨by kernel_rfl, rfl⟩) (by assumption) ?_
  simp only [Act.put, List.getElem_toArray, List.getElem_cons_succ, List.getElem_cons_zero, List.setIfInBounds_toArray, List.set_cons_zero, List.set_cons_succ]
  refine wpAnyH_take (i := 22) (v := undef) rfl (by kernel_rfl) (by kernel_rfl) (by kernel_rfl) (fun _ _ _ h => h) (Or.inr ⟨by kernel_rfl, rfl⟩) (by assumption) ?_
  simp only [Act.put, List.getElem_toArray, List.getElem_cons_succ, List.getElem_cons_zero, List.setIfInBounds_toArray, List.set_cons_zero, List.set_cons_succ]
  refine wpAnyH_take (i := 23) (v := undef) rfl (by kernel_rfl) (by kernel_rfl) (by kernel_rfl) (fun _ _ _ h => h) (Or.inr ⟨by kernel_rfl, rfl⟩) (by assumption) ?_
  simp only [Act.put, List.getElem_toArray, List.getElem_cons_succ, List.getElem_cons_zero, List.setIfInBounds_toArray, List.set_cons_zero, List.set_cons_succ]
  refine wpAnyH_take (i := 24) (v := undef) rfl (by kernel_rfl) (by kernel_rfl) (by kernel_rfl) (fun _ _ _ h => h) (Or.inr ⟨by kernel_rfl, rfl⟩) (by assumption) ?_
  simp only [Act.put, List.getElem_toArray, List.getElem_cons_succ, List.getElem_cons_zero, List.setIfInBounds_toArray, List.set_cons_zero, List.set_cons_succ]
  refine wpAnyH_take (i := 25) (v := undef) rfl (by kernel_rfl) (by kernel_rfl) (by kernel_rfl) (fun _ _ _ h => h) (Or.inr ⟨by kernel_rfl, rfl⟩) (by assumption) ?_
  simp only [Act.put, List.getElem_toArray, List.getElem_cons_succ, List.getElem_cons_zero, List.setIfInBounds_toArray, List.set_cons_zero, List.set_cons_succ]
  refine wpAnyH_take (i := 26) (v := undef) rfl (by kernel_rfl) (by kernel_rfl) (by kernel_rfl) (fun _ _ _ h => h) (Or.inr ⟨by kernel_rfl, rfl⟩) (by assumption) ?_
  simp only [Act.put, List.getElem_toArray, List.getElem_cons_succ, List.getElem_cons_zero, List.setIfInBounds_toArray, List.set_cons_zero, List.set_cons_succ]
  refine wpAnyH_take (i := 27) (v := undef) rfl (by kernel_rfl) (by kernel_rfl) (by kernel_rfl) (fun _ _ _ h => h) (Or.inr ⟨by kernel_rfl, rfl⟩) (by assumption) ?_
  simp only [Act.put, List.getElem_toArray, List.getElem_cons_succ, List.getElem_cons_zero, List.setIfInBounds_toArray, List.set_cons_zero, List.set_cons_succ]
  refine wpAnyH_take (i := 28) (v := undef) rfl (by kernel_rfl) (by kernel_rfl) (by kernel_rfl) (fun _ _ _ h => h) (Or.inr ⟨by kernel_rfl, rfl⟩) (by assumption) ?_
  simp only [Act.put, List.getElem_toArray, List.getElem_cons_succ, List.getElem_cons_zero, List.setIfInBounds_toArray, List.set_cons_zero, List.set_cons_succ]
  refine wpAnyH_take (i := 29) (v := undef) rfl (by kernel_rfl) (by kernel_rfl) (by kernel_rfl) (fun _ _ _ h => h) (Or.inr ⟨by kernel_rfl, rfl⟩) (by assumption) ?_
  simp only [Act.put, List.getElem_toArray, List.getElem_cons_succ, List.getElem_cons_zero, List.setIfInBounds_toArray, List.set_cons_zero, List.set_cons_succ]
  refine wpAnyH_take (i := 30) (v := ?_) rfl (by kernel_rfl) (by kernel_rfl) (by kernel_rfl) (fun _ _ _ h => h) (Or.inl ⟨by kernel_rfl, ?_⟩) (by assumption) ?_
  rotate_left
  · (intro w hSw; (try dsimp only at hSw); go_simp; (try with_reducible rfl))
  simp only [Act.put, List.getElem_toArray, List.getElem_cons_succ, List.getElem_cons_zero, List.setIfInBounds_toArray, List.set_cons_zero, List.set_cons_succ]
  refine wpAnyH_take (i := 31) rfl (by kernel_rfl) (by kernel_rfl) (by kernel_rfl) (fun _ _ _ h => h) (yi_assign (by kernel_rfl) rfl rfl) (by assumption) ?_
  simp only [Act.put, List.getElem_toArray, List.getElem_cons_succ, List.getElem_cons_zero, List.setIfInBounds_toArray, List.set_cons_zero, List.set_cons_succ]
  refine wpAnyH_done (by kernel_rfl) ?_ _
  refine NoPanic.normal ?_
  go_wp2_with fail
  go_ret
  exact ⟨rfl, (HB8).bl⟩
end Go.Proofs.Ytgnnlnhhikmneaa
