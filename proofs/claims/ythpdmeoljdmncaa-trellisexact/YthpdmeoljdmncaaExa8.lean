/- TrellisExact, walked. -/
import Derived.Test.YthpdmeoljdmncaaYC
import Derived.Test.YthpdmeoljdmncaaAw8
namespace Go.Proofs.Ythpdmeoljdmncaa
open Go.RowKit
set_option linter.unusedVariables false
set_option linter.unusedSimpArgs false

theorem ordL_len (g : RC.Gr) : (ordL g).length ≤ 12 := by
  unfold ordL
  by_cases h : TR.chk g = 0
  · have hG := TR.chk_zero.1 h
    rw [if_pos h, hG.len]; exact hG.le.2
  · rw [if_neg h]; simp
theorem ndL_len2 (g : RC.Gr) (s : List UInt8) : (ndL g s).length ≤ 20 := by
  by_cases h : TR.chk g = 0
  · exact ndL_len (TR.chk_zero.1 h) s
  · unfold ndL; rw [if_neg h]; simp
theorem drL_len (g : RC.Gr) (xs : List (List UInt8)) : (drL g xs).length ≤ 12 := by
  unfold drL
  by_cases h : TR.chk g = 0
  · rw [if_pos h]
    have := plcs_len (drt g (TR.fin g) (TR.setOf (TR.nm g) xs)) g.2.length
    have := (TR.chk_zero.1 h).le.2
    omega
  · rw [if_neg h]; simp

set_option maxRecDepth 8000 in
set_option maxHeartbeats 8000000 in
theorem trellisExact_walk (W : World) (g : RC.Gr) (sa : Option Addr) (sc : Nat) (aa : Option Addr) (ac : Nat) (hg : GA W.heap.size W g sa sc aa ac) (hk : grOk g) (s : List UInt8) (hsl : s.length ≤ maxLen)
    (xs : List (List UInt8)) (xa : Option Addr) (xc : Nat) (hx : Strs W.heap.size W (.slice xa xs.length xc) xs) (hxn : xs.length ≤ maxLen) (hxl : ∀ s ∈ xs, s.length ≤ maxLen) :
    Calls Try.prog 3 #[.agg (gv g sa sc aa ac), .string (M.bs s), .slice xa xs.length xc] W fun e w' => e = .returned (.bool true) ∧ Bl W w' := by
  let BX : Obj := .cells #[.slice sa g.1.length sc, .slice aa g.2.length ac] 25
  have CA : Hid (Calls Try.prog 9 #[] (W.alloc BX) fun e w' => e = .returned (.bool true) ∧ Bl (W.alloc BX) w') := awake_8 (Bl.refl _)
  have CG : Hid (∀ U, Bl (W.alloc BX) U → Calls Try.prog 10 #[.agg (gv g sa sc aa ac), .slice xa xs.length xc] U fun e w' => e = .returned (.bool (greatB g xs)) ∧ Bl (W.alloc BX) w') := fun U hU =>
    great_x g sa sc aa ac hU (hg.bl (((Bl.refl W).alloc _).step hU)) hk xs xa xc (hx.bl (((Bl.refl W).alloc _).step hU)) hxl hxn
  have HC : Hid (∀ U, Bl (W.alloc BX) U → U.cell? ⟨W.heap.size, 0, none⟩ = some (.slice sa g.1.length sc) ∧ U.cell? ⟨W.heap.size, 1, none⟩ = some (.slice aa g.2.length ac) ∧ W.heap.size < U.heap.size ∧ Bl W U) := fun U hU => rbox_cells hU
  have hz := M.bs_size s
  cases hgr : greatB g xs with
  | true =>
    rw [hgr] at CG
    clear hg hk hgr hx hxl
    unfold gv at CG ⊢
    go_enter Try.func3, Try.ntmps3
    go_wp2_with (first
      | (go_at_call 9; refine CA.out.mono ?_; clear CA; rintro e w1 ⟨rfl, HB1⟩; obtain ⟨p1, p2, p3, p4⟩ := HC.out _ HB1)
      | (go_at_call 10; refine (CG.out _ HB1).mono ?_; clear CG; rintro e w2 ⟨rfl, HB2⟩))
    go_ret
    exact ⟨rfl, (HC.out _ HB2).2.2.2⟩
  | false =>
  rw [hgr] at CG
  unfold maxLen at hsl
  by_cases h200 : 200 < s.length
  · clear hg hk hgr hx hxl
    unfold gv at CG ⊢
    go_enter Try.func3, Try.ntmps3
    go_wp2_with (first
      | (go_at_call 9; refine CA.out.mono ?_; clear CA; rintro e w1 ⟨rfl, HB1⟩; obtain ⟨p1, p2, p3, p4⟩ := HC.out _ HB1)
      | (go_at_call 10; refine (CG.out _ HB1).mono ?_; clear CG; rintro e w2 ⟨rfl, HB2⟩))
    go_ret
    exact ⟨rfl, (HC.out _ HB2).2.2.2⟩
  have HGA : ∀ U, Bl (W.alloc BX) U → GA U.heap.size U g sa sc aa ac := fun U hU => hg.bl (((Bl.refl W).alloc _).step hU)
  have HXS : ∀ U, Bl (W.alloc BX) U → Strs U.heap.size U (.slice xa xs.length xc) xs := fun U hU => hx.bl (((Bl.refl W).alloc _).step hU)
  have C1 : Hid (∀ X, Bl (W.alloc BX) X → Calls Try.prog 11 #[.agg (gv g sa sc aa ac)] X fun e w' => e = .returned (.int .i64 (TR.chk g : Int)) ∧ Bl X w') := fun X hX => Check_x g sa sc aa ac (Bl.refl X) (HGA X hX) hk
  have C3 : Hid (∀ X, Bl (W.alloc BX) X → Calls Try.prog 12 #[.agg (gv g sa sc aa ac)] X fun e w' => e = .returned (.int .i64 (TR.chk g : Int)) ∧ Bl X w') := fun X hX => rCheck_x g sa sc aa ac (Bl.refl X) (HGA X hX) hk
  have C7 : Hid (∀ X, Bl (W.alloc BX) X → Calls Try.prog 14 #[.agg (gv g sa sc aa ac)] X fun e w' => ∃ a c, e = .returned (.slice a (ordL g).length c) ∧ IA w' a (ordL g) ∧ Bl X w') := fun X hX => Order_x g sa sc aa ac (Bl.refl X) (HGA X hX) hk
  have C9 : Hid (∀ X, Bl (W.alloc BX) X → Calls Try.prog 15 #[.agg (gv g sa sc aa ac)] X fun e w' => ∃ a c, e = .returned (.slice a (ordL g).length c) ∧ IA w' a (ordL g) ∧ Bl X w') := fun X hX => rOrder_x g sa sc aa ac (Bl.refl X) (HGA X hX) hk
  have C15 : Hid (∀ X, Bl (W.alloc BX) X → Calls Try.prog 17 #[.agg (gv g sa sc aa ac), .string (M.bs s)] X fun e w' => ∃ a c, e = .returned (.slice a (ndL g s).length c) ∧ TA.TS w' a (ndL g s) ∧ Bl X w') := fun X hX => by
    refine (Needs_x g sa sc aa ac s (Bl.refl X) (HGA X hX) hk).mono ?_
    rintro e w' ⟨v, rfl, ho, hb⟩
    obtain ⟨a, c, rfl⟩ := own_shape ho
    exact ⟨a, c, rfl, ts_own ho, hb⟩
  have C18 : Hid (∀ X, Bl (W.alloc BX) X → Calls Try.prog 18 #[.agg (gv g sa sc aa ac), .string (M.bs s)] X fun e w' => ∃ a c, e = .returned (.slice a (ndL g s).length c) ∧ TA.TS w' a (ndL g s) ∧ Bl X w') := fun X hX => rNeeds_x g sa sc aa ac s (Bl.refl X) (HGA X hX) hk
  have C24 : Hid (∀ X, Bl (W.alloc BX) X → Calls Try.prog 19 #[.agg (gv g sa sc aa ac), .slice xa xs.length xc] X fun e w' => ∃ a c, e = .returned (.slice a (drL g xs).length c) ∧ IA w' a (drL g xs) ∧ Bl X w') := fun X hX => Dirty_x g sa sc aa ac xs xa xc (Bl.refl X) (HGA X hX) hk (HXS X hX) hxn
  have C27 : Hid (∀ X, Bl (W.alloc BX) X → Calls Try.prog 20 #[.agg (gv g sa sc aa ac), .slice xa xs.length xc] X fun e w' => ∃ a c, e = .returned (.slice a (drL g xs).length c) ∧ IA w' a (drL g xs) ∧ Bl X w') := fun X hX => rDirty_x g sa sc aa ac xs xa xc (Bl.refl X) (HGA X hX) hk (HXS X hX) hxn
  have CI : Hid (∀ (X : World) (l : List Nat) a1 c1 a2 c2, l.length ≤ 12 → IA X a1 l → IA X a2 l → Calls Try.prog 13 #[.slice a1 l.length c1, .slice a2 l.length c2] X fun e w' => e = .returned (.bool true) ∧ Bl X w') := fun X l a1 c1 a2 c2 hl h1 h2 => by
    refine (Ints_x l l a1 a2 c1 c2 X h1 h2 (by unfold maxLen; omega) (by unfold maxLen; omega)).mono ?_
    rintro e w' ⟨rfl, n, rfl⟩
    exact ⟨by simp, (Bl.refl X).drewN n⟩
  have CS : Hid (∀ (X : World) (l : List (List UInt8)) a1 c1 a2 c2, l.length ≤ 20 → TA.TS X a1 l → TA.TS X a2 l → Calls Try.prog 16 #[.slice a1 l.length c1, .slice a2 l.length c2] X fun e w' => e = .returned (.bool true) ∧ Bl X w') := fun X l a1 c1 a2 c2 hl h1 h2 => by
    refine (SameT_x l l a1 a2 c1 c2 X (fun i t ht => by obtain ⟨b, off, h1, _, h3⟩ := h1 i t ht; exact ⟨b, off, h1, h3⟩) (fun i t ht => by obtain ⟨b, off, h1, _, h3⟩ := h2 i t ht; exact ⟨b, off, h1, h3⟩) (by unfold maxLen; omega) (by unfold maxLen; omega)).mono ?_
    rintro e w' ⟨rfl, n, rfl⟩
    exact ⟨by simp, (Bl.refl X).drewN n⟩
  have HOL : Hid ((ordL g).length ≤ 12) := ordL_len g
  have HNL : Hid ((ndL g s).length ≤ 20) := ndL_len2 g s
  have HDL : Hid ((drL g xs).length ≤ 12) := drL_len g xs
  clear hg hk hgr hx hxl HGA HXS
  generalize TR.chk g = ck at *
  generalize ordL g = OL at *
  generalize ndL g s = NL at *
  generalize drL g xs = DL at *
  unfold gv at CG C1 C3 C7 C9 C15 C18 C24 C27 ⊢
  have hqq : ((ck : Int) == (ck : Int)) = true := by simp
  go_enter Try.func3, Try.ntmps3
  go_wp2_with (first
    | (go_at_call 9; refine CA.out.mono ?_; clear CA; rintro e w1 ⟨rfl, HB1⟩; obtain ⟨p1, p2, p3, p4⟩ := HC.out _ HB1)
    | (go_at_call 10; refine (CG.out _ HB1).mono ?_; clear CG p1 p2 p3 p4 HB1; rintro e w2 ⟨rfl, HB2⟩; obtain ⟨p1, p2, p3, p4⟩ := HC.out _ HB2))
  have HBF : Hid (∀ U, Bl w2 U → Bl W U) := fun U hU => (HC.out _ (HB2.step hU)).2.2.2
  have HBX : Hid (∀ U, Bl w2 U → Bl (W.alloc BX) U) := fun U hU => HB2.step hU
  have KP : Hid (∀ U, Bl w2 U → U.cell? ⟨W.heap.size, 0, none⟩ = some (.slice sa g.1.length sc) ∧ U.cell? ⟨W.heap.size, 1, none⟩ = some (.slice aa g.2.length ac)) := fun U hU => by
    obtain ⟨h1, h2, _⟩ := HC.out _ (HB2.step hU)
    exact ⟨h1, h2⟩
  clear HB2 HC p4
  refine wp_region_noPanic ?_
  refine wp_region_held_drew (S := fun U => U.cell? ⟨W.heap.size, 0, none⟩ = some (.slice sa g.1.length sc) ∧ U.cell? ⟨W.heap.size, 1, none⟩ = some (.slice aa g.2.length ac)) (by kernel_rfl) (KP.out _ ((Bl.refl w2).drewN 1)) (fun hHeld => ?_)
  refine wpAnyH_take (i := 0) (v := ?_) rfl (by kernel_rfl) (by kernel_rfl) (by kernel_rfl) (fun _ _ _ h => h) (Or.inl ⟨by kernel_rfl, ?_⟩) (by assumption) ?_
  rotate_left
  · (intro w hSw; (try dsimp only at hSw); go_simp; (try with_reducible rfl))
  simp only [Act.put, List.getElem_toArray, List.getElem_cons_succ, List.getElem_cons_zero, List.setIfInBounds_toArray, List.set_cons_zero, List.set_cons_succ]
  refine wpAnyH_take (i := 2) (v := ?_) rfl (by kernel_rfl) (by kernel_rfl) (by kernel_rfl) (fun _ _ _ h => h) (Or.inl ⟨by kernel_rfl, ?_⟩) (by assumption) ?_
  rotate_left
  · (intro w hSw; (try dsimp only at hSw); go_simp; (try with_reducible rfl))
  simp only [Act.put, List.getElem_toArray, List.getElem_cons_succ, List.getElem_cons_zero, List.setIfInBounds_toArray, List.set_cons_zero, List.set_cons_succ]
  refine wpAnyH_ready (rs := [1]) (by kernel_rfl) (by simp) ?_
  refine AllReadyH.cons (o := _) rfl (fun K hK => ?_) AllReadyH.nil
  go_simp
  go_at_call 11; refine (C1.out _ (HBX.out _ ((Bl.refl w2).drewN 1))).mono ?_; clear C1; rintro e x1 ⟨rfl, hb⟩; have HB3 := ((Bl.refl w2).drewN 1).step hb; clear hb
  refine hK.out _ _ (KP.out _ HB3) (fun hHeld => ?_)
  clear hK K
  (try simp only [Act.put, List.getElem_toArray, List.getElem_cons_succ, List.getElem_cons_zero, List.setIfInBounds_toArray, List.set_cons_zero, List.set_cons_succ])
  refine wpAnyH_ready (rs := [3]) (by kernel_rfl) (by simp) ?_
  refine AllReadyH.cons (o := _) rfl (fun K hK => ?_) AllReadyH.nil
  go_simp
  go_at_call 12; refine (C3.out _ (HBX.out _ HB3)).mono ?_; clear C3; rintro e x3 ⟨rfl, hb⟩; have HB4 := HB3.step hb; clear hb
  refine hK.out _ _ (KP.out _ HB4) (fun hHeld => ?_)
  clear hK K
  (try simp only [Act.put, List.getElem_toArray, List.getElem_cons_succ, List.getElem_cons_zero, List.setIfInBounds_toArray, List.set_cons_zero, List.set_cons_succ])
  refine wpAnyH_take (i := 4) (v := ?_) rfl (by kernel_rfl) (by kernel_rfl) (by kernel_rfl) (fun _ _ _ h => h) (Or.inl ⟨by kernel_rfl, ?_⟩) (by assumption) ?_
  rotate_left
  · (intro w hSw; (try dsimp only at hSw); go_simp; (try with_reducible rfl))
  simp only [Act.put, List.getElem_toArray, List.getElem_cons_succ, List.getElem_cons_zero, List.setIfInBounds_toArray, List.set_cons_zero, List.set_cons_succ]
  refine wpAnyH_take (i := 5) rfl (by kernel_rfl) (by kernel_rfl) (by kernel_rfl) (fun _ _ _ h => h) (yi_move (by kernel_rfl) rfl rfl) (by assumption) ?_
  simp only [Act.put, List.getElem_toArray, List.getElem_cons_succ, List.getElem_cons_zero, List.setIfInBounds_toArray, List.set_cons_zero, List.set_cons_succ]
  refine wpAnyH_take (i := 6) (v := ?_) rfl (by kernel_rfl) (by kernel_rfl) (by kernel_rfl) (fun _ _ _ h => h) (Or.inl ⟨by kernel_rfl, ?_⟩) (by assumption) ?_
  rotate_left
  · (intro w hSw; (try dsimp only at hSw); go_simp; (try with_reducible rfl))
  simp only [Act.put, List.getElem_toArray, List.getElem_cons_succ, List.getElem_cons_zero, List.setIfInBounds_toArray, List.set_cons_zero, List.set_cons_succ]
  refine wpAnyH_take (i := 8) (v := ?_) rfl (by kernel_rfl) (by kernel_rfl) (by kernel_rfl) (fun _ _ _ h => h) (Or.inl ⟨by kernel_rfl, ?_⟩) (by assumption) ?_
  rotate_left
  · (intro w hSw; (try dsimp only at hSw); go_simp; (try with_reducible rfl))
  simp only [Act.put, List.getElem_toArray, List.getElem_cons_succ, List.getElem_cons_zero, List.setIfInBounds_toArray, List.set_cons_zero, List.set_cons_succ]
  refine wpAnyH_ready (rs := [7]) (by kernel_rfl) (by simp) ?_
  refine AllReadyH.cons (o := _) rfl (fun K hK => ?_) AllReadyH.nil
  go_simp
  go_at_call 14; refine (C7.out _ (HBX.out _ HB4)).mono ?_; clear C7; rintro e x7 ⟨a7, c7, rfl, hi7, hb⟩; have HB9 := HB4.step hb; clear hb
  refine hK.out _ _ (KP.out _ HB9) (fun hHeld => ?_)
  clear hK K
  (try simp only [Act.put, List.getElem_toArray, List.getElem_cons_succ, List.getElem_cons_zero, List.setIfInBounds_toArray, List.set_cons_zero, List.set_cons_succ])
  refine wpAnyH_ready (rs := [9]) (by kernel_rfl) (by simp) ?_
  refine AllReadyH.cons (o := _) rfl (fun K hK => ?_) AllReadyH.nil
  go_simp
  go_at_call 15; refine (C9.out _ (HBX.out _ HB9)).mono ?_; clear C9; rintro e x9 ⟨a9, c9, rfl, hi9, hb⟩; have HB10 := HB9.step hb; have hj7 := hi7.bl hb; clear hb hi7
  refine hK.out _ _ (KP.out _ HB10) (fun hHeld => ?_)
  clear hK K
  (try simp only [Act.put, List.getElem_toArray, List.getElem_cons_succ, List.getElem_cons_zero, List.setIfInBounds_toArray, List.set_cons_zero, List.set_cons_succ])
  refine wpAnyH_ready (rs := [10]) (by kernel_rfl) (by simp) ?_
  refine AllReadyH.cons (o := _) rfl (fun K hK => ?_) AllReadyH.nil
  go_simp
  go_at_call 13; refine (CI.out _ _ _ _ _ _ HOL.out hj7 hi9).mono ?_; clear HOL hj7 hi9; rintro e x10 ⟨rfl, hb⟩; have HB11 := HB10.step hb; clear hb
  refine hK.out _ _ (KP.out _ HB11) (fun hHeld => ?_)
  clear hK K
  (try simp only [Act.put, List.getElem_toArray, List.getElem_cons_succ, List.getElem_cons_zero, List.setIfInBounds_toArray, List.set_cons_zero, List.set_cons_succ])
  refine wpAnyH_take (i := 11) (v := ?_) rfl (by kernel_rfl) (by kernel_rfl) (by kernel_rfl) (fun _ _ _ h => h) (Or.inl ⟨by kernel_rfl, ?_⟩) (by assumption) ?_
  rotate_left
  · (intro w hSw; (try dsimp only at hSw); go_simp; (try with_reducible rfl))
  simp only [Act.put, List.getElem_toArray, List.getElem_cons_succ, List.getElem_cons_zero, List.setIfInBounds_toArray, List.set_cons_zero, List.set_cons_succ]
  refine wpAnyH_take (i := 12) rfl (by kernel_rfl) (by kernel_rfl) (by kernel_rfl) (fun _ _ _ h => h) (yi_move (by kernel_rfl) rfl rfl) (by assumption) ?_
  simp only [Act.put, List.getElem_toArray, List.getElem_cons_succ, List.getElem_cons_zero, List.setIfInBounds_toArray, List.set_cons_zero, List.set_cons_succ]
  refine wpAnyH_take (i := 13) (v := ?_) rfl (by kernel_rfl) (by kernel_rfl) (by kernel_rfl) (fun _ _ _ h => h) (Or.inl ⟨by kernel_rfl, ?_⟩) (by assumption) ?_
  rotate_left
  · (intro w hSw; (try dsimp only at hSw); go_simp; (try with_reducible rfl))
  simp only [Act.put, List.getElem_toArray, List.getElem_cons_succ, List.getElem_cons_zero, List.setIfInBounds_toArray, List.set_cons_zero, List.set_cons_succ]
  refine wpAnyH_take (i := 14) rfl (by kernel_rfl) (by kernel_rfl) (by kernel_rfl) (fun _ _ _ h => h) (yi_move (by kernel_rfl) rfl rfl) (by assumption) ?_
  simp only [Act.put, List.getElem_toArray, List.getElem_cons_succ, List.getElem_cons_zero, List.setIfInBounds_toArray, List.set_cons_zero, List.set_cons_succ]
  refine wpAnyH_take (i := 16) (v := ?_) rfl (by kernel_rfl) (by kernel_rfl) (by kernel_rfl) (fun _ _ _ h => h) (Or.inl ⟨by kernel_rfl, ?_⟩) (by assumption) ?_
  rotate_left
  · (intro w hSw; (try dsimp only at hSw); go_simp; (try with_reducible rfl))
  simp only [Act.put, List.getElem_toArray, List.getElem_cons_succ, List.getElem_cons_zero, List.setIfInBounds_toArray, List.set_cons_zero, List.set_cons_succ]
  refine wpAnyH_take (i := 17) rfl (by kernel_rfl) (by kernel_rfl) (by kernel_rfl) (fun _ _ _ h => h) (yi_move (by kernel_rfl) rfl rfl) (by assumption) ?_
  simp only [Act.put, List.getElem_toArray, List.getElem_cons_succ, List.getElem_cons_zero, List.setIfInBounds_toArray, List.set_cons_zero, List.set_cons_succ]
  refine wpAnyH_ready (rs := [15]) (by kernel_rfl) (by simp) ?_
  refine AllReadyH.cons (o := _) rfl (fun K hK => ?_) AllReadyH.nil
  go_simp
  go_at_call 17; refine (C15.out _ (HBX.out _ HB11)).mono ?_; clear C15; rintro e x15 ⟨a15, c15, rfl, hi15, hb⟩; have HB18 := HB11.step hb; clear hb
  refine hK.out _ _ (KP.out _ HB18) (fun hHeld => ?_)
  clear hK K
  (try simp only [Act.put, List.getElem_toArray, List.getElem_cons_succ, List.getElem_cons_zero, List.setIfInBounds_toArray, List.set_cons_zero, List.set_cons_succ])
  refine wpAnyH_ready (rs := [18]) (by kernel_rfl) (by simp) ?_
  refine AllReadyH.cons (o := _) rfl (fun K hK => ?_) AllReadyH.nil
  go_simp
  go_at_call 18; refine (C18.out _ (HBX.out _ HB18)).mono ?_; clear C18; rintro e x18 ⟨a18, c18, rfl, hi18, hb⟩; have HB19 := HB18.step hb; have hj15 := hi15.below hb; clear hb hi15
  refine hK.out _ _ (KP.out _ HB19) (fun hHeld => ?_)
  clear hK K
  (try simp only [Act.put, List.getElem_toArray, List.getElem_cons_succ, List.getElem_cons_zero, List.setIfInBounds_toArray, List.set_cons_zero, List.set_cons_succ])
  refine wpAnyH_ready (rs := [19]) (by kernel_rfl) (by simp) ?_
  refine AllReadyH.cons (o := _) rfl (fun K hK => ?_) AllReadyH.nil
  go_simp
  go_at_call 16; refine (CS.out _ _ _ _ _ _ HNL.out hj15 hi18).mono ?_; clear HNL hj15 hi18; rintro e x19 ⟨rfl, hb⟩; have HB20 := HB19.step hb; clear hb
  refine hK.out _ _ (KP.out _ HB20) (fun hHeld => ?_)
  clear hK K
  (try simp only [Act.put, List.getElem_toArray, List.getElem_cons_succ, List.getElem_cons_zero, List.setIfInBounds_toArray, List.set_cons_zero, List.set_cons_succ])
  refine wpAnyH_take (i := 20) (v := ?_) rfl (by kernel_rfl) (by kernel_rfl) (by kernel_rfl) (fun _ _ _ h => h) (Or.inl ⟨by kernel_rfl, ?_⟩) (by assumption) ?_
  rotate_left
  · (intro w hSw; (try dsimp only at hSw); go_simp; (try with_reducible rfl))
  simp only [Act.put, List.getElem_toArray, List.getElem_cons_succ, List.getElem_cons_zero, List.setIfInBounds_toArray, List.set_cons_zero, List.set_cons_succ]
  refine wpAnyH_take (i := 21) rfl (by kernel_rfl) (by kernel_rfl) (by kernel_rfl) (fun _ _ _ h => h) (yi_move (by kernel_rfl) rfl rfl) (by assumption) ?_
  simp only [Act.put, List.getElem_toArray, List.getElem_cons_succ, List.getElem_cons_zero, List.setIfInBounds_toArray, List.set_cons_zero, List.set_cons_succ]
  refine wpAnyH_take (i := 22) (v := ?_) rfl (by kernel_rfl) (by kernel_rfl) (by kernel_rfl) (fun _ _ _ h => h) (Or.inl ⟨by kernel_rfl, ?_⟩) (by assumption) ?_
  rotate_left
  · (intro w hSw; (try dsimp only at hSw); go_simp; (try with_reducible rfl))
  simp only [Act.put, List.getElem_toArray, List.getElem_cons_succ, List.getElem_cons_zero, List.setIfInBounds_toArray, List.set_cons_zero, List.set_cons_succ]
  refine wpAnyH_take (i := 23) rfl (by kernel_rfl) (by kernel_rfl) (by kernel_rfl) (fun _ _ _ h => h) (yi_move (by kernel_rfl) rfl rfl) (by assumption) ?_
  simp only [Act.put, List.getElem_toArray, List.getElem_cons_succ, List.getElem_cons_zero, List.setIfInBounds_toArray, List.set_cons_zero, List.set_cons_succ]
  refine wpAnyH_take (i := 25) (v := ?_) rfl (by kernel_rfl) (by kernel_rfl) (by kernel_rfl) (fun _ _ _ h => h) (Or.inl ⟨by kernel_rfl, ?_⟩) (by assumption) ?_
  rotate_left
  · (intro w hSw; (try dsimp only at hSw); go_simp; (try with_reducible rfl))
  simp only [Act.put, List.getElem_toArray, List.getElem_cons_succ, List.getElem_cons_zero, List.setIfInBounds_toArray, List.set_cons_zero, List.set_cons_succ]
  refine wpAnyH_take (i := 26) rfl (by kernel_rfl) (by kernel_rfl) (by kernel_rfl) (fun _ _ _ h => h) (yi_move (by kernel_rfl) rfl rfl) (by assumption) ?_
  simp only [Act.put, List.getElem_toArray, List.getElem_cons_succ, List.getElem_cons_zero, List.setIfInBounds_toArray, List.set_cons_zero, List.set_cons_succ]
  refine wpAnyH_ready (rs := [24]) (by kernel_rfl) (by simp) ?_
  refine AllReadyH.cons (o := _) rfl (fun K hK => ?_) AllReadyH.nil
  go_simp
  go_at_call 19; refine (C24.out _ (HBX.out _ HB20)).mono ?_; clear C24; rintro e x24 ⟨a24, c24, rfl, hi24, hb⟩; have HB27 := HB20.step hb; clear hb
  refine hK.out _ _ (KP.out _ HB27) (fun hHeld => ?_)
  clear hK K
  (try simp only [Act.put, List.getElem_toArray, List.getElem_cons_succ, List.getElem_cons_zero, List.setIfInBounds_toArray, List.set_cons_zero, List.set_cons_succ])
  refine wpAnyH_ready (rs := [27]) (by kernel_rfl) (by simp) ?_
  refine AllReadyH.cons (o := _) rfl (fun K hK => ?_) AllReadyH.nil
  go_simp
  go_at_call 20; refine (C27.out _ (HBX.out _ HB27)).mono ?_; clear C27; rintro e x27 ⟨a27, c27, rfl, hi27, hb⟩; have HB28 := HB27.step hb; have hj24 := hi24.bl hb; clear hb hi24
  refine hK.out _ _ (KP.out _ HB28) (fun hHeld => ?_)
  clear hK K
  (try simp only [Act.put, List.getElem_toArray, List.getElem_cons_succ, List.getElem_cons_zero, List.setIfInBounds_toArray, List.set_cons_zero, List.set_cons_succ])
  refine wpAnyH_ready (rs := [28]) (by kernel_rfl) (by simp) ?_
  refine AllReadyH.cons (o := _) rfl (fun K hK => ?_) AllReadyH.nil
  go_simp
  go_at_call 13; refine (CI.out _ _ _ _ _ _ HDL.out hj24 hi27).mono ?_; clear HDL hj24 hi27; rintro e x28 ⟨rfl, hb⟩; have HB29 := HB28.step hb; clear hb
  refine hK.out _ _ (KP.out _ HB29) (fun hHeld => ?_)
  clear hK K
  (try simp only [Act.put, List.getElem_toArray, List.getElem_cons_succ, List.getElem_cons_zero, List.setIfInBounds_toArray, List.set_cons_zero, List.set_cons_succ])
  refine wpAnyH_take (i := 29) (v := ?_) rfl (by kernel_rfl) (by kernel_rfl) (by kernel_rfl) (fun _ _ _ h => h) (Or.inl ⟨by kernel_rfl, ?_⟩) (by assumption) ?_
  rotate_left
  · (intro w hSw; (try dsimp only at hSw); go_simp; (try with_reducible rfl))
  simp only [Act.put, List.getElem_toArray, List.getElem_cons_succ, List.getElem_cons_zero, List.setIfInBounds_toArray, List.set_cons_zero, List.set_cons_succ]
  refine wpAnyH_take (i := 30) (v := .bool true) rfl (by kernel_rfl) (by kernel_rfl) (by kernel_rfl) (fun _ _ _ h => h) (yi_assign (by kernel_rfl) rfl (by rfl)) (by assumption) ?_
  simp only [Act.put, List.getElem_toArray, List.getElem_cons_succ, List.getElem_cons_zero, List.setIfInBounds_toArray, List.set_cons_zero, List.set_cons_succ]
  refine wpAnyH_done (by kernel_rfl) ?_ _
  refine NoPanic.normal ?_
  go_wp2_with fail
  go_ret
  exact ⟨rfl, HBF.out _ HB29⟩
end Go.Proofs.Ythpdmeoljdmncaa
