/- RecipeWrites: every build's text is the document's: the law answers true for every two builds and every text. -/
import Derived.Test.YtgjpcddjfmdobaaDoorX7c
import Derived.Test.YtgjpcddjfmdobaaDoorX7d
import Derived.Test.YtgjpcddjfmdobaaDoorBck7
import Derived.Test.YtgjpcddjfmdobaaDoorRegT
namespace Go.Proofs.YtgjpcddjfmdobaaDoor
open Go.RowKit
set_option linter.unusedVariables false
set_option linter.unusedSimpArgs false

theorem great_small {g : RC.Gr} (h : greatB g = false) : smallG g := by
  obtain ⟨h1, h2, h3, h4⟩ := great_not h
  exact ⟨by omega, by omega, fun t ht => by have := (h4 t ht).2.2.1; omega⟩
set_option maxRecDepth 8000 in
set_option maxHeartbeats 8000000 in
theorem writes_walk (g h : RC.Gr) (sa : Option Addr) (sc : Nat) (aa : Option Addr) (ac : Nat) (ta : Option Addr) (tc : Nat) (ba : Option Addr) (bc : Nat) (l : List UInt8) (W : World) (hm : MX W) (hg : GA W.heap.size W g sa sc aa ac) (hk : grOk g) (hh : GA W.heap.size W h ta tc ba bc) (hkh : grOk h) (hl : l.length ≤ maxLen) :
    Calls Tryd.prog 3 #[.agg (gv g sa sc aa ac), .agg (gv h ta tc ba bc), .string (M.bs l)] W fun e w' => e = .returned (.bool true) ∧ Bl W w' := by
  obtain ⟨V, hV⟩ : ∃ V, V = (W.alloc (.cells (gv g sa sc aa ac) 25)).alloc (.cells (gv h ta tc ba bc) 25) := ⟨_, rfl⟩
  have hWV : Bl W V := by rw [hV]; exact ((Bl.refl W).alloc _).alloc _
  have hmV : MX V := hm.bl hWV
  have hgV := hg.bl hWV
  have hhV := hh.bl hWV
  have hzl := M.bs_size l
  have HFI : Hid (∀ W', Bl V W' → Bl W W') := fun W' h => hWV.step h
  have CW : Hid (Calls Tryd.prog 9 #[] V fun e w' => e = .returned (.bool true) ∧ Bl V w') := awake_x (Bl.refl V) hmV
  have CG : Hid (∀ W', Bl V W' → Calls Tryd.prog 10 #[.agg (gv g sa sc aa ac)] W' fun e w' => e = .returned (.bool (greatB g)) ∧ Bl V w') := fun W' h' => great_x g sa sc aa ac h' (hgV.bl h') hk
  have CH : Hid (∀ W', Bl V W' → Calls Tryd.prog 10 #[.agg (gv h ta tc ba bc)] W' fun e w' => e = .returned (.bool (greatB h)) ∧ Bl V w') := fun W' h' => great_x h ta tc ba bc h' (hhV.bl h') hkh
  have CP : Hid (∀ W', Bl V W' → Calls Tryd.prog 11 #[.agg (gv g sa sc aa ac)] W' fun e w' => e = .returned (prV g) ∧ Bl V w') := fun W' h' => Print_x g sa sc aa ac h' (hgV.bl h') hk
  have CQ : Hid (∀ W', Bl V W' → Calls Tryd.prog 12 #[.agg (gv g sa sc aa ac)] W' fun e w' => e = .returned (prV g) ∧ Bl V w') := fun W' h' => rPrint_x g sa sc aa ac h' (hgV.bl h') hk
  have CS : Hid (∀ W', Bl V W' → Calls Tryd.prog 13 #[.agg (gv g sa sc aa ac), .agg (gv h ta tc ba bc)] W' fun e w' => e = .returned (.bool (decide (g = h))) ∧ Bl V w') := fun W' h' => Same_at g h sa sc aa ac ta tc ba bc h' (hgV.bl h') (hhV.bl h') hk hkh
  have CT : Hid (greatB g = false → greatB h = false → ∀ W', Bl V W' → Calls Tryd.prog 14 #[.agg (gv g sa sc aa ac), .agg (gv h ta tc ba bc)] W' fun e w' => e = .returned (.bool (decide (g = h))) ∧ Bl V w') := fun g1 g2 W' h' => rSame_x g h sa sc aa ac ta tc ba bc h' (hgV.bl h') (hhV.bl h') (great_small g1) (great_small g2)
  have SU0 : Hid (∀ U W', Bl V U → Bl U W' → Calls Tryd.prog 13 #[.agg (gv g sa sc aa ac), .agg (gv h ta tc ba bc)] W' fun e w' => e = .returned (.bool (decide (g = h))) ∧ Bl U w') := fun U W' hU h' => Same_at g h sa sc aa ac ta tc ba bc h' (hgV.bl (hU.step h')) (hhV.bl (hU.step h')) hk hkh
  have TU0 : Hid (greatB g = false → greatB h = false → ∀ U W', Bl V U → Bl U W' → Calls Tryd.prog 14 #[.agg (gv g sa sc aa ac), .agg (gv h ta tc ba bc)] W' fun e w' => e = .returned (.bool (decide (g = h))) ∧ Bl U w') := fun g1 g2 U W' hU h' => rSame_x g h sa sc aa ac ta tc ba bc h' (hgV.bl (hU.step h')) (hhV.bl (hU.step h')) (great_small g1) (great_small g2)
  have CI : Hid (∀ W', Calls Tryd.prog 15 #[.string (M.bs l)] W' fun e w' => e = .returned (.bool (RC.isNm l)) ∧ w' = W') := fun W' => IsName_at l W' hl
  have CJ : Hid (∀ W', Calls Tryd.prog 16 #[.string (M.bs l)] W' fun e w' => e = .returned (.bool (RC.isNm l)) ∧ w' = W') := fun W' => rIsName_at l W' hl
  unfold maxLen at hl
  have D0 : Hid (∀ W' i, Bl V W' → W'.cell? ⟨W.heap.size, i, none⟩ = (gv g sa sc aa ac)[i]? ∧ W'.cell? ⟨W.heap.size + 1, i, none⟩ = (gv h ta tc ba bc)[i]?) := fun W' i h' => by rw [hV] at h'; exact box2_cells h' i
  have DD : Hid (∀ W', Bl V W' → W'.cell? ⟨W.heap.size, 0, none⟩ = some (.slice sa g.1.length sc) ∧ W'.cell? ⟨W.heap.size, 1, none⟩ = some (.slice aa g.2.length ac) ∧ W'.cell? ⟨W.heap.size + 1, 0, none⟩ = some (.slice ta h.1.length tc) ∧ W'.cell? ⟨W.heap.size + 1, 1, none⟩ = some (.slice ba h.2.length bc)) := fun W' h' => ⟨(D0.out W' 0 h').1, (D0.out W' 1 h').1, (D0.out W' 0 h').2, (D0.out W' 1 h').2⟩
  clear D0 hg hh hk hkh hgV hhV hm hmV
  cases hgr : greatB g with
  | true =>
    rw [hgr] at CG
    clear CH CP CQ CS CT CI CJ SU0 TU0 hgr
    unfold gv at CG hV ⊢
    subst hV
    go_enter Tryd.func3, Tryd.ntmps3
    go_wp2_with (first
      | (go_at_call 9; refine CW.out.mono ?_; rintro e w1 ⟨rfl, HB⟩; obtain ⟨d0, d1, d2, d3⟩ := DD.out _ HB; clear CW)
      | (go_at_call 10; refine (CG.out _ HB).mono ?_; clear HB d0 d1 d2 d3 CG; rintro e w2 ⟨rfl, HB⟩))
    go_ret
    exact ⟨rfl, HFI.out _ HB⟩
  | false =>
    rw [hgr] at CG
    cases hhr : greatB h with
    | true =>
      rw [hhr] at CH
      clear CP CQ CS CT CI CJ SU0 TU0 hgr hhr
      unfold gv at CG CH hV ⊢
      subst hV
      go_enter Tryd.func3, Tryd.ntmps3
      go_wp2_with (first
        | (go_at_call 9; refine CW.out.mono ?_; rintro e w1 ⟨rfl, HB⟩; obtain ⟨d0, d1, d2, d3⟩ := DD.out _ HB; clear CW)
        | (go_at_call 10; refine (CG.out _ HB).mono ?_; clear HB d0 d1 d2 d3 CG; rintro e w2 ⟨rfl, HB⟩; obtain ⟨d0, d1, d2, d3⟩ := DD.out _ HB)
        | (go_at_call 10; refine (CH.out _ HB).mono ?_; clear HB d0 d1 d2 d3 CH; rintro e w3 ⟨rfl, HB⟩))
      go_ret
      exact ⟨rfl, HFI.out _ HB⟩
    | false =>
      rw [hhr] at CH
      by_cases h8 : 1000 < l.length
      · clear CP CQ CS CT CI CJ SU0 TU0 hgr hhr
        unfold gv at CG CH hV ⊢
        subst hV
        go_enter Tryd.func3, Tryd.ntmps3
        go_wp2_with (first
          | (go_at_call 9; refine CW.out.mono ?_; rintro e w1 ⟨rfl, HB⟩; obtain ⟨d0, d1, d2, d3⟩ := DD.out _ HB; clear CW)
          | (go_at_call 10; refine (CG.out _ HB).mono ?_; clear HB d0 d1 d2 d3 CG; rintro e w2 ⟨rfl, HB⟩; obtain ⟨d0, d1, d2, d3⟩ := DD.out _ HB)
          | (go_at_call 10; refine (CH.out _ HB).mono ?_; clear HB d0 d1 d2 d3 CH; rintro e w3 ⟨rfl, HB⟩))
        go_ret
        exact ⟨rfl, HFI.out _ HB⟩
      · have CT2 : Hid (∀ W', Bl V W' → Calls Tryd.prog 14 #[.agg (gv g sa sc aa ac), .agg (gv h ta tc ba bc)] W' fun e w' => e = .returned (.bool (decide (g = h))) ∧ Bl V w') := CT.out hgr hhr
        have h8' : (l.length : Int) ≤ 1000 := by omega
        have SU := SU0
        have TU : Hid (∀ U W', Bl V U → Bl U W' → Calls Tryd.prog 14 #[.agg (gv g sa sc aa ac), .agg (gv h ta tc ba bc)] W' fun e w' => e = .returned (.bool (decide (g = h))) ∧ Bl U w') := TU0.out hgr hhr
        clear SU0 TU0
        obtain ⟨X, E, hpr⟩ : ∃ (X : ByteArray) (E : Int), prV g = .tuple #[.string X, .int .i64 E] := by
          unfold prV
          cases RC.can g
          · exact ⟨_, _, rfl⟩
          · exact ⟨_, _, rfl⟩
        rw [hpr] at CP CQ
        generalize decide (g = h) = q at *
        generalize RC.isNm l = qn at *
        clear CT hgr hhr h8 hpr
        unfold gv at *
        subst hV
        go_enter Tryd.func3, Tryd.ntmps3
        go_wp2_with (first
          | (go_at_call 9; refine CW.out.mono ?_; rintro e w1 ⟨rfl, HB⟩; obtain ⟨d0, d1, d2, d3⟩ := DD.out _ HB; clear CW)
          | (go_at_call 10; refine (CG.out _ HB).mono ?_; clear HB d0 d1 d2 d3 CG; rintro e w2 ⟨rfl, HB⟩; obtain ⟨d0, d1, d2, d3⟩ := DD.out _ HB)
          | (go_at_call 10; refine (CH.out _ HB).mono ?_; clear HB d0 d1 d2 d3 CH; rintro e w3 ⟨rfl, HB⟩; obtain ⟨d0, d1, d2, d3⟩ := DD.out _ HB)
          | (go_at_call 11; refine (CP.out _ HB).mono ?_; clear HB d0 d1 d2 d3 CP; rintro e w4 ⟨rfl, HB⟩; obtain ⟨d0, d1, d2, d3⟩ := DD.out _ HB)
          | (go_at_call 12; refine (CQ.out _ HB).mono ?_; clear HB d0 d1 d2 d3 CQ; rintro e U ⟨rfl, HB⟩))
        have z1 : (X == X) = true := by show (X.data == X.data) = true; simp
        have z2 : (X.toList == X.toList) = true := by simp
        have z3 : (E == E) = true := by simp
        have z5 : (q == q) = true := by cases q <;> rfl
        have z6 : (qn == qn) = true := by cases qn <;> rfl
        obtain ⟨c1, hc1⟩ : ∃ c, c = [Value.slice sa g.1.length sc, .slice aa g.2.length ac] := ⟨_, rfl⟩
        obtain ⟨c2, hc2⟩ : ∃ c, c = [Value.slice ta h.1.length tc, .slice ba h.2.length bc] := ⟨_, rfl⟩
        have Y1 : Hid (∀ W', Bl U W' → Calls Tryd.prog 13 #[.agg (List.toArray c1), .agg (List.toArray c2)] W' fun e w' => e = .returned (.bool q) ∧ Bl U w') := fun W' h' => by
          rw [hc1, hc2]
          exact SU.out U W' HB h'
        have Y2 : Hid (∀ W', Bl U W' → Calls Tryd.prog 14 #[.agg (List.toArray c1), .agg (List.toArray c2)] W' fun e w' => e = .returned (.bool q) ∧ Bl U w') := fun W' h' => by
          rw [hc1, hc2]
          exact TU.out U W' HB h'
        have Y3 : Hid (∀ W', Bl U W' → Calls Tryd.prog 15 #[.string (M.bs l)] W' fun e w' => e = .returned (.bool qn) ∧ Bl U w') := fun W' h' => by
          refine (CI.out W').mono ?_
          rintro e w' ⟨rfl, rfl⟩
          exact ⟨rfl, h'⟩
        have Y4 : Hid (∀ W', Bl U W' → Calls Tryd.prog 16 #[.string (M.bs l)] W' fun e w' => e = .returned (.bool qn) ∧ Bl U w') := fun W' h' => by
          refine (CJ.out W').mono ?_
          rintro e w' ⟨rfl, rfl⟩
          exact ⟨rfl, h'⟩
        have HFU : Hid (∀ W', Bl U W' → Bl W W') := fun W' h' => HFI.out _ (HB.step h')
        have KP : Hid (∀ W', Bl U W' → W'.rangeAt W.heap.size 0 c1 ∧ W'.rangeAt (W.heap.size + 1) 0 c2) := fun W' h' => by
          obtain ⟨d0, d1, d2, d3⟩ := DD.out _ (HB.step h')
          rw [hc1, hc2]
          constructor
          · intro j v hv
            rcases j with _ | _ | j
            · cases hv; exact d0
            · cases hv; exact d1
            · simp at hv
          · intro j v hv
            rcases j with _ | _ | j
            · cases hv; exact d2
            · cases hv; exact d3
            · simp at hv
        have hi1 : (Tryd.prog.info? 25).map (·.size) = some c1.length := by rw [infoG, hc1]; rfl
        have hi2 : (Tryd.prog.info? 25).map (·.size) = some c2.length := by rw [infoG, hc2]; rfl
        have XD : Bl U U.drew := (Bl.refl U).drewN 1
        obtain ⟨fs, hum⟩ := undG
        clear hc1 hc2 CS CT2 CI CJ DD HFI SU TU HB
        generalize W.heap.size = bx at *
        refine wp_region_noPanic ?_
        refine wp_region_held_drew (S := (fun W => W.rangeAt bx 0 c1 ∧ W.rangeAt (bx + 1) 0 c2)) (by kernel_rfl) (KP.out _ XD) (fun hHeld => ?_)
        refine wpAnyH_take (i := 0) rfl (by kernel_rfl) (by kernel_rfl) (by kernel_rfl) (fun _ _ _ h => h) (yi_move (by kernel_rfl) rfl rfl) (by assumption) ?_
        simp only [Act.put, List.getElem_toArray, List.getElem_cons_succ, List.getElem_cons_zero, List.setIfInBounds_toArray, List.set_cons_zero, List.set_cons_succ]
        refine wpAnyH_take (i := 1) rfl (by kernel_rfl) (by kernel_rfl) (by kernel_rfl) (fun _ _ _ h => h) (yi_move (by kernel_rfl) rfl rfl) (by assumption) ?_
        simp only [Act.put, List.getElem_toArray, List.getElem_cons_succ, List.getElem_cons_zero, List.setIfInBounds_toArray, List.set_cons_zero, List.set_cons_succ]
        refine wpAnyH_take (i := 2) (v := ?_) rfl (by kernel_rfl) (by kernel_rfl) (by kernel_rfl) (fun _ _ _ h => h) (Or.inl ⟨by kernel_rfl, ?_⟩) (by assumption) ?_
        rotate_left
        · (intro w hSw; (try dsimp only at hSw); go_simp; (try with_reducible rfl))
        simp only [Act.put, List.getElem_toArray, List.getElem_cons_succ, List.getElem_cons_zero, List.setIfInBounds_toArray, List.set_cons_zero, List.set_cons_succ]
        refine wpAnyH_take (i := 3) rfl (by kernel_rfl) (by kernel_rfl) (by kernel_rfl) (fun _ _ _ h => h) (yi_move (by kernel_rfl) rfl rfl) (by assumption) ?_
        simp only [Act.put, List.getElem_toArray, List.getElem_cons_succ, List.getElem_cons_zero, List.setIfInBounds_toArray, List.set_cons_zero, List.set_cons_succ]
        refine wpAnyH_take (i := 4) rfl (by kernel_rfl) (by kernel_rfl) (by kernel_rfl) (fun _ _ _ h => h) (yi_move (by kernel_rfl) rfl rfl) (by assumption) ?_
        simp only [Act.put, List.getElem_toArray, List.getElem_cons_succ, List.getElem_cons_zero, List.setIfInBounds_toArray, List.set_cons_zero, List.set_cons_succ]
        refine wpAnyH_take (i := 5) rfl (by kernel_rfl) (by kernel_rfl) (by kernel_rfl) (fun _ _ _ h => h) (yi_move (by kernel_rfl) rfl rfl) (by assumption) ?_
        simp only [Act.put, List.getElem_toArray, List.getElem_cons_succ, List.getElem_cons_zero, List.setIfInBounds_toArray, List.set_cons_zero, List.set_cons_succ]
        refine wpAnyH_take (i := 6) (v := ?_) rfl (by kernel_rfl) (by kernel_rfl) (by kernel_rfl) (fun _ _ _ h => h) (Or.inl ⟨by kernel_rfl, ?_⟩) (by assumption) ?_
        rotate_left
        · (intro w hSw; (try dsimp only at hSw); go_simp; (try with_reducible rfl))
        simp only [Act.put, List.getElem_toArray, List.getElem_cons_succ, List.getElem_cons_zero, List.setIfInBounds_toArray, List.set_cons_zero, List.set_cons_succ]
        refine wpAnyH_take (i := 7) (v := ?_) rfl (by kernel_rfl) (by kernel_rfl) (by kernel_rfl) (fun _ _ _ h => h) (Or.inl ⟨by kernel_rfl, ?_⟩) (by assumption) ?_
        rotate_left
        · (intro w hSw; (try dsimp only at hSw); go_simp; (try with_reducible rfl))
        simp only [Act.put, List.getElem_toArray, List.getElem_cons_succ, List.getElem_cons_zero, List.setIfInBounds_toArray, List.set_cons_zero, List.set_cons_succ]
        refine wpAnyH_take (i := 8) rfl (by kernel_rfl) (by kernel_rfl) (by kernel_rfl) (fun _ _ _ h => h) (yi_move (by kernel_rfl) rfl rfl) (by assumption) ?_
        simp only [Act.put, List.getElem_toArray, List.getElem_cons_succ, List.getElem_cons_zero, List.setIfInBounds_toArray, List.set_cons_zero, List.set_cons_succ]
        refine wpAnyH_take (i := 9) (v := .agg (List.toArray c1)) rfl (by kernel_rfl) (by kernel_rfl) (by kernel_rfl) (fun _ _ _ h => h) (yieldsIf_load_mid (by kernel_rfl) _ (.tmp 3) (by kernel_rfl) bx 0 (by kernel_rfl) c1 _ (fun W hW => hW.1) hum rfl hi1) (by assumption) ?_
        simp only [Act.put, List.getElem_toArray, List.getElem_cons_succ, List.getElem_cons_zero, List.setIfInBounds_toArray, List.set_cons_zero, List.set_cons_succ]
        refine wpAnyH_take (i := 10) (v := .agg (List.toArray c2)) rfl (by kernel_rfl) (by kernel_rfl) (by kernel_rfl) (fun _ _ _ h => h) (yieldsIf_load_mid (by kernel_rfl) _ (.tmp 4) (by kernel_rfl) (bx + 1) 0 (by kernel_rfl) c2 _ (fun W hW => hW.2) hum rfl hi2) (by assumption) ?_
        simp only [Act.put, List.getElem_toArray, List.getElem_cons_succ, List.getElem_cons_zero, List.setIfInBounds_toArray, List.set_cons_zero, List.set_cons_succ]
        refine wpAnyH_take (i := 12) (v := .agg (List.toArray c1)) rfl (by kernel_rfl) (by kernel_rfl) (by kernel_rfl) (fun _ _ _ h => h) (yieldsIf_load_mid (by kernel_rfl) _ (.tmp 3) (by kernel_rfl) bx 0 (by kernel_rfl) c1 _ (fun W hW => hW.1) hum rfl hi1) (by assumption) ?_
        simp only [Act.put, List.getElem_toArray, List.getElem_cons_succ, List.getElem_cons_zero, List.setIfInBounds_toArray, List.set_cons_zero, List.set_cons_succ]
        refine wpAnyH_take (i := 13) (v := .agg (List.toArray c2)) rfl (by kernel_rfl) (by kernel_rfl) (by kernel_rfl) (fun _ _ _ h => h) (yieldsIf_load_mid (by kernel_rfl) _ (.tmp 4) (by kernel_rfl) (bx + 1) 0 (by kernel_rfl) c2 _ (fun W hW => hW.2) hum rfl hi2) (by assumption) ?_
        simp only [Act.put, List.getElem_toArray, List.getElem_cons_succ, List.getElem_cons_zero, List.setIfInBounds_toArray, List.set_cons_zero, List.set_cons_succ]
        refine wpAnyH_ready (rs := [11]) (by kernel_rfl) (by simp) ?_
        refine AllReadyH.cons (o := _) rfl (fun K hK => ?_) AllReadyH.nil
        go_simp
        (refine (Y1.out _ XD).mono ?_; rintro e x14 ⟨rfl, HB14⟩; dsimp only)
        refine hK.out _ _ (KP.out _ HB14) (fun hHeld => ?_)
        clear hK K
        (try simp only [Act.put, List.getElem_toArray, List.getElem_cons_succ, List.getElem_cons_zero, List.setIfInBounds_toArray, List.set_cons_zero, List.set_cons_succ])
        refine wpAnyH_ready (rs := [14]) (by kernel_rfl) (by simp) ?_
        refine AllReadyH.cons (o := _) rfl (fun K hK => ?_) AllReadyH.nil
        go_simp
        (refine (Y2.out _ HB14).mono ?_; rintro e x15 ⟨rfl, HB15⟩; dsimp only)
        refine hK.out _ _ (KP.out _ HB15) (fun hHeld => ?_)
        clear hK K
        (try simp only [Act.put, List.getElem_toArray, List.getElem_cons_succ, List.getElem_cons_zero, List.setIfInBounds_toArray, List.set_cons_zero, List.set_cons_succ])
        refine wpAnyH_take (i := 15) (v := ?_) rfl (by kernel_rfl) (by kernel_rfl) (by kernel_rfl) (fun _ _ _ h => h) (Or.inl ⟨by kernel_rfl, ?_⟩) (by assumption) ?_
        rotate_left
        · (intro w hSw; (try dsimp only at hSw); go_simp; (try with_reducible rfl))
        simp only [Act.put, List.getElem_toArray, List.getElem_cons_succ, List.getElem_cons_zero, List.setIfInBounds_toArray, List.set_cons_zero, List.set_cons_succ]
        refine wpAnyH_take (i := 16) (v := ?_) rfl (by kernel_rfl) (by kernel_rfl) (by kernel_rfl) (fun _ _ _ h => h) (Or.inl ⟨by kernel_rfl, ?_⟩) (by assumption) ?_
        rotate_left
        · (intro w hSw; (try dsimp only at hSw); go_simp; (try with_reducible rfl))
        simp only [Act.put, List.getElem_toArray, List.getElem_cons_succ, List.getElem_cons_zero, List.setIfInBounds_toArray, List.set_cons_zero, List.set_cons_succ]
        refine wpAnyH_take (i := 17) rfl (by kernel_rfl) (by kernel_rfl) (by kernel_rfl) (fun _ _ _ h => h) (yi_move (by kernel_rfl) rfl rfl) (by assumption) ?_
        simp only [Act.put, List.getElem_toArray, List.getElem_cons_succ, List.getElem_cons_zero, List.setIfInBounds_toArray, List.set_cons_zero, List.set_cons_succ]
        refine wpAnyH_take (i := 18) rfl (by kernel_rfl) (by kernel_rfl) (by kernel_rfl) (fun _ _ _ h => h) (yi_move (by kernel_rfl) rfl rfl) (by assumption) ?_
        simp only [Act.put, List.getElem_toArray, List.getElem_cons_succ, List.getElem_cons_zero, List.setIfInBounds_toArray, List.set_cons_zero, List.set_cons_succ]
        refine wpAnyH_take (i := 20) rfl (by kernel_rfl) (by kernel_rfl) (by kernel_rfl) (fun _ _ _ h => h) (yi_move (by kernel_rfl) rfl rfl) (by assumption) ?_
        simp only [Act.put, List.getElem_toArray, List.getElem_cons_succ, List.getElem_cons_zero, List.setIfInBounds_toArray, List.set_cons_zero, List.set_cons_succ]
        refine wpAnyH_ready (rs := [19]) (by kernel_rfl) (by simp) ?_
        refine AllReadyH.cons (o := _) rfl (fun K hK => ?_) AllReadyH.nil
        go_simp
        (refine (Y3.out _ HB15).mono ?_; rintro e x21 ⟨rfl, HB21⟩; dsimp only)
        refine hK.out _ _ (KP.out _ HB21) (fun hHeld => ?_)
        clear hK K
        (try simp only [Act.put, List.getElem_toArray, List.getElem_cons_succ, List.getElem_cons_zero, List.setIfInBounds_toArray, List.set_cons_zero, List.set_cons_succ])
        refine wpAnyH_ready (rs := [21]) (by kernel_rfl) (by simp) ?_
        refine AllReadyH.cons (o := _) rfl (fun K hK => ?_) AllReadyH.nil
        go_simp
        (refine (Y4.out _ HB21).mono ?_; rintro e x22 ⟨rfl, HB22⟩; dsimp only)
        refine hK.out _ _ (KP.out _ HB22) (fun hHeld => ?_)
        clear hK K
        (try simp only [Act.put, List.getElem_toArray, List.getElem_cons_succ, List.getElem_cons_zero, List.setIfInBounds_toArray, List.set_cons_zero, List.set_cons_succ])
        refine wpAnyH_take (i := 22) (v := ?_) rfl (by kernel_rfl) (by kernel_rfl) (by kernel_rfl) (fun _ _ _ h => h) (Or.inl ⟨by kernel_rfl, ?_⟩) (by assumption) ?_
        rotate_left
        · (intro w hSw; (try dsimp only at hSw); go_simp; (try with_reducible rfl))
        simp only [Act.put, List.getElem_toArray, List.getElem_cons_succ, List.getElem_cons_zero, List.setIfInBounds_toArray, List.set_cons_zero, List.set_cons_succ]
        refine wpAnyH_take (i := 23) (v := ?_) rfl (by kernel_rfl) (by kernel_rfl) (by kernel_rfl) (fun _ _ _ h => h) (Or.inl ⟨by kernel_rfl, ?_⟩) (by assumption) ?_
        rotate_left
        · (intro w hSw; (try dsimp only at hSw); go_simp; (try with_reducible rfl))
        simp only [Act.put, List.getElem_toArray, List.getElem_cons_succ, List.getElem_cons_zero, List.setIfInBounds_toArray, List.set_cons_zero, List.set_cons_succ]
        refine wpAnyH_take (i := 24) rfl (by kernel_rfl) (by kernel_rfl) (by kernel_rfl) (fun _ _ _ h => h) (yi_assign (by kernel_rfl) rfl rfl) (by assumption) ?_
        simp only [Act.put, List.getElem_toArray, List.getElem_cons_succ, List.getElem_cons_zero, List.setIfInBounds_toArray, List.set_cons_zero, List.set_cons_succ]
        refine wpAnyH_done (by kernel_rfl) ?_ _
        refine NoPanic.normal ?_
        go_wp2_with fail
        go_ret
        exact ⟨rfl, HFU.out _ HB22⟩
end Go.Proofs.YtgjpcddjfmdobaaDoor
