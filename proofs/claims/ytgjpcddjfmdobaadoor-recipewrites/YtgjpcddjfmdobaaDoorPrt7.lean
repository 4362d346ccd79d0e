/- RecipeParts: a build's text is its sources' and its actions': the law answers true for every build. -/
import Derived.Test.YtgjpcddjfmdobaaDoorGre
namespace Go.Proofs.YtgjpcddjfmdobaaDoor
open Go.RowKit
set_option linter.unusedVariables false

/-- a build's box among what is known -/
theorem box_cells {W W' : World} {C : Array Value} {T : TypeId} (h : Bl (W.alloc (.cells C T)) W') (i : Nat) : W'.cell? ⟨W.heap.size, i, none⟩ = C[i]? := by
  rw [Bl.cell h (by simp), Lib.cell_of_heap (heap_alloc_new W _)]
theorem GA.srcs {B : Nat} {w : World} {g : RC.Gr} {sa : Option Addr} {sc : Nat} {aa : Option Addr} {ac : Nat} (h : GA B w g sa sc aa ac) (x : Option Addr) (c : Nat) : GA B w (g.1, []) sa sc x c := ⟨h.s, fun i t ht => by simp at ht⟩
theorem GA.acts {B : Nat} {w : World} {g : RC.Gr} {sa : Option Addr} {sc : Nat} {aa : Option Addr} {ac : Nat} (h : GA B w g sa sc aa ac) (x : Option Addr) (c : Nat) : GA B w ([], g.2) x c aa ac := ⟨Or.inl ⟨rfl, x, c, rfl⟩, h.a⟩
theorem grOk.srcs {g : RC.Gr} (h : grOk g) : grOk (g.1, []) := ⟨h.s, h.t, by simp, fun t ht => by simp at ht⟩
theorem grOk.acts {g : RC.Gr} (h : grOk g) : grOk ([], g.2) := ⟨by simp, fun s hs => by simp at hs, h.a, h.b⟩
/-- what Print answers -/
def prV (g : RC.Gr) : Value := bif RC.can g then .tuple #[.string (M.bs (RC.text g)), .int .i64 0] else .tuple #[.string (M.bs []), .int .i64 1]
theorem Print_x (g : RC.Gr) (sa : Option Addr) (sc : Nat) (aa : Option Addr) (ac : Nat) {w W : World} (HB : Bl w W) (hg : GA W.heap.size W g sa sc aa ac) (hk : grOk g) :
    Calls Tryd.prog 11 #[.agg (gv g sa sc aa ac)] W fun e w' => e = .returned (prV g) ∧ Bl w w' := by
  unfold prV
  cases hc : RC.can g with
  | true => exact Print_yes g sa sc aa ac HB hg hk hc
  | false => exact Print_no g sa sc aa ac HB hg hk hc
theorem Parse_text (g : RC.Gr) (hc : RC.can g = true) {w W : World} (HB : Bl w W) (hm : MX W) :
    Calls Tryd.prog 17 #[.string (M.bs (RC.text g))] W fun e w' => ∃ sa sc aa ac, e = .returned (.tuple #[.agg (gv g sa sc aa ac), .int .i64 0, .int .i64 0]) ∧ GA w'.heap.size w' g sa sc aa ac ∧ Bl w w' := by
  have hl := RC.text_length g hc
  have h := Parse_x (RC.text g) HB hm (by omega)
  rw [← RC.parse_eq _ (by omega), RC.parse_text g hc] at h
  exact h

set_option maxRecDepth 8000 in
set_option maxHeartbeats 4000000 in
theorem parts_walk (g : RC.Gr) (sa : Option Addr) (sc : Nat) (aa : Option Addr) (ac : Nat) (W : World) (hm : MX W) (hg : GA W.heap.size W g sa sc aa ac) (hk : grOk g) :
    Calls Tryd.prog 8 #[.agg (gv g sa sc aa ac)] W fun e w' => e = .returned (.bool true) ∧ Bl W w' := by
  obtain ⟨S, A⟩ := g
  obtain ⟨V, hV⟩ : ∃ V, V = W.alloc (.cells (gv (S, A) sa sc aa ac) 25) := ⟨_, rfl⟩
  have hWV : Bl W V := by rw [hV]; exact (Bl.refl W).alloc _
  have hmV : MX V := hm.bl hWV
  have hgV := hg.bl hWV
  have HFI : Hid (∀ W', Bl V W' → Bl W W') := fun W' h => hWV.step h
  have CW : Hid (Calls Tryd.prog 9 #[] V fun e w' => e = .returned (.bool true) ∧ Bl V w') := awake_x (Bl.refl V) hmV
  have CG : Hid (∀ W', Bl V W' → Calls Tryd.prog 10 #[.agg (gv (S, A) sa sc aa ac)] W' fun e w' => e = .returned (.bool (greatB (S, A))) ∧ Bl V w') := fun W' h => great_x (S, A) sa sc aa ac h (hgV.bl h) hk
  have CP : Hid (∀ W', Bl V W' → Calls Tryd.prog 11 #[.agg (gv (S, A) sa sc aa ac)] W' fun e w' => e = .returned (prV (S, A)) ∧ Bl V w') := fun W' h => Print_x (S, A) sa sc aa ac h (hgV.bl h) hk
  have C0 : Hid (∀ W' i, Bl V W' → W'.cell? ⟨W.heap.size, i, none⟩ = (gv (S, A) sa sc aa ac)[i]?) := fun W' i h => by rw [hV] at h; exact box_cells h i
  have D0 : Hid (∀ W', Bl V W' → W'.cell? ⟨W.heap.size, 0, none⟩ = some (.slice sa S.length sc)) := fun W' h => by rw [C0.out W' 0 h]; rfl
  have D1 : Hid (∀ W', Bl V W' → W'.cell? ⟨W.heap.size, 1, none⟩ = some (.slice aa A.length ac)) := fun W' h => by rw [C0.out W' 1 h]; rfl
  have CS : Hid (∀ W', Bl V W' → Calls Tryd.prog 11 #[.agg (gv (S, []) sa sc none 0)] W' fun e w' => e = .returned (prV (S, [])) ∧ Bl V w') := fun W' h => Print_x (S, []) sa sc none 0 h ((hgV.bl h).srcs none 0) hk.srcs
  have CA : Hid (∀ W', Bl V W' → Calls Tryd.prog 11 #[.agg (gv ([], A) none 0 aa ac)] W' fun e w' => e = .returned (prV ([], A)) ∧ Bl V w') := fun W' h => Print_x ([], A) none 0 aa ac h ((hgV.bl h).acts none 0) hk.acts
  cases hgr : greatB (S, A) with
  | true =>
    rw [hgr] at CG
    clear C0 CP CS CA hg hk hmV hgV hm hgr
    unfold gv at CG hV ⊢
    simp only [] at CG hV ⊢
    subst hV
    go_enter Tryd.func8, Tryd.ntmps8
    go_wp2_with (first
      | (go_at_call 9; refine CW.out.mono ?_; rintro e w1 ⟨rfl, HB⟩; have hd0 := D0.out _ HB; have hd1 := D1.out _ HB; clear CW)
      | (go_at_call 10; refine (CG.out _ HB).mono ?_; clear HB hd0 hd1; rintro e w2 ⟨rfl, HB⟩))
    go_ret
    exact ⟨rfl, HFI.out _ HB⟩
  | false =>
    rw [hgr] at CG
    have hsp := RC.can_split (S, A)
    simp only [] at hsp
    cases hcn : RC.can (S, A) with
    | false =>
      rw [hcn] at hsp
      simp only [prV, hcn, cond_false] at CP
      have hcs : RC.can (S, []) = false ∨ (RC.can (S, []) = true ∧ RC.can ([], A) = false) := by
        cases e1 : RC.can (S, []) <;> cases e2 : RC.can ([], A) <;> simp [e1, e2] at hsp ⊢
      have hem : (M.bs []).toList.isEmpty = true := by rw [bs_empty]; rfl
      rcases hcs with h1 | ⟨h1, h2⟩
      · simp only [prV, h1, cond_false] at CS
        cases h2 : RC.can ([], A)
        all_goals
          simp only [prV, h2, cond_false, cond_true] at CA
          clear C0 hg hk hmV hgV hm hgr hsp hcn h1 h2
          unfold gv at CG CP CS CA hV ⊢
          simp only [List.length_nil] at CG CP CS CA hV ⊢
          subst hV
          go_enter Tryd.func8, Tryd.ntmps8
          go_wp2_with (first
            | (go_at_call 9; refine CW.out.mono ?_; rintro e w1 ⟨rfl, HB⟩; have hd0 := D0.out _ HB; have hd1 := D1.out _ HB; clear CW)
            | (go_at_call 10; refine (CG.out _ HB).mono ?_; clear HB hd0 hd1 CG; rintro e w2 ⟨rfl, HB⟩; have hd0 := D0.out _ HB; have hd1 := D1.out _ HB)
            | (go_at_call 11; refine (CP.out _ HB).mono ?_; clear HB hd0 hd1 CP; rintro e w3 ⟨rfl, HB⟩; have hd0 := D0.out _ HB; have hd1 := D1.out _ HB)
            | (go_at_call 11; refine (CS.out _ HB).mono ?_; clear HB hd0 hd1 CS; rintro e w4 ⟨rfl, HB⟩; have hd0 := D0.out _ HB; have hd1 := D1.out _ HB)
            | (go_at_call 11; refine (CA.out _ HB).mono ?_; clear HB hd0 hd1 CA; rintro e w5 ⟨rfl, HB⟩))
          go_ret
          exact ⟨rfl, HFI.out _ HB⟩
      · simp only [prV, h1, cond_true] at CS
        simp only [prV, h2, cond_false] at CA
        clear C0 hg hk hmV hgV hm hgr hsp hcn h1 h2
        unfold gv at CG CP CS CA hV ⊢
        simp only [List.length_nil] at CG CP CS CA hV ⊢
        subst hV
        go_enter Tryd.func8, Tryd.ntmps8
        go_wp2_with (first
          | (go_at_call 9; refine CW.out.mono ?_; rintro e w1 ⟨rfl, HB⟩; have hd0 := D0.out _ HB; have hd1 := D1.out _ HB; clear CW)
          | (go_at_call 10; refine (CG.out _ HB).mono ?_; clear HB hd0 hd1 CG; rintro e w2 ⟨rfl, HB⟩; have hd0 := D0.out _ HB; have hd1 := D1.out _ HB)
          | (go_at_call 11; refine (CP.out _ HB).mono ?_; clear HB hd0 hd1 CP; rintro e w3 ⟨rfl, HB⟩; have hd0 := D0.out _ HB; have hd1 := D1.out _ HB)
          | (go_at_call 11; refine (CS.out _ HB).mono ?_; clear HB hd0 hd1 CS; rintro e w4 ⟨rfl, HB⟩; have hd0 := D0.out _ HB; have hd1 := D1.out _ HB)
          | (go_at_call 11; refine (CA.out _ HB).mono ?_; clear HB hd0 hd1 CA; rintro e w5 ⟨rfl, HB⟩))
        go_ret
        exact ⟨rfl, HFI.out _ HB⟩
    | true =>
      rw [hcn] at hsp
      obtain ⟨h1, h2⟩ : RC.can (S, []) = true ∧ RC.can ([], A) = true := by simpa using hsp.symm
      have htx := RC.text_split (S, A)
      have hl0 := RC.text_length _ hcn
      have hl1 := RC.text_length _ h1
      have hl2 := RC.text_length _ h2
      simp only [prV, hcn, cond_true] at CP
      simp only [prV, h1, cond_true] at CS
      simp only [prV, h2, cond_true] at CA
      have PX : Hid (∀ W', Bl V W' → Calls Tryd.prog 17 #[.string (M.bs (RC.text (S, [])))] W' fun e w' => ∃ sa sc aa ac, e = .returned (.tuple #[.agg (gv (S, []) sa sc aa ac), .int .i64 0, .int .i64 0]) ∧ GA w'.heap.size w' (S, []) sa sc aa ac ∧ Bl V w') := fun W' h => Parse_text (S, []) h1 h (hmV.bl h)
      have PY : Hid (∀ V' W', Bl V V' → Bl V' W' → Calls Tryd.prog 17 #[.string (M.bs (RC.text ([], A)))] W' fun e w' => ∃ sa sc aa ac, e = .returned (.tuple #[.agg (gv ([], A) sa sc aa ac), .int .i64 0, .int .i64 0]) ∧ GA w'.heap.size w' ([], A) sa sc aa ac ∧ Bl V' w') := fun V' W' hv h => Parse_text ([], A) h2 h (hmV.bl (hv.step h))
      have SM : Hid (∀ (W' : World) (xa : Option Addr) (xc : Nat) (ya : Option Addr) (yc : Nat), Bl V W' → Strs W'.heap.size W' (.slice xa S.length xc) S → Acts W'.heap.size W' ya A → Calls Tryd.prog 13 #[.agg (gv (S, A) xa xc ya yc), .agg (gv (S, A) sa sc aa ac)] W' fun e w' => e = .returned (.bool true) ∧ Bl W' w') := fun W' xa xc ya yc h hs ha => by
        have := Same_at (S, A) (S, A) xa xc ya yc sa sc aa ac (Bl.refl W') ⟨hs, ha⟩ (hgV.bl h) hk hk
        rw [decide_eq_true rfl] at this
        exact this
      have e1 := bs_append (RC.text (S, [])) (RC.text ([], A))
      rw [← htx] at e1
      have z0 := M.bs_size (RC.text (S, A))
      have z1 := M.bs_size (RC.text (S, []))
      have z2 := M.bs_size (RC.text ([], A))
      have zz : ((M.bs (RC.text (S, A))).toList == (M.bs (RC.text (S, A))).toList) = true := by simp
      generalize RC.text (S, A) = T0 at *
      generalize RC.text (S, []) = T1 at *
      generalize RC.text ([], A) = T2 at *
      clear C0 hg hk hmV hgV hm hgr hsp hcn h1 h2 htx
      unfold gv at CG CP CS CA PX PY SM hV ⊢
      simp only [List.length_nil] at CG CP CS CA PX PY SM hV ⊢
      subst hV
      go_enter Tryd.func8, Tryd.ntmps8
      go_wp2_with (first
        | (go_at_call 9; refine CW.out.mono ?_; rintro e w1 ⟨rfl, HB⟩; have hd0 := D0.out _ HB; have hd1 := D1.out _ HB; clear CW)
        | (go_at_call 10; refine (CG.out _ HB).mono ?_; clear HB hd0 hd1 CG; rintro e w2 ⟨rfl, HB⟩; have hd0 := D0.out _ HB; have hd1 := D1.out _ HB)
        | (go_at_call 11; refine (CP.out _ HB).mono ?_; clear HB hd0 hd1 CP; rintro e w3 ⟨rfl, HB⟩; have hd0 := D0.out _ HB; have hd1 := D1.out _ HB)
        | (go_at_call 11; refine (CS.out _ HB).mono ?_; clear HB hd0 hd1 CS; rintro e w4 ⟨rfl, HB⟩; have hd0 := D0.out _ HB; have hd1 := D1.out _ HB)
        | (go_at_call 11; refine (CA.out _ HB).mono ?_; clear HB hd0 hd1 CA; rintro e w5 ⟨rfl, HB⟩)
        | (go_at_call 17; refine (PX.out _ HB).mono ?_; clear PX; rintro e w6 ⟨xa, xc, ya, yc, rfl, hx6, HB6⟩; clear HB)
        | (go_at_call 17; refine (PY.out _ _ (HB6.alloc _) (Bl.refl _)).mono ?_; clear PY; rintro e w7 ⟨ua, uc, va, vc, rfl, hy7, HB7⟩; have j0 := fun o => box_cells (HB7.alloc o) 0; have j1 := fun o => box_cells (HB7.alloc o) 1; have HB8 : Hid (∀ o, Bl _ (w7.alloc o)) := (fun o => ((HB6.alloc _).step HB7).alloc o); have i0 := fun o => D0.out _ (HB8.out o); have i1 := fun o => D1.out _ (HB8.out o); have HS7 : Hid (∀ o, Strs (w7.alloc o).heap.size (w7.alloc o) (.slice xa S.length xc) S) := (fun o => hx6.s.bl ((((Bl.refl w6).alloc _).step HB7).alloc o)); have HA7 : Hid (∀ o, Acts (w7.alloc o).heap.size (w7.alloc o) va A) := (fun o => hy7.a.bl ((Bl.refl w7).alloc o)); simp only [List.getElem?_toArray, List.getElem?_cons_zero, List.getElem?_cons_succ] at j0 j1; have hlt7 : w6.heap.size < w7.heap.size := (by have := Below.size HB7; simp at this; omega); clear hx6 hy7 HB6 HB7)
        | (go_at_call 13; refine (SM.out _ _ _ _ _ (HB8.out _) (HS7.out _) (HA7.out _)).mono ?_; clear SM; rintro e w8 ⟨rfl, HB9⟩; have l1 := (Bl.cell (o := 1) HB9 (show w6.heap.size < _ by simp; omega)).trans (j1 _); have l2 := box_cells HB9 0; simp only [List.getElem?_toArray, List.getElem?_cons_zero] at l2; have HBZ := HFI.out _ ((HB8.out _).step HB9); clear HB9))
      go_ret
      exact ⟨rfl, HBZ⟩
end Go.Proofs.YtgjpcddjfmdobaaDoor
