/- RecipeBack: builds and texts there and back: the law answers true for every two builds and every text. -/
import Derived.Test.YtgjpcddjfmdobaaDoorPrt7
namespace Go.Proofs.YtgjpcddjfmdobaaDoor
open Go.RowKit
set_option linter.unusedVariables false

theorem GA.zero (B : Nat) (w : World) : GA B w ([], []) none 0 none 0 := ⟨Or.inl ⟨rfl, none, 0, rfl⟩, fun i t ht => by simp at ht⟩
theorem grOk.zero : grOk ([], []) := ⟨by simp, fun s hs => by simp at hs, by simp, fun t ht => by simp at ht⟩
theorem can_ok {g : RC.Gr} (h : RC.can g = true) : grOk g := by
  obtain ⟨h1, h2, h3, h4⟩ := RC.can_parts h
  refine ⟨by unfold maxLen; omega, fun s hs => by have := (RC.isNm_len (h3 s hs)).1; unfold maxLen; omega, by unfold maxLen; omega, fun t ht => ?_⟩
  obtain ⟨a1, a2, a3, a4⟩ := RC.canA_parts (h4 t ht)
  exact ⟨by have := (RC.isNm_len a1).1; unfold maxLen; omega, by unfold maxLen; omega, fun s hs => by have := (RC.isNm_len (a3 s hs)).1; unfold maxLen; omega, by unfold maxLen; omega⟩
/-- two boxes, one behind the other -/
theorem box2_cells {W W' : World} {C D : Array Value} {T U : TypeId} (h : Bl ((W.alloc (.cells C T)).alloc (.cells D U)) W') (i : Nat) : W'.cell? ⟨W.heap.size, i, none⟩ = C[i]? ∧ W'.cell? ⟨W.heap.size + 1, i, none⟩ = D[i]? := by
  constructor
  · have h2 : Bl (W.alloc (.cells C T)) W' := ((Bl.refl _).alloc _).step h
    exact box_cells h2 i
  · have := box_cells h i
    rwa [show (W.alloc (.cells C T)).heap.size = W.heap.size + 1 by simp] at this

set_option maxRecDepth 8000 in
set_option maxHeartbeats 8000000 in
theorem back_walk (g h : RC.Gr) (sa : Option Addr) (sc : Nat) (aa : Option Addr) (ac : Nat) (ta : Option Addr) (tc : Nat) (ba : Option Addr) (bc : Nat) (l : List UInt8) (W : World) (hm : MX W) (hg : GA W.heap.size W g sa sc aa ac) (hk : grOk g) (hh : GA W.heap.size W h ta tc ba bc) (hkh : grOk h) (hl : l.length ≤ maxLen) :
    Calls Tryd.prog 5 #[.agg (gv g sa sc aa ac), .agg (gv h ta tc ba bc), .string (M.bs l)] W fun e w' => e = .returned (.bool true) ∧ Bl W w' := by
  obtain ⟨V, hV⟩ : ∃ V, V = (W.alloc (.cells (gv g sa sc aa ac) 25)).alloc (.cells (gv h ta tc ba bc) 25) := ⟨_, rfl⟩
  have hWV : Bl W V := by rw [hV]; exact ((Bl.refl W).alloc _).alloc _
  have hmV : MX V := hm.bl hWV
  have hgV := hg.bl hWV
  have hhV := hh.bl hWV
  have hzl := M.bs_size l
  unfold maxLen at hl
  have HFI : Hid (∀ W', Bl V W' → Bl W W') := fun W' h => hWV.step h
  have CW : Hid (Calls Tryd.prog 9 #[] V fun e w' => e = .returned (.bool true) ∧ Bl V w') := awake_x (Bl.refl V) hmV
  have CG : Hid (∀ W', Bl V W' → Calls Tryd.prog 10 #[.agg (gv g sa sc aa ac)] W' fun e w' => e = .returned (.bool (greatB g)) ∧ Bl V w') := fun W' h' => great_x g sa sc aa ac h' (hgV.bl h') hk
  have CH : Hid (∀ W', Bl V W' → Calls Tryd.prog 10 #[.agg (gv h ta tc ba bc)] W' fun e w' => e = .returned (.bool (greatB h)) ∧ Bl V w') := fun W' h' => great_x h ta tc ba bc h' (hhV.bl h') hkh
  have CP : Hid (∀ W', Bl V W' → Calls Tryd.prog 11 #[.agg (gv g sa sc aa ac)] W' fun e w' => e = .returned (prV g) ∧ Bl V w') := fun W' h' => Print_x g sa sc aa ac h' (hgV.bl h') hk
  have CQ : Hid (∀ W', Bl V W' → Calls Tryd.prog 11 #[.agg (gv h ta tc ba bc)] W' fun e w' => e = .returned (prV h) ∧ Bl V w') := fun W' h' => Print_x h ta tc ba bc h' (hhV.bl h') hkh
  have CS : Hid (∀ W', Bl V W' → Calls Tryd.prog 13 #[.agg (gv g sa sc aa ac), .agg (gv h ta tc ba bc)] W' fun e w' => e = .returned (.bool (decide (g = h))) ∧ Bl V w') := fun W' h' => Same_at g h sa sc aa ac ta tc ba bc h' (hgV.bl h') (hhV.bl h') hk hkh
  have PT : Hid (RC.can g = true → ∀ W', Bl V W' → Calls Tryd.prog 17 #[.string (M.bs (RC.text g))] W' fun e w' => ∃ xa xc ya yc, e = .returned (.tuple #[.agg (gv g xa xc ya yc), .int .i64 0, .int .i64 0]) ∧ GA w'.heap.size w' g xa xc ya yc ∧ Bl V w') := fun hc W' h' => Parse_text g hc h' (hmV.bl h')
  have SK : Hid (∀ (W' : World) (xa : Option Addr) (xc : Nat) (ya : Option Addr) (yc : Nat), Bl V W' → GA W'.heap.size W' g xa xc ya yc → Calls Tryd.prog 13 #[.agg (gv g xa xc ya yc), .agg (gv g sa sc aa ac)] W' fun e w' => e = .returned (.bool true) ∧ Bl V w') := fun W' xa xc ya yc h' hx => by
    have := Same_at g g xa xc ya yc sa sc aa ac h' hx (hgV.bl h') hk hk
    rw [decide_eq_true rfl] at this
    exact this
  have PZ : Hid (l.length ≤ 8192 → ∀ W', Bl V W' → Calls Tryd.prog 17 #[.string (M.bs l)] W' (PR V (RC.parse l))) := fun h8 W' h' => by
    have := Parse_x l h' (hmV.bl h') h8
    rwa [← RC.parse_eq _ h8] at this
  have SZ : Hid (∀ W', Bl V W' → Calls Tryd.prog 13 #[.agg zG, .agg zG] W' fun e w' => e = .returned (.bool true) ∧ Bl V w') := fun W' h' => by
    have := Same_at ([], []) ([], []) none 0 none 0 none 0 none 0 h' (GA.zero _ _) (GA.zero _ _) grOk.zero grOk.zero
    rw [decide_eq_true rfl] at this
    exact this
  have D0 : Hid (∀ W' i, Bl V W' → W'.cell? ⟨W.heap.size, i, none⟩ = (gv g sa sc aa ac)[i]? ∧ W'.cell? ⟨W.heap.size + 1, i, none⟩ = (gv h ta tc ba bc)[i]?) := fun W' i h' => by rw [hV] at h'; exact box2_cells h' i
  have DD : Hid (∀ W', Bl V W' → W'.cell? ⟨W.heap.size, 0, none⟩ = some (.slice sa g.1.length sc) ∧ W'.cell? ⟨W.heap.size, 1, none⟩ = some (.slice aa g.2.length ac) ∧ W'.cell? ⟨W.heap.size + 1, 0, none⟩ = some (.slice ta h.1.length tc) ∧ W'.cell? ⟨W.heap.size + 1, 1, none⟩ = some (.slice ba h.2.length bc)) := fun W' h' => ⟨(D0.out W' 0 h').1, (D0.out W' 1 h').1, (D0.out W' 0 h').2, (D0.out W' 1 h').2⟩
  have HQ : Hid (RC.can g = true → RC.can h = true → ((M.bs (RC.text g)).toList == (M.bs (RC.text h)).toList) = decide (g = h)) := fun c1 c2 => by
    rw [bs_eqB, Bool.eq_iff_iff]
    simp only [decide_eq_true_eq]
    exact ⟨RC.text_inj g h c1 c2, fun e => by rw [e]⟩
  clear D0 hg hh hk hkh hgV hhV hm hmV
  cases hgr : greatB g with
  | true =>
    rw [hgr] at CG
    clear CH CP CQ CS PT SK PZ SZ HQ hgr
    unfold gv at CG hV ⊢
    subst hV
    go_enter Tryd.func5, Tryd.ntmps5
    go_wp2_with (first
      | (go_at_call 9; refine CW.out.mono ?_; rintro e w1 ⟨rfl, HB⟩; obtain ⟨d0, d1, d2, d3⟩ := DD.out _ HB; clear CW)
      | (go_at_call 10; refine (CG.out _ HB).mono ?_; clear HB d0 d1 d2 d3 CG; rintro e w2 ⟨rfl, HB⟩))
    go_ret
    exact ⟨rfl, HFI.out _ HB⟩
  | false =>
    rw [hgr] at CG
    cases hhr : greatB h with
    | true =>
      rw [hhr] at CH
      clear CP CQ CS PT SK PZ SZ HQ hgr hhr
      unfold gv at CG CH hV ⊢
      subst hV
      go_enter Tryd.func5, Tryd.ntmps5
      go_wp2_with (first
        | (go_at_call 9; refine CW.out.mono ?_; rintro e w1 ⟨rfl, HB⟩; obtain ⟨d0, d1, d2, d3⟩ := DD.out _ HB; clear CW)
        | (go_at_call 10; refine (CG.out _ HB).mono ?_; clear HB d0 d1 d2 d3 CG; rintro e w2 ⟨rfl, HB⟩; obtain ⟨d0, d1, d2, d3⟩ := DD.out _ HB)
        | (go_at_call 10; refine (CH.out _ HB).mono ?_; clear HB d0 d1 d2 d3 CH; rintro e w3 ⟨rfl, HB⟩))
      go_ret
      exact ⟨rfl, HFI.out _ HB⟩
    | false =>
      rw [hhr] at CH
      by_cases h8 : 8192 < l.length
      · clear CP CQ CS PT SK PZ SZ HQ hgr hhr
        unfold gv at CG CH hV ⊢
        subst hV
        go_enter Tryd.func5, Tryd.ntmps5
        go_wp2_with (first
          | (go_at_call 9; refine CW.out.mono ?_; rintro e w1 ⟨rfl, HB⟩; obtain ⟨d0, d1, d2, d3⟩ := DD.out _ HB; clear CW)
          | (go_at_call 10; refine (CG.out _ HB).mono ?_; clear HB d0 d1 d2 d3 CG; rintro e w2 ⟨rfl, HB⟩; obtain ⟨d0, d1, d2, d3⟩ := DD.out _ HB)
          | (go_at_call 10; refine (CH.out _ HB).mono ?_; clear HB d0 d1 d2 d3 CH; rintro e w3 ⟨rfl, HB⟩))
        go_ret
        exact ⟨rfl, HFI.out _ HB⟩
      · have PZ8 := PZ.out (by omega)
        have h8' : (l.length : Int) ≤ 8192 := by omega
        have zz : ((M.bs l).toList == (M.bs l).toList) = true := by simp
        cases hz : RC.parse l with
        | inr kc =>
          obtain ⟨k, c⟩ := kc
          obtain ⟨hk0, hc0⟩ := RC.parse_err l k c (by omega) hz
          have hkI : (0 : Int) < (k : Int) := by omega
          have hcI : ((c : Int) != 0) = true := by rw [bne_iff_ne]; omega
          have PE : Hid (∀ W', Bl V W' → Calls Tryd.prog 17 #[.string (M.bs l)] W' fun e w' => e = .returned (.tuple #[.agg zG, .int .i64 k, .int .i64 c]) ∧ Bl V w') := fun W' h' => by
            have := PZ8 W' h'
            rw [hz] at this
            exact this
          clear PZ PZ8 hz hgr hhr h8 hk0 hc0
          cases hcg : RC.can g with
          | false =>
            cases hch : RC.can h
            all_goals
              simp only [prV, hcg, hch, cond_true, cond_false] at CP CQ
              clear PT HQ hcg hch CS SK
              generalize RC.text h = TH at *
              unfold gv zG at *
              subst hV
              go_enter Tryd.func5, Tryd.ntmps5
              go_wp2_with (first
              | (go_at_call 9; refine CW.out.mono ?_; rintro e w1 ⟨rfl, HB⟩; obtain ⟨d0, d1, d2, d3⟩ := DD.out _ HB; clear CW)
              | (go_at_call 10; refine (CG.out _ HB).mono ?_; clear HB d0 d1 d2 d3 CG; rintro e w2 ⟨rfl, HB⟩; obtain ⟨d0, d1, d2, d3⟩ := DD.out _ HB)
              | (go_at_call 10; refine (CH.out _ HB).mono ?_; clear HB d0 d1 d2 d3 CH; rintro e w3 ⟨rfl, HB⟩; obtain ⟨d0, d1, d2, d3⟩ := DD.out _ HB)
              | (go_at_call 11; refine (CP.out _ HB).mono ?_; clear HB d0 d1 d2 d3 CP; rintro e w4 ⟨rfl, HB⟩; obtain ⟨d0, d1, d2, d3⟩ := DD.out _ HB)
              | (go_at_call 11; refine (CQ.out _ HB).mono ?_; clear HB d0 d1 d2 d3 CQ; rintro e w5 ⟨rfl, HB⟩; obtain ⟨d0, d1, d2, d3⟩ := DD.out _ HB)
              | (go_at_call 17; refine (PE.out _ HB).mono ?_; clear PE HB; rintro e w9 ⟨rfl, HB⟩)
              | (go_at_call 13; refine (SZ.out _ (HB.alloc _)).mono ?_; clear HB SZ; rintro e wa ⟨rfl, HB⟩))
              go_ret
              exact ⟨rfl, HFI.out _ HB⟩
          | true =>
            have PT2 : Hid (∀ W', Bl V W' → Calls Tryd.prog 17 #[.string (M.bs (RC.text g))] W' fun e w' => ∃ xa xc ya yc, e = .returned (.tuple #[.agg (gv g xa xc ya yc), .int .i64 0, .int .i64 0]) ∧ GA w'.heap.size w' g xa xc ya yc ∧ Bl V w') := PT.out hcg
            cases hch : RC.can h with
            | false =>
              simp only [prV, hcg, hch, cond_true, cond_false] at CP CQ
              clear PT HQ hcg hch CS
              generalize RC.text g = TG at *
              unfold gv zG at *
              subst hV
              go_enter Tryd.func5, Tryd.ntmps5
              go_wp2_with (first
              | (go_at_call 9; refine CW.out.mono ?_; rintro e w1 ⟨rfl, HB⟩; obtain ⟨d0, d1, d2, d3⟩ := DD.out _ HB; clear CW)
              | (go_at_call 10; refine (CG.out _ HB).mono ?_; clear HB d0 d1 d2 d3 CG; rintro e w2 ⟨rfl, HB⟩; obtain ⟨d0, d1, d2, d3⟩ := DD.out _ HB)
              | (go_at_call 10; refine (CH.out _ HB).mono ?_; clear HB d0 d1 d2 d3 CH; rintro e w3 ⟨rfl, HB⟩; obtain ⟨d0, d1, d2, d3⟩ := DD.out _ HB)
              | (go_at_call 11; refine (CP.out _ HB).mono ?_; clear HB d0 d1 d2 d3 CP; rintro e w4 ⟨rfl, HB⟩; obtain ⟨d0, d1, d2, d3⟩ := DD.out _ HB)
              | (go_at_call 11; refine (CQ.out _ HB).mono ?_; clear HB d0 d1 d2 d3 CQ; rintro e w5 ⟨rfl, HB⟩; obtain ⟨d0, d1, d2, d3⟩ := DD.out _ HB)
              | (go_at_call 17; refine (PT2.out _ HB).mono ?_; clear PT2; rintro e w7 ⟨xa, xc, ya, yc, rfl, hx7, HB7⟩; have HX : Hid (∀ o, GA (w7.alloc o).heap.size (w7.alloc o) g xa xc ya yc ∧ Bl _ (w7.alloc o)) := (fun o => ⟨hx7.bl ((Bl.refl w7).alloc o), HB7.alloc o⟩); have j0 := fun o => (DD.out _ (HB7.alloc o)).1; have j1 := fun o => (DD.out _ (HB7.alloc o)).2.1; clear hx7 HB7 HB)
              | (go_at_call 13; refine (SK.out _ _ _ _ _ (HX.out _).2 (HX.out _).1).mono ?_; clear SK HX j0 j1; rintro e w8 ⟨rfl, HB⟩)
              | (go_at_call 17; refine (PE.out _ HB).mono ?_; clear PE HB; rintro e w9 ⟨rfl, HB⟩)
              | (go_at_call 13; refine (SZ.out _ (HB.alloc _)).mono ?_; clear HB SZ; rintro e wa ⟨rfl, HB⟩))
              go_ret
              exact ⟨rfl, HFI.out _ HB⟩
            | true =>
              have HQ2 := HQ.out hcg hch
              simp only [prV, hcg, hch, cond_true] at CP CQ
              clear PT HQ hcg hch
              generalize decide (g = h) = q at *
              have hqq : (q != q) = false := by cases q <;> rfl
              generalize RC.text g = TG at *
              generalize RC.text h = TH at *
              unfold gv zG at *
              subst hV
              go_enter Tryd.func5, Tryd.ntmps5
              go_wp2_with (first
              | (go_at_call 9; refine CW.out.mono ?_; rintro e w1 ⟨rfl, HB⟩; obtain ⟨d0, d1, d2, d3⟩ := DD.out _ HB; clear CW)
              | (go_at_call 10; refine (CG.out _ HB).mono ?_; clear HB d0 d1 d2 d3 CG; rintro e w2 ⟨rfl, HB⟩; obtain ⟨d0, d1, d2, d3⟩ := DD.out _ HB)
              | (go_at_call 10; refine (CH.out _ HB).mono ?_; clear HB d0 d1 d2 d3 CH; rintro e w3 ⟨rfl, HB⟩; obtain ⟨d0, d1, d2, d3⟩ := DD.out _ HB)
              | (go_at_call 11; refine (CP.out _ HB).mono ?_; clear HB d0 d1 d2 d3 CP; rintro e w4 ⟨rfl, HB⟩; obtain ⟨d0, d1, d2, d3⟩ := DD.out _ HB)
              | (go_at_call 11; refine (CQ.out _ HB).mono ?_; clear HB d0 d1 d2 d3 CQ; rintro e w5 ⟨rfl, HB⟩; obtain ⟨d0, d1, d2, d3⟩ := DD.out _ HB)
              | (go_at_call 13; refine (CS.out _ HB).mono ?_; clear HB d0 d1 d2 d3 CS; rintro e w6 ⟨rfl, HB⟩)
              | (go_at_call 17; refine (PT2.out _ HB).mono ?_; clear PT2; rintro e w7 ⟨xa, xc, ya, yc, rfl, hx7, HB7⟩; have HX : Hid (∀ o, GA (w7.alloc o).heap.size (w7.alloc o) g xa xc ya yc ∧ Bl _ (w7.alloc o)) := (fun o => ⟨hx7.bl ((Bl.refl w7).alloc o), HB7.alloc o⟩); have j0 := fun o => (DD.out _ (HB7.alloc o)).1; have j1 := fun o => (DD.out _ (HB7.alloc o)).2.1; clear hx7 HB7 HB)
              | (go_at_call 13; refine (SK.out _ _ _ _ _ (HX.out _).2 (HX.out _).1).mono ?_; clear SK HX j0 j1; rintro e w8 ⟨rfl, HB⟩)
              | (go_at_call 17; refine (PE.out _ HB).mono ?_; clear PE HB; rintro e w9 ⟨rfl, HB⟩)
              | (go_at_call 13; refine (SZ.out _ (HB.alloc _)).mono ?_; clear HB SZ; rintro e wa ⟨rfl, HB⟩))
              go_ret
              exact ⟨rfl, HFI.out _ HB⟩
        | inl k =>
          obtain ⟨hcan, htxt⟩ := RC.parse_some l k hz
          have hkk := can_ok hcan
          have PE : Hid (∀ W', Bl V W' → Calls Tryd.prog 17 #[.string (M.bs l)] W' fun e w' => ∃ xa xc ya yc, e = .returned (.tuple #[.agg (gv k xa xc ya yc), .int .i64 0, .int .i64 0]) ∧ GA w'.heap.size w' k xa xc ya yc ∧ Bl V w') := fun W' h' => by
            have := PZ8 W' h'
            rw [hz] at this
            exact this
          have PK : Hid (∀ (W' : World) (xa : Option Addr) (xc : Nat) (ya : Option Addr) (yc : Nat), Bl V W' → GA W'.heap.size W' k xa xc ya yc → Calls Tryd.prog 11 #[.agg (gv k xa xc ya yc)] W' fun e w' => e = .returned (.tuple #[.string (M.bs l), .int .i64 0]) ∧ Bl V w') := fun W' xa xc ya yc h' hx => by
            have := Print_yes k xa xc ya yc h' hx hkk hcan
            rw [htxt] at this
            exact this
          clear PZ PZ8 hz hgr hhr h8 hcan htxt hkk SZ
          cases hcg : RC.can g with
          | false =>
            cases hch : RC.can h
            all_goals
              simp only [prV, hcg, hch, cond_true, cond_false] at CP CQ
              clear PT HQ hcg hch CS SK
              generalize RC.text h = TH at *
              unfold gv at *
              subst hV
              go_enter Tryd.func5, Tryd.ntmps5
              go_wp2_with (first
              | (go_at_call 9; refine CW.out.mono ?_; rintro e w1 ⟨rfl, HB⟩; obtain ⟨d0, d1, d2, d3⟩ := DD.out _ HB; clear CW)
              | (go_at_call 10; refine (CG.out _ HB).mono ?_; clear HB d0 d1 d2 d3 CG; rintro e w2 ⟨rfl, HB⟩; obtain ⟨d0, d1, d2, d3⟩ := DD.out _ HB)
              | (go_at_call 10; refine (CH.out _ HB).mono ?_; clear HB d0 d1 d2 d3 CH; rintro e w3 ⟨rfl, HB⟩; obtain ⟨d0, d1, d2, d3⟩ := DD.out _ HB)
              | (go_at_call 11; refine (CP.out _ HB).mono ?_; clear HB d0 d1 d2 d3 CP; rintro e w4 ⟨rfl, HB⟩; obtain ⟨d0, d1, d2, d3⟩ := DD.out _ HB)
              | (go_at_call 11; refine (CQ.out _ HB).mono ?_; clear HB d0 d1 d2 d3 CQ; rintro e w5 ⟨rfl, HB⟩; obtain ⟨d0, d1, d2, d3⟩ := DD.out _ HB)
              | (go_at_call 17; refine (PE.out _ HB).mono ?_; clear PE HB; rintro e w9 ⟨xa, xc, ya, yc, rfl, hx9, HB⟩; have HX9 : Hid (∀ o, GA (w9.alloc o).heap.size (w9.alloc o) k xa xc ya yc ∧ Bl _ (w9.alloc o)) := (fun o => ⟨hx9.bl ((Bl.refl w9).alloc o), HB.alloc o⟩); clear hx9)
              | (go_at_call 11; refine (PK.out _ _ _ _ _ (HX9.out _).2 (HX9.out _).1).mono ?_; clear HB PK HX9; rintro e wa ⟨rfl, HB⟩))
              go_ret
              exact ⟨rfl, HFI.out _ HB⟩
          | true =>
            have PT2 : Hid (∀ W', Bl V W' → Calls Tryd.prog 17 #[.string (M.bs (RC.text g))] W' fun e w' => ∃ xa xc ya yc, e = .returned (.tuple #[.agg (gv g xa xc ya yc), .int .i64 0, .int .i64 0]) ∧ GA w'.heap.size w' g xa xc ya yc ∧ Bl V w') := PT.out hcg
            cases hch : RC.can h with
            | false =>
              simp only [prV, hcg, hch, cond_true, cond_false] at CP CQ
              clear PT HQ hcg hch CS
              generalize RC.text g = TG at *
              unfold gv at *
              subst hV
              go_enter Tryd.func5, Tryd.ntmps5
              go_wp2_with (first
              | (go_at_call 9; refine CW.out.mono ?_; rintro e w1 ⟨rfl, HB⟩; obtain ⟨d0, d1, d2, d3⟩ := DD.out _ HB; clear CW)
              | (go_at_call 10; refine (CG.out _ HB).mono ?_; clear HB d0 d1 d2 d3 CG; rintro e w2 ⟨rfl, HB⟩; obtain ⟨d0, d1, d2, d3⟩ := DD.out _ HB)
              | (go_at_call 10; refine (CH.out _ HB).mono ?_; clear HB d0 d1 d2 d3 CH; rintro e w3 ⟨rfl, HB⟩; obtain ⟨d0, d1, d2, d3⟩ := DD.out _ HB)
              | (go_at_call 11; refine (CP.out _ HB).mono ?_; clear HB d0 d1 d2 d3 CP; rintro e w4 ⟨rfl, HB⟩; obtain ⟨d0, d1, d2, d3⟩ := DD.out _ HB)
              | (go_at_call 11; refine (CQ.out _ HB).mono ?_; clear HB d0 d1 d2 d3 CQ; rintro e w5 ⟨rfl, HB⟩; obtain ⟨d0, d1, d2, d3⟩ := DD.out _ HB)
              | (go_at_call 17; refine (PT2.out _ HB).mono ?_; clear PT2; rintro e w7 ⟨xa, xc, ya, yc, rfl, hx7, HB7⟩; have HX : Hid (∀ o, GA (w7.alloc o).heap.size (w7.alloc o) g xa xc ya yc ∧ Bl _ (w7.alloc o)) := (fun o => ⟨hx7.bl ((Bl.refl w7).alloc o), HB7.alloc o⟩); have j0 := fun o => (DD.out _ (HB7.alloc o)).1; have j1 := fun o => (DD.out _ (HB7.alloc o)).2.1; clear hx7 HB7 HB)
              | (go_at_call 13; refine (SK.out _ _ _ _ _ (HX.out _).2 (HX.out _).1).mono ?_; clear SK HX j0 j1; rintro e w8 ⟨rfl, HB⟩)
              | (go_at_call 17; refine (PE.out _ HB).mono ?_; clear PE HB; rintro e w9 ⟨xa, xc, ya, yc, rfl, hx9, HB⟩; have HX9 : Hid (∀ o, GA (w9.alloc o).heap.size (w9.alloc o) k xa xc ya yc ∧ Bl _ (w9.alloc o)) := (fun o => ⟨hx9.bl ((Bl.refl w9).alloc o), HB.alloc o⟩); clear hx9)
              | (go_at_call 11; refine (PK.out _ _ _ _ _ (HX9.out _).2 (HX9.out _).1).mono ?_; clear HB PK HX9; rintro e wa ⟨rfl, HB⟩))
              go_ret
              exact ⟨rfl, HFI.out _ HB⟩
            | true =>
              have HQ2 := HQ.out hcg hch
              simp only [prV, hcg, hch, cond_true] at CP CQ
              clear PT HQ hcg hch
              generalize decide (g = h) = q at *
              have hqq : (q != q) = false := by cases q <;> rfl
              generalize RC.text g = TG at *
              generalize RC.text h = TH at *
              unfold gv at *
              subst hV
              go_enter Tryd.func5, Tryd.ntmps5
              go_wp2_with (first
              | (go_at_call 9; refine CW.out.mono ?_; rintro e w1 ⟨rfl, HB⟩; obtain ⟨d0, d1, d2, d3⟩ := DD.out _ HB; clear CW)
              | (go_at_call 10; refine (CG.out _ HB).mono ?_; clear HB d0 d1 d2 d3 CG; rintro e w2 ⟨rfl, HB⟩; obtain ⟨d0, d1, d2, d3⟩ := DD.out _ HB)
              | (go_at_call 10; refine (CH.out _ HB).mono ?_; clear HB d0 d1 d2 d3 CH; rintro e w3 ⟨rfl, HB⟩; obtain ⟨d0, d1, d2, d3⟩ := DD.out _ HB)
              | (go_at_call 11; refine (CP.out _ HB).mono ?_; clear HB d0 d1 d2 d3 CP; rintro e w4 ⟨rfl, HB⟩; obtain ⟨d0, d1, d2, d3⟩ := DD.out _ HB)
              | (go_at_call 11; refine (CQ.out _ HB).mono ?_; clear HB d0 d1 d2 d3 CQ; rintro e w5 ⟨rfl, HB⟩; obtain ⟨d0, d1, d2, d3⟩ := DD.out _ HB)
              | (go_at_call 13; refine (CS.out _ HB).mono ?_; clear HB d0 d1 d2 d3 CS; rintro e w6 ⟨rfl, HB⟩)
              | (go_at_call 17; refine (PT2.out _ HB).mono ?_; clear PT2; rintro e w7 ⟨xa, xc, ya, yc, rfl, hx7, HB7⟩; have HX : Hid (∀ o, GA (w7.alloc o).heap.size (w7.alloc o) g xa xc ya yc ∧ Bl _ (w7.alloc o)) := (fun o => ⟨hx7.bl ((Bl.refl w7).alloc o), HB7.alloc o⟩); have j0 := fun o => (DD.out _ (HB7.alloc o)).1; have j1 := fun o => (DD.out _ (HB7.alloc o)).2.1; clear hx7 HB7 HB)
              | (go_at_call 13; refine (SK.out _ _ _ _ _ (HX.out _).2 (HX.out _).1).mono ?_; clear SK HX j0 j1; rintro e w8 ⟨rfl, HB⟩)
              | (go_at_call 17; refine (PE.out _ HB).mono ?_; clear PE HB; rintro e w9 ⟨xa, xc, ya, yc, rfl, hx9, HB⟩; have HX9 : Hid (∀ o, GA (w9.alloc o).heap.size (w9.alloc o) k xa xc ya yc ∧ Bl _ (w9.alloc o)) := (fun o => ⟨hx9.bl ((Bl.refl w9).alloc o), HB.alloc o⟩); clear hx9)
              | (go_at_call 11; refine (PK.out _ _ _ _ _ (HX9.out _).2 (HX9.out _).1).mono ?_; clear HB PK HX9; rintro e wa ⟨rfl, HB⟩))
              go_ret
              exact ⟨rfl, HFI.out _ HB⟩
end Go.Proofs.YtgjpcddjfmdobaaDoor
