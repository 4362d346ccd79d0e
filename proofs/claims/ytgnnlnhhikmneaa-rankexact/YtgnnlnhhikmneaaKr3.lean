/- What the reference's Merge makes. -/
import Derived.Test.YtgnnlnhhikmneaaKr2
namespace Go.Proofs.Ytgnnlnhhikmneaa
open Go.RowKit Go.Maps
set_option linter.unusedVariables false
set_option linter.unusedSimpArgs false

/-- in the middle of the reference's merge -/
structure RG (W0 : World) (r : Nat) (f : K.Vw) (l : List K.Me) (k : Nat) (v : Value) (W : World) : Prop where
  rv : RV W r (K.mrg f (l.take k))
  of : Of1 r W0 W
  own : W.ownsRow W0.heap.size 28 3 v (K.tak f (l.take k)).length (flG lyM (K.tak f (l.take k)))
theorem own_empty (W : World) (T : TypeId) (k : Nat) : (W.alloc (.cells #[] T)).ownsRow W.heap.size T k (.slice (some ⟨W.heap.size, 0, none⟩) 0 0) 0 [] :=
  ⟨by simp, Or.inr ⟨W.heap.size, 0, #[], rfl, Nat.le_refl _, heap_alloc_new W _, Nat.le_refl _, by decide, by simp, by simp⟩⟩
theorem RV.grown {W0 W W' : World} {r : Nat} {f : K.Vw} (x : RV W r f) (h0 : Of1 r W0 W) (hr : r < W0.heap.size) {v : Value} {n : Nat} {T : TypeId} {k : Nat} {xs : List Value} (ho : W.ownsRow W0.heap.size T k v n xs) (hg : W.grownBy W' v.ownBlock) : RV W' r f ∧ Of1 r W0 W' := by
  have hge : ∀ g, v.ownBlock = some g → W0.heap.size ≤ g := fun g e => (owns_ge ho e).1
  have bk : ∀ i, i < W0.heap.size → W'.heap[i]? = W.heap[i]? := fun i hi => hg.block i (Nat.lt_of_lt_of_le hi h0.size) (fun e => by have := hge i e.symm; omega)
  exact ⟨x.block (bk r hr), ⟨hg.os.trans h0.os, hg.tape.trans h0.tape, hg.output.trans h0.output, Nat.le_trans h0.size hg.size, fun i hi hb => (bk i hi).trans (h0.block i hi hb)⟩⟩
theorem RV.froz {W : World} {r : Nat} {f : K.Vw} (h : RV W r f) (i : Nat) (hi : i < 28) : W.frozen? ⟨r, i, none⟩ = false := by
  obtain ⟨C, h1, h2⟩ := h
  unfold World.frozen?
  rw [h1]; simp
/-- three cells of a view written, its mark not yet -/
theorem RV.mid {V X : World} {r : Nat} {f : K.Vw} (h : RV V r f) (j : Nat) (hj : j < 7) (i s : Int) (hX : ((((V.setCell ⟨r, j * 3, none⟩ (.int .i64 (j : Int))).setCell ⟨r, j * 3 + 1, none⟩ (.int .i64 i)).setCell ⟨r, j * 3 + 2, none⟩ (.int .i64 s))) = X) :
    Of1 r V X.drew ∧ X.drew.cell? ⟨r, 21 + j, none⟩ = some (.bool (f j).isSome) ∧ X.drew.frozen? ⟨r, 21 + j, none⟩ = false ∧ RV (X.drew.setCell ⟨r, 21 + j, none⟩ (.bool true)) r (fun k => if k = (j : Int) then some ((j : Int), i, s) else f k) := by
  have hp := h.put j hj i s
  have ho : Of1 r V X := by rw [← hX]; exact (((Of1.refl r V).set _ _).set _ _).set _ _
  obtain ⟨C, h1, h2⟩ := h
  have h3 : X.heap[r]? = some (.cells (((C.setIfInBounds (j * 3) (.int .i64 (j : Int))).setIfInBounds (j * 3 + 1) (.int .i64 i)).setIfInBounds (j * 3 + 2) (.int .i64 s)) 32 (0, 0)) := by
    rw [← hX]; exact heap_setCell_row (heap_setCell_row (heap_setCell_row h1))
  rw [hX] at hp
  clear hX
  have h3' : X.drew.heap[r]? = some (.cells (((C.setIfInBounds (j * 3) (.int .i64 (j : Int))).setIfInBounds (j * 3 + 1) (.int .i64 i)).setIfInBounds (j * 3 + 2) (.int .i64 s)) 32 (0, 0)) := h3
  refine ⟨⟨ho.os, ho.tape, ho.output, ho.size, ho.block⟩, ?_, ?_, hp.block rfl⟩
  · rw [Lib.cell_of_heap h3']
    simp only [Array.getElem?_setIfInBounds]
    rw [if_neg (by omega), if_neg (by omega), if_neg (by omega)]
    exact (h2.at' j hj).2.2.2
  · unfold World.frozen?
    rw [h3']; simp
set_option maxRecDepth 8000 in
set_option maxHeartbeats 32000000 in
theorem rMerge_x {W : World} {r : Nat} {f : K.Vw} (x : RV W r f) (l : List K.Me) (a : Option Addr) (c : Nat) (hv : RS lyM W a l) (hvr : ∀ off, l ≠ [] → a ≠ some ⟨r, off, none⟩) (hl : l.length ≤ 1000) :
    Calls Try.prog 12 #[.pointer (some ⟨r, 0, none⟩), .slice a l.length c] W fun e w' => ∃ a' c', e = .returned (.slice a' (K.tak f l).length c') ∧ RS lyM w' a' (K.tak f l) ∧ RV w' r (K.mrg f l) ∧ Of1 r W w' := by
  have HX : Hid (RV W r f) := x
  have HV : Hid (∀ U, Of1 r W U → RS lyM U a l) := fun U h => hv.offs h hvr
  have hr := x.lt
  obtain ⟨fs, hum⟩ := undMe
  clear x hv hvr
  go_enter Try.func12, Try.ntmps12
  go_wp2_with fail
  go_loopw [5, 6, 7] (fun u5 u6 u7 wr => ∃ k : Nat, k ≤ l.length ∧ u6 = .int .i64 k ∧ RG W r f l k u5 wr) (fun _ u6 _ _ => l.length - (intOf u6).toNat)
  case atStart => exact ⟨0, Nat.zero_le _, rfl, ⟨HX.out.grow ((Bl.refl W).alloc _), Of1.of_bl ((Bl.refl W).alloc _), own_empty W _ _⟩⟩
  case round =>
    obtain ⟨k, hk, rfl, hx⟩ := hrel
    by_cases hlt : k < l.length
    · obtain ⟨m, hm⟩ : ∃ m, l[k]? = some m := ⟨l[k], List.getElem?_eq_getElem hlt⟩
      obtain ⟨b2, off, rfl, hb2, hrg⟩ := (HV.out wr hx.of) k m hm
      have HM : Hid (K.mrg f (l.take (k + 1)) = K.stp (K.mrg f (l.take k)) m) := K.mrg_take hm
      have HT : Hid (K.tak f (l.take (k + 1)) = K.tak f (l.take k) ++ if K.news (K.mrg f (l.take k)) m = true then [m] else []) := K.tak_take hm
      have htl : (K.tak f (l.take k)).length ≤ k := Nat.le_trans (K.tak_len _ _) (by rw [List.length_take]; omega)
      obtain ⟨G, hG⟩ : ∃ G, K.mrg f (l.take k) = G := ⟨_, rfl⟩
      obtain ⟨TK, hTK⟩ : ∃ G, K.tak f (l.take k) = G := ⟨_, rfl⟩
      have HRV : Hid (RV wr r G) := by rw [← hG]; exact hx.rv
      have HOF : Hid (Of1 r W wr) := hx.of
      have HOW : Hid (wr.ownsRow W.heap.size 28 3 u5 TK.length (flG lyM TK)) := by rw [← hTK]; exact hx.own
      rw [hG] at HM HT
      rw [hTK] at HT htl
      have HW : Hid (∀ v W', RV W' r (K.mrg f (l.take (k + 1))) → Of1 r W W' → W'.ownsRow W.heap.size 28 3 v (K.tak f (l.take (k + 1))).length (flG lyM (K.tak f (l.take (k + 1)))) → RG W r f l (k + 1) v W') := fun v W' h1 h2 h3 => ⟨h1, h2, h3⟩
      have HWS : Hid (W.heap.size ≤ wr.heap.size) := hx.of.size
      have HN := news_eq G m
      clear hx hG hTK HX HV hm
      have HR : Hid (wr.rangeAt b2 (off + k * 3) [.int .i64 m.1, .int .i64 m.2.1, .int .i64 m.2.2]) := hrg
      have CG : Hid (∀ V U, Bl V U → Calls Try.prog 19 #[.agg #[.int .i64 m.1, .int .i64 m.2.1, .int .i64 m.2.2]] U fun e w' => e = .returned (.bool (K.good m)) ∧ Bl V w') := fun V U h => rGood_x m V U h
      clear hrg
      cases hgd : K.good m with
      | false =>
        have hnw : K.news G m = false := by rw [HN, hgd]; rfl
        rw [hnw] at HT
        rw [stp_no hnw] at HM
        rw [hgd] at CG
        clear hnw hgd HN
        obtain ⟨m0, m1, m2⟩ := m
        simp only at *
        go_wp2_with (refine wpList_load_mid rfl 28 _ rfl b2 (off + k * 3) rfl [.int .i64 m0, .int .i64 m1, .int .i64 m2] _ HR.out hum rfl infoMe ?_; clear HR)
        have HZ : Hid (Bl wr (wr.alloc (.cells #[.int .i64 m0, .int .i64 m1, .int .i64 m2] 28))) := (Bl.refl wr).alloc _
        have KP : Hid (∀ U, Bl (wr.alloc (.cells #[.int .i64 m0, .int .i64 m1, .int .i64 m2] 28)) U → U.rangeAt wr.heap.size 0 [.int .i64 m0, .int .i64 m1, .int .i64 m2]) := fun U hU => by
          have r1 : U.rangeAt wr.heap.size 0 [.int .i64 m0, .int .i64 m1, .int .i64 m2] := range3 hU.box
          exact r1
        have HB7 : Hid (∀ U, Bl (wr.alloc (.cells #[.int .i64 m0, .int .i64 m1, .int .i64 m2] 28)) U → U.heap[wr.heap.size]? = some (.cells #[.int .i64 m0, .int .i64 m1, .int .i64 m2] 28 (0, 0))) := fun U hU => hU.box
        have hB7r : wr.heap.size ≠ r := by have := HRV.out.lt; omega
        generalize hZ : (wr.alloc (.cells #[.int .i64 m0, .int .i64 m1, .int .i64 m2] 28)) = Z at *
        have hB7 : W.heap.size ≤ wr.heap.size := HWS.out
        generalize wr.heap.size = B7 at *
        (try simp only [List.append_eq, List.cons_append, List.nil_append])
        refine wp_region_noPanic ?_
        refine wp_region_held_drew (S := fun U => U.rangeAt B7 0 [.int .i64 m0, .int .i64 m1, .int .i64 m2]) (by kernel_rfl) (KP.out _ ((Bl.refl Z).drewN 1)) (fun hHeld => ?_)
        refine wpAnyH_take (i := 0) (v := .agg (List.toArray [.int .i64 m0, .int .i64 m1, .int .i64 m2])) rfl (by kernel_rfl) (by kernel_rfl) (by kernel_rfl) (fun _ _ _ h => h) (yieldsIf_load_mid (by kernel_rfl) _ (.tmp 7) (by kernel_rfl) B7 0 (by kernel_rfl) [.int .i64 m0, .int .i64 m1, .int .i64 m2] _ (fun W hW => hW) hum rfl infoMe) (by assumption) ?_
        simp only [Act.put, List.getElem_toArray, List.getElem_cons_succ, List.getElem_cons_zero, List.setIfInBounds_toArray, List.set_cons_zero, List.set_cons_succ]
        refine wpAnyH_ready (rs := [1]) (by kernel_rfl) (by simp) ?_
        refine AllReadyH.cons (o := _) rfl (fun K hK => ?_) AllReadyH.nil
        go_simp
        go_at_call 19; refine (CG.out _ _ ((Bl.refl Z).drewN 1)).mono ?_; rintro e V2 ⟨rfl, HB2⟩
        refine hK.out _ _ (KP.out _ HB2) (fun hHeld => ?_)
        clear hK K
        (try simp only [Act.put, List.getElem_toArray, List.getElem_cons_succ, List.getElem_cons_zero, List.setIfInBounds_toArray, List.set_cons_zero, List.set_cons_succ])
        refine wpAnyH_take (i := 2) rfl (by kernel_rfl) (by kernel_rfl) (by kernel_rfl) (fun _ _ _ h => h) (yi_move (by kernel_rfl) rfl rfl) (by assumption) ?_
        simp only [Act.put, List.getElem_toArray, List.getElem_cons_succ, List.getElem_cons_zero, List.setIfInBounds_toArray, List.set_cons_zero, List.set_cons_succ]
        refine wpAnyH_take (i := 3) (v := undef) rfl (by kernel_rfl) (by kernel_rfl) (by kernel_rfl) (fun _ _ _ h => h) (Or.inr ⟨by kernel_rfl, rfl⟩) (by assumption) ?_
        simp only [Act.put, List.getElem_toArray, List.getElem_cons_succ, List.getElem_cons_zero, List.setIfInBounds_toArray, List.set_cons_zero, List.set_cons_succ]
        refine wpAnyH_take (i := 4) (v := undef) rfl (by kernel_rfl) (by kernel_rfl) (by kernel_rfl) (fun _ _ _ h => h) (Or.inr ⟨by kernel_rfl, rfl⟩) (by assumption) ?_
        simp only [Act.put, List.getElem_toArray, List.getElem_cons_succ, List.getElem_cons_zero, List.setIfInBounds_toArray, List.set_cons_zero, List.set_cons_succ]
        refine wpAnyH_take (i := 5) (v := undef) rfl (by kernel_rfl) (by kernel_rfl) (by kernel_rfl) (fun _ _ _ h => h) (Or.inr ⟨by kernel_rfl, rfl⟩) (by assumption) ?_
        simp only [Act.put, List.getElem_toArray, List.getElem_cons_succ, List.getElem_cons_zero, List.setIfInBounds_toArray, List.set_cons_zero, List.set_cons_succ]
        refine wpAnyH_take (i := 6) (v := undef) rfl (by kernel_rfl) (by kernel_rfl) (by kernel_rfl) (fun _ _ _ h => h) (Or.inr ⟨by kernel_rfl, rfl⟩) (by assumption) ?_
        simp only [Act.put, List.getElem_toArray, List.getElem_cons_succ, List.getElem_cons_zero, List.setIfInBounds_toArray, List.set_cons_zero, List.set_cons_succ]
        refine wpAnyH_take (i := 7) (v := undef) rfl (by kernel_rfl) (by kernel_rfl) (by kernel_rfl) (fun _ _ _ h => h) (Or.inr ⟨by kernel_rfl, rfl⟩) (by assumption) ?_
        simp only [Act.put, List.getElem_toArray, List.getElem_cons_succ, List.getElem_cons_zero, List.setIfInBounds_toArray, List.set_cons_zero, List.set_cons_succ]
        refine wpAnyH_take (i := 8) (v := undef) rfl (by kernel_rfl) (by kernel_rfl) (by kernel_rfl) (fun _ _ _ h => h) (Or.inr ⟨by kernel_rfl, rfl⟩) (by assumption) ?_
        simp only [Act.put, List.getElem_toArray, List.getElem_cons_succ, List.getElem_cons_zero, List.setIfInBounds_toArray, List.set_cons_zero, List.set_cons_succ]
        refine wpAnyH_take (i := 9) (v := undef) rfl (by kernel_rfl) (by kernel_rfl) (by kernel_rfl) (fun _ _ _ h => h) (Or.inr ⟨by kernel_rfl, rfl⟩) (by assumption) ?_
        simp only [Act.put, List.getElem_toArray, List.getElem_cons_succ, List.getElem_cons_zero, List.setIfInBounds_toArray, List.set_cons_zero, List.set_cons_succ]
        refine wpAnyH_take (i := 10) (v := undef) rfl (by kernel_rfl) (by kernel_rfl) (by kernel_rfl) (fun _ _ _ h => h) (Or.inr ⟨by kernel_rfl, rfl⟩) (by assumption) ?_
        simp only [Act.put, List.getElem_toArray, List.getElem_cons_succ, List.getElem_cons_zero, List.setIfInBounds_toArray, List.set_cons_zero, List.set_cons_succ]
        refine wpAnyH_take (i := 11) (v := undef) rfl (by kernel_rfl) (by kernel_rfl) (by kernel_rfl) (fun _ _ _ h => h) (Or.inr ⟨by kernel_rfl, rfl⟩) (by assumption) ?_
        simp only [Act.put, List.getElem_toArray, List.getElem_cons_succ, List.getElem_cons_zero, List.setIfInBounds_toArray, List.set_cons_zero, List.set_cons_succ]
        refine wpAnyH_take (i := 12) (v := undef) rfl (by kernel_rfl) (by kernel_rfl) (by kernel_rfl) (fun _ _ _ h => h) (Or.inr ⟨by kernel_rfl, rfl⟩) (by assumption) ?_
        simp only [Act.put, List.getElem_toArray, List.getElem_cons_succ, List.getElem_cons_zero, List.setIfInBounds_toArray, List.set_cons_zero, List.set_cons_succ]
        refine wpAnyH_take (i := 13) (v := undef) rfl (by kernel_rfl) (by kernel_rfl) (by kernel_rfl) (fun _ _ _ h => h) (Or.inr ⟨by kernel_rfl, rfl⟩) (by assumption) ?_
        simp only [Act.put, List.getElem_toArray, List.getElem_cons_succ, List.getElem_cons_zero, List.setIfInBounds_toArray, List.set_cons_zero, List.set_cons_succ]
        refine wpAnyH_take (i := 14) (v := undef) rfl (by kernel_rfl) (by kernel_rfl) (by kernel_rfl) (fun _ _ _ h => h) (Or.inr ⟨by kernel_rfl, rfl⟩) (by assumption) ?_
        simp only [Act.put, List.getElem_toArray, List.getElem_cons_succ, List.getElem_cons_zero, List.setIfInBounds_toArray, List.set_cons_zero, List.set_cons_succ]
        refine wpAnyH_take (i := 15) (v := undef) rfl (by kernel_rfl) (by kernel_rfl) (by kernel_rfl) (fun _ _ _ h => h) (Or.inr ⟨by kernel_rfl, rfl⟩) (by assumption) ?_
        simp only [Act.put, List.getElem_toArray, List.getElem_cons_succ, List.getElem_cons_zero, List.setIfInBounds_toArray, List.set_cons_zero, List.set_cons_succ]
        refine wpAnyH_take (i := 16) (v := undef) rfl (by kernel_rfl) (by kernel_rfl) (by kernel_rfl) (fun _ _ _ h => h) (Or.inr ⟨by kernel_rfl, rfl⟩) (by assumption) ?_
        simp only [Act.put, List.getElem_toArray, List.getElem_cons_succ, List.getElem_cons_zero, List.setIfInBounds_toArray, List.set_cons_zero, List.set_cons_succ]
        refine wpAnyH_take (i := 17) (v := undef) rfl (by kernel_rfl) (by kernel_rfl) (by kernel_rfl) (fun _ _ _ h => h) (Or.inr ⟨by kernel_rfl, rfl⟩) (by assumption) ?_
        simp only [Act.put, List.getElem_toArray, List.getElem_cons_succ, List.getElem_cons_zero, List.setIfInBounds_toArray, List.set_cons_zero, List.set_cons_succ]
        refine wpAnyH_take (i := 18) (v := undef) rfl (by kernel_rfl) (by kernel_rfl) (by kernel_rfl) (fun _ _ _ h => h) (Or.inr ⟨by kernel_rfl, rfl⟩) (by assumption) ?_
        simp only [Act.put, List.getElem_toArray, List.getElem_cons_succ, List.getElem_cons_zero, List.setIfInBounds_toArray, List.set_cons_zero, List.set_cons_succ]
        refine wpAnyH_take (i := 19) (v := undef) rfl (by kernel_rfl) (by kernel_rfl) (by kernel_rfl) (fun _ _ _ h => h) (Or.inr ⟨by kernel_rfl, rfl⟩) (by assumption) ?_
        simp only [Act.put, List.getElem_toArray, List.getElem_cons_succ, List.getElem_cons_zero, List.setIfInBounds_toArray, List.set_cons_zero, List.set_cons_succ]
        refine wpAnyH_take (i := 20) (v := undef) rfl (by kernel_rfl) (by kernel_rfl) (by kernel_rfl) (fun _ _ _ h => h) (Or.inr ⟨by kernel_rfl, rfl⟩) (by assumption) ?_
        simp only [Act.put, List.getElem_toArray, List.getElem_cons_succ, List.getElem_cons_zero, List.setIfInBounds_toArray, List.set_cons_zero, List.set_cons_succ]
        refine wpAnyH_take (i := 21) (v := undef) rfl (by kernel_rfl) (by kernel_rfl) (by kernel_rfl) (fun _ _ _ h => h) (Or.inr ⟨by kernel_rfl, rfl⟩) (by assumption) ?_
        simp only [Act.put, List.getElem_toArray, List.getElem_cons_succ, List.getElem_cons_zero, List.setIfInBounds_toArray, List.set_cons_zero, List.set_cons_succ]
        refine wpAnyH_take (i := 22) (v := ?_) rfl (by kernel_rfl) (by kernel_rfl) (by kernel_rfl) (fun _ _ _ h => h) (Or.inl ⟨by kernel_rfl, ?_⟩) (by assumption) ?_
        rotate_left
        · (intro w hSw; (try dsimp only at hSw); go_simp; (try with_reducible rfl))
        simp only [Act.put, List.getElem_toArray, List.getElem_cons_succ, List.getElem_cons_zero, List.setIfInBounds_toArray, List.set_cons_zero, List.set_cons_succ]
        refine wpAnyH_done (by kernel_rfl) ?_ _
        refine NoPanic.normal ?_
        have HE := HB2
        have HE2 : Hid (Bl wr _) := HZ.out.step HE
        have y1 := HRV.out.grow HE2.out
        have y2 := HOF.out.trans (Of1.of_bl HE2.out)
        have y3 := ownsRow_bl HOW.out HE2.out
        clear HE KP HZ hZ HRV HOF HOW HB7
        go_wp2_with fail
        go_roundw
        case rel => exact ⟨k + 1, by omega, by go_num, HW.out _ _ (by rw [HM.out]; exact y1) y2 (by rw [HT.out]; simpa using y3)⟩
        case measure => simp [intOf]; omega
      | true =>
        obtain ⟨j, hj⟩ : ∃ j : Nat, m.1 = (j : Int) := ⟨m.1.toNat, by have := ((K.good_iff m).1 hgd).1; omega⟩
        have hj1 : j < 7 := by have := ((K.good_iff m).1 hgd).2.1; omega
        rw [hgd] at CG
        obtain ⟨m0, m1, m2⟩ := m
        simp only at hj
        subst hj
        have HKN : Hid (∀ U, RV U r G → U.cell? ⟨r, 21 + j, none⟩ = some (.bool (G j).isSome) ∧ U.rangeAt r (j * 3) [.int .i64 (gv G j).1, .int .i64 (gv G j).2.1, .int .i64 (gv G j).2.2]) := fun U h => ⟨h.known j hj1, h.range j hj1⟩
        simp only at *
        rw [hgd] at HN
        have hji : (j : Int) < 7 := by omega
        cases hy : (G j).isSome with
        | false =>
          rw [hy] at HN HKN
          have hnw : K.news G ((j : Int), m1, m2) = true := by rw [HN]; rfl
          rw [hnw] at HT
          rw [stp_yes hnw] at HM
          generalize gv G j = old at *
          obtain ⟨o0, o1, o2⟩ := old
          simp only at *
          clear hnw hgd HN hy
          go_wp2_with (refine wpList_load_mid rfl 28 _ rfl b2 (off + k * 3) rfl [.int .i64 (j : Int), .int .i64 m1, .int .i64 m2] _ HR.out hum rfl infoMe ?_; clear HR)
          have HZ : Hid (Bl wr (wr.alloc (.cells #[.int .i64 (j : Int), .int .i64 m1, .int .i64 m2] 28))) := (Bl.refl wr).alloc _
          have KP : Hid (∀ U, Bl (wr.alloc (.cells #[.int .i64 (j : Int), .int .i64 m1, .int .i64 m2] 28)) U → U.rangeAt wr.heap.size 0 [.int .i64 (j : Int), .int .i64 m1, .int .i64 m2] ∧ U.cell? ⟨wr.heap.size, 0, none⟩ = some (.int .i64 (j : Int)) ∧ U.cell? ⟨r, 21 + j, none⟩ = some (.bool false) ∧ U.rangeAt r (j * 3) [.int .i64 o0, .int .i64 o1, .int .i64 o2]) := fun U hU => by
            have r1 : U.rangeAt wr.heap.size 0 [.int .i64 (j : Int), .int .i64 m1, .int .i64 m2] := range3 hU.box
            obtain ⟨q1, q2⟩ := HKN.out U (HRV.out.grow (HZ.out.step hU))
            exact ⟨r1, (cells3 hU.box).1, q1, q2⟩
          have HB7 : Hid (∀ U, Bl (wr.alloc (.cells #[.int .i64 (j : Int), .int .i64 m1, .int .i64 m2] 28)) U → U.heap[wr.heap.size]? = some (.cells #[.int .i64 (j : Int), .int .i64 m1, .int .i64 m2] 28 (0, 0))) := fun U hU => hU.box
          have hB7r : wr.heap.size ≠ r := by have := HRV.out.lt; omega
          generalize hZ : (wr.alloc (.cells #[.int .i64 (j : Int), .int .i64 m1, .int .i64 m2] 28)) = Z at *
          have hB7 : W.heap.size ≤ wr.heap.size := HWS.out
          generalize wr.heap.size = B7 at *
          (try simp only [List.append_eq, List.cons_append, List.nil_append])
          refine wp_region_noPanic ?_
          refine wp_region_held_drew (S := fun U => U.rangeAt B7 0 [.int .i64 (j : Int), .int .i64 m1, .int .i64 m2] ∧ U.cell? ⟨B7, 0, none⟩ = some (.int .i64 (j : Int)) ∧ U.cell? ⟨r, 21 + j, none⟩ = some (.bool false) ∧ U.rangeAt r (j * 3) [.int .i64 o0, .int .i64 o1, .int .i64 o2]) (by kernel_rfl) (KP.out _ ((Bl.refl Z).drewN 1)) (fun hHeld => ?_)
          refine wpAnyH_take (i := 0) (v := .agg (List.toArray [.int .i64 (j : Int), .int .i64 m1, .int .i64 m2])) rfl (by kernel_rfl) (by kernel_rfl) (by kernel_rfl) (fun _ _ _ h => h) (yieldsIf_load_mid (by kernel_rfl) _ (.tmp 7) (by kernel_rfl) B7 0 (by kernel_rfl) [.int .i64 (j : Int), .int .i64 m1, .int .i64 m2] _ (fun W hW => hW.1) hum rfl infoMe) (by assumption) ?_
          simp only [Act.put, List.getElem_toArray, List.getElem_cons_succ, List.getElem_cons_zero, List.setIfInBounds_toArray, List.set_cons_zero, List.set_cons_succ]
          refine wpAnyH_ready (rs := [1]) (by kernel_rfl) (by simp) ?_
          refine AllReadyH.cons (o := _) rfl (fun K hK => ?_) AllReadyH.nil
          go_simp
          go_at_call 19; refine (CG.out _ _ ((Bl.refl Z).drewN 1)).mono ?_; rintro e V2 ⟨rfl, HB2⟩
          refine hK.out _ _ (KP.out _ HB2) (fun hHeld => ?_)
          clear hK K
          (try simp only [Act.put, List.getElem_toArray, List.getElem_cons_succ, List.getElem_cons_zero, List.setIfInBounds_toArray, List.set_cons_zero, List.set_cons_succ])
          refine wpAnyH_take (i := 2) rfl (by kernel_rfl) (by kernel_rfl) (by kernel_rfl) (fun _ _ _ h => h) (yi_move (by kernel_rfl) rfl rfl) (by assumption) ?_
          simp only [Act.put, List.getElem_toArray, List.getElem_cons_succ, List.getElem_cons_zero, List.setIfInBounds_toArray, List.set_cons_zero, List.set_cons_succ]
          refine wpAnyH_take (i := 3) rfl (by kernel_rfl) (by kernel_rfl) (by kernel_rfl) (fun _ _ _ h => h) (yi_move (by kernel_rfl) rfl rfl) (by assumption) ?_
          simp only [Act.put, List.getElem_toArray, List.getElem_cons_succ, List.getElem_cons_zero, List.setIfInBounds_toArray, List.set_cons_zero, List.set_cons_succ]
          refine wpAnyH_take (i := 4) (v := ?_) rfl (by kernel_rfl) (by kernel_rfl) (by kernel_rfl) (fun _ _ _ h => h) (Or.inl ⟨by kernel_rfl, ?_⟩) (by assumption) ?_
          rotate_left
          · (intro w hSw; (try dsimp only at hSw); go_simp; (try with_reducible rfl))
          simp only [Act.put, List.getElem_toArray, List.getElem_cons_succ, List.getElem_cons_zero, List.setIfInBounds_toArray, List.set_cons_zero, List.set_cons_succ]
          refine wpAnyH_take (i := 5) (v := ?_) rfl (by kernel_rfl) (by kernel_rfl) (by kernel_rfl) (fun _ _ _ h => h) (Or.inl ⟨by kernel_rfl, ?_⟩) (by assumption) ?_
          rotate_left
          · (intro w hSw; obtain ⟨s1, s2, s3, s4⟩ := hSw; clear s1 s4; go_simp; (try with_reducible rfl))
          simp only [Act.put, List.getElem_toArray, List.getElem_cons_succ, List.getElem_cons_zero, List.setIfInBounds_toArray, List.set_cons_zero, List.set_cons_succ]
          refine wpAnyH_take (i := 6) (v := ?_) rfl (by kernel_rfl) (by kernel_rfl) (by kernel_rfl) (fun _ _ _ h => h) (Or.inl ⟨by kernel_rfl, ?_⟩) (by assumption) ?_
          rotate_left
          · (intro w hSw; (try dsimp only at hSw); go_simp; (try with_reducible rfl))
          simp only [Act.put, List.getElem_toArray, List.getElem_cons_succ, List.getElem_cons_zero, List.setIfInBounds_toArray, List.set_cons_zero, List.set_cons_succ]
          refine wpAnyH_take (i := 7) (v := ?_) rfl (by kernel_rfl) (by kernel_rfl) (by kernel_rfl) (fun _ _ _ h => h) (Or.inl ⟨by kernel_rfl, ?_⟩) (by assumption) ?_
          rotate_left
          · (intro w hSw; (try dsimp only at hSw); go_simp; (try with_reducible rfl))
          simp only [Act.put, List.getElem_toArray, List.getElem_cons_succ, List.getElem_cons_zero, List.setIfInBounds_toArray, List.set_cons_zero, List.set_cons_succ]
          refine wpAnyH_take (i := 8) (v := ?_) rfl (by kernel_rfl) (by kernel_rfl) (by kernel_rfl) (fun _ _ _ h => h) (Or.inl ⟨by kernel_rfl, ?_⟩) (by assumption) ?_
          rotate_left
          · (intro w hSw; obtain ⟨s1, s2, s3, s4⟩ := hSw; clear s1 s4; go_simp; (try with_reducible rfl))
          simp only [Act.put, List.getElem_toArray, List.getElem_cons_succ, List.getElem_cons_zero, List.setIfInBounds_toArray, List.set_cons_zero, List.set_cons_succ]
          refine wpAnyH_take (i := 9) (v := ?_) rfl (by kernel_rfl) (by kernel_rfl) (by kernel_rfl) (fun _ _ _ h => h) (Or.inl ⟨by kernel_rfl, ?_⟩) (by assumption) ?_
          rotate_left
          · (intro w hSw; obtain ⟨s1, s2, s3, s4⟩ := hSw; clear s1 s4; go_simp; (try with_reducible rfl))
          simp only [Act.put, List.getElem_toArray, List.getElem_cons_succ, List.getElem_cons_zero, List.setIfInBounds_toArray, List.set_cons_zero, List.set_cons_succ]
          refine wpAnyH_take (i := 10) (v := ?_) rfl (by kernel_rfl) (by kernel_rfl) (by kernel_rfl) (fun _ _ _ h => h) (Or.inl ⟨by kernel_rfl, ?_⟩) (by assumption) ?_
          rotate_left
          · (intro w hSw; (try dsimp only at hSw); go_simp; (try with_reducible rfl))
          simp only [Act.put, List.getElem_toArray, List.getElem_cons_succ, List.getElem_cons_zero, List.setIfInBounds_toArray, List.set_cons_zero, List.set_cons_succ]
          refine wpAnyH_take (i := 11) rfl (by kernel_rfl) (by kernel_rfl) (by kernel_rfl) (fun _ _ _ h => h) (yi_move (by kernel_rfl) rfl rfl) (by assumption) ?_
          simp only [Act.put, List.getElem_toArray, List.getElem_cons_succ, List.getElem_cons_zero, List.setIfInBounds_toArray, List.set_cons_zero, List.set_cons_succ]
          refine wpAnyH_take (i := 12) (v := undef) rfl (by kernel_rfl) (by kernel_rfl) (by kernel_rfl) (fun _ _ _ h => h) (Or.inr ⟨by kernel_rfl, rfl⟩) (by assumption) ?_
          simp only [Act.put, List.getElem_toArray, List.getElem_cons_succ, List.getElem_cons_zero, List.setIfInBounds_toArray, List.set_cons_zero, List.set_cons_succ]
          refine wpAnyH_take (i := 13) (v := undef) rfl (by kernel_rfl) (by kernel_rfl) (by kernel_rfl) (fun _ _ _ h => h) (Or.inr ⟨by kernel_rfl, rfl⟩) (by assumption) ?_
          simp only [Act.put, List.getElem_toArray, List.getElem_cons_succ, List.getElem_cons_zero, List.setIfInBounds_toArray, List.set_cons_zero, List.set_cons_succ]
          refine wpAnyH_take (i := 14) (v := undef) rfl (by kernel_rfl) (by kernel_rfl) (by kernel_rfl) (fun _ _ _ h => h) (Or.inr ⟨by kernel_rfl, rfl⟩) (by assumption) ?_
          simp only [Act.put, List.getElem_toArray, List.getElem_cons_succ, List.getElem_cons_zero, List.setIfInBounds_toArray, List.set_cons_zero, List.set_cons_succ]
          refine wpAnyH_take (i := 15) (v := undef) rfl (by kernel_rfl) (by kernel_rfl) (by kernel_rfl) (fun _ _ _ h => h) (Or.inr ⟨by kernel_rfl, rfl⟩) (by assumption) ?_
          simp only [Act.put, List.getElem_toArray, List.getElem_cons_succ, List.getElem_cons_zero, List.setIfInBounds_toArray, List.set_cons_zero, List.set_cons_succ]
          refine wpAnyH_take (i := 16) (v := undef) rfl (by kernel_rfl) (by kernel_rfl) (by kernel_rfl) (fun _ _ _ h => h) (Or.inr ⟨by kernel_rfl, rfl⟩) (by assumption) ?_
          simp only [Act.put, List.getElem_toArray, List.getElem_cons_succ, List.getElem_cons_zero, List.setIfInBounds_toArray, List.set_cons_zero, List.set_cons_succ]
          refine wpAnyH_take (i := 17) (v := undef) rfl (by kernel_rfl) (by kernel_rfl) (by kernel_rfl) (fun _ _ _ h => h) (Or.inr ⟨by kernel_rfl, rfl⟩) (by assumption) ?_
          simp only [Act.put, List.getElem_toArray, List.getElem_cons_succ, List.getElem_cons_zero, List.setIfInBounds_toArray, List.set_cons_zero, List.set_cons_succ]
          refine wpAnyH_take (i := 18) (v := undef) rfl (by kernel_rfl) (by kernel_rfl) (by kernel_rfl) (fun _ _ _ h => h) (Or.inr ⟨by kernel_rfl, rfl⟩) (by assumption) ?_
          simp only [Act.put, List.getElem_toArray, List.getElem_cons_succ, List.getElem_cons_zero, List.setIfInBounds_toArray, List.set_cons_zero, List.set_cons_succ]
          refine wpAnyH_take (i := 19) (v := undef) rfl (by kernel_rfl) (by kernel_rfl) (by kernel_rfl) (fun _ _ _ h => h) (Or.inr ⟨by kernel_rfl, rfl⟩) (by assumption) ?_
          simp only [Act.put, List.getElem_toArray, List.getElem_cons_succ, List.getElem_cons_zero, List.setIfInBounds_toArray, List.set_cons_zero, List.set_cons_succ]
          refine wpAnyH_take (i := 20) (v := undef) rfl (by kernel_rfl) (by kernel_rfl) (by kernel_rfl) (fun _ _ _ h => h) (Or.inr ⟨by kernel_rfl, rfl⟩) (by assumption) ?_
          simp only [Act.put, List.getElem_toArray, List.getElem_cons_succ, List.getElem_cons_zero, List.setIfInBounds_toArray, List.set_cons_zero, List.set_cons_succ]
          refine wpAnyH_take (i := 21) (v := ?_) rfl (by kernel_rfl) (by kernel_rfl) (by kernel_rfl) (fun _ _ _ h => h) (Or.inl ⟨by kernel_rfl, ?_⟩) (by assumption) ?_
          rotate_left
          · (intro w hSw; (try dsimp only at hSw); go_simp; (try with_reducible rfl))
          simp only [Act.put, List.getElem_toArray, List.getElem_cons_succ, List.getElem_cons_zero, List.setIfInBounds_toArray, List.set_cons_zero, List.set_cons_succ]
          refine wpAnyH_take (i := 22) (v := ?_) rfl (by kernel_rfl) (by kernel_rfl) (by kernel_rfl) (fun _ _ _ h => h) (Or.inl ⟨by kernel_rfl, ?_⟩) (by assumption) ?_
          rotate_left
          · (intro w hSw; (try dsimp only at hSw); go_simp; (try with_reducible rfl))
          simp only [Act.put, List.getElem_toArray, List.getElem_cons_succ, List.getElem_cons_zero, List.setIfInBounds_toArray, List.set_cons_zero, List.set_cons_succ]
          refine wpAnyH_done (by kernel_rfl) ?_ _
          refine NoPanic.normal ?_
          have HE := HB2
          have HE2 : Hid (Bl wr _) := HZ.out.step HE
          have y1 := HRV.out.grow HE2.out
          have y2 := HOF.out.trans (Of1.of_bl HE2.out)
          have y3 := ownsRow_bl HOW.out HE2.out
          have b7 := HB7.out _ HE
          clear HZ hZ HRV HOF HOW HB7 HE2 KP HE
          obtain ⟨k0, k1, k2⟩ := cells3 b7
          have z0 := (y1.range j hj1) 0 _ rfl
          have z1 := (y1.range j hj1) 1 _ rfl
          have z2 := (y1.range j hj1) 2 _ rfl
          have f0 := y1.froz (j * 3) (by omega)
          have f1 := y1.froz (j * 3 + 1) (by omega)
          have f2 := y1.froz (j * 3 + 2) (by omega)
          simp only [Nat.add_zero] at z0
          obtain ⟨X0, hX0⟩ : ∃ X0, ((((V2.setCell ⟨r, j * 3, none⟩ (.int .i64 (j : Int))).setCell ⟨r, j * 3 + 1, none⟩ (.int .i64 m1)).setCell ⟨r, j * 3 + 2, none⟩ (.int .i64 m2))) = X0 := ⟨_, rfl⟩
          obtain ⟨oX, zX, fX, rX⟩ := y1.mid j hj1 m1 m2 hX0
          generalize hX : X0.drew = X at *
          have bX : X.heap[B7]? = some (.cells #[.int .i64 (j : Int), .int .i64 m1, .int .i64 m2] 28 (0, 0)) := by rw [oX.block B7 (lt_heap b7) hB7r]; exact b7
          have kX := (cells3 bX).1
          have oY : Hid (Of1 r W (X.setCell ⟨r, 21 + j, none⟩ (.bool true)).drew) := by
            have y := (y2.trans oX).set (21 + j) (.bool true)
            exact ⟨y.os, y.tape, y.output, y.size, y.block⟩
          have bY : Hid ((X.setCell ⟨r, 21 + j, none⟩ (.bool true)).drew.rangeAt B7 0 [.int .i64 (j : Int), .int .i64 m1, .int .i64 m2]) := by
            have y := (Of1.refl r X).set (21 + j) (.bool true)
            have e : (X.setCell ⟨r, 21 + j, none⟩ (.bool true)).drew.heap[B7]? = some (.cells #[.int .i64 (j : Int), .int .i64 m1, .int .i64 m2] 28 (0, 0)) := by
              show (X.setCell ⟨r, 21 + j, none⟩ (.bool true)).heap[B7]? = _
              rw [y.block B7 (lt_heap bX) hB7r]; exact bX
            exact range3 e
          have rY : Hid (RV (X.setCell ⟨r, 21 + j, none⟩ (.bool true)).drew r (fun k => if k = (j : Int) then some ((j : Int), m1, m2) else G k)) := rX.block rfl
          have wY : Hid ((X.setCell ⟨r, 21 + j, none⟩ (.bool true)).drew.ownsRow W.heap.size 28 3 u5 TK.length (flG lyM TK)) := by
            have y := oX.trans ((Of1.refl r X).set (21 + j) (.bool true))
            have := own_of1 y3 y hr
            exact ownsRow_bl this (Bl.refl _).drew
          have sY : W.heap.size ≤ (X.setCell ⟨r, 21 + j, none⟩ (.bool true)).drew.heap.size := oY.out.size
          clear rX oX y1 y2 y3
          go_wp2_with fail
          go_region
          clear hX hX0 k0 k1 k2 z0 z1 z2 f0 f1 f2 b7
          go_wp2_with fail
          go_region
          generalize hY : (X.setCell ⟨r, 21 + j, none⟩ (.bool true)).drew = Y at *
          clear hY kX zX fX bX
          go_wp2_with (first
            | (refine wpList_load_mid rfl 28 _ rfl B7 0 rfl [.int .i64 (j : Int), .int .i64 m1, .int .i64 m2] _ bY.out hum rfl infoMe ?_; clear bY)
            | (refine wl_app1N lyM 28 33 (.agg #[.int .i64 0, .int .i64 0, .int .i64 0]) 24 undMs infoMe3 rfl (by decide) rfl _ _ rfl W.heap.size TK.length TK rfl ((j : Int), m1, m2) u5 rfl sY wY.out rfl (by omega) ?_ _ rfl rfl; intro a' c' w2 g1 g2))
          obtain ⟨v1, v2⟩ := rY.out.grown oY.out hr wY.out g2
          have v3 : w2.ownsRow W.heap.size 28 3 (.slice a' (TK.length + 1) c') (K.tak f (l.take (k + 1))).length (flG lyM (K.tak f (l.take (k + 1)))) := by
            have e : K.tak f (l.take (k + 1)) = TK ++ [((j : Int), m1, m2)] := HT.out.trans (by simp)
            rw [e, List.length_append]; exact g1
          go_roundw
          case rel => exact ⟨k + 1, by omega, by go_num, HW.out _ _ (by rw [HM.out]; exact v1) v2 v3⟩
          case measure => simp [intOf]; omega
        | true =>
          rw [hy] at HN HKN
          have CA : Hid (∀ V U, Bl V U → Calls Try.prog 21 #[.agg #[.int .i64 (j : Int), .int .i64 m1, .int .i64 m2], .agg #[.int .i64 (gv G j).1, .int .i64 (gv G j).2.1, .int .i64 (gv G j).2.2]] U fun e w' => e = .returned (.bool (K.above ((j : Int), m1, m2) (gv G j))) ∧ Bl V w') := fun V U h => rAbove_x _ _ V U h
          generalize gv G j = old at *
          cases hab : K.above ((j : Int), m1, m2) old with
          | true =>
            rw [hab] at HN CA
            have hnw : K.news G ((j : Int), m1, m2) = true := by rw [HN]; rfl
            rw [hnw] at HT
            rw [stp_yes hnw] at HM
            obtain ⟨o0, o1, o2⟩ := old
            simp only at *
            clear hnw hgd HN hy hab
            go_wp2_with (refine wpList_load_mid rfl 28 _ rfl b2 (off + k * 3) rfl [.int .i64 (j : Int), .int .i64 m1, .int .i64 m2] _ HR.out hum rfl infoMe ?_; clear HR)
            have HZ : Hid (Bl wr (wr.alloc (.cells #[.int .i64 (j : Int), .int .i64 m1, .int .i64 m2] 28))) := (Bl.refl wr).alloc _
            have KP : Hid (∀ U, Bl (wr.alloc (.cells #[.int .i64 (j : Int), .int .i64 m1, .int .i64 m2] 28)) U → U.rangeAt wr.heap.size 0 [.int .i64 (j : Int), .int .i64 m1, .int .i64 m2] ∧ U.cell? ⟨wr.heap.size, 0, none⟩ = some (.int .i64 (j : Int)) ∧ U.cell? ⟨r, 21 + j, none⟩ = some (.bool true) ∧ U.rangeAt r (j * 3) [.int .i64 o0, .int .i64 o1, .int .i64 o2]) := fun U hU => by
              have r1 : U.rangeAt wr.heap.size 0 [.int .i64 (j : Int), .int .i64 m1, .int .i64 m2] := range3 hU.box
              obtain ⟨q1, q2⟩ := HKN.out U (HRV.out.grow (HZ.out.step hU))
              exact ⟨r1, (cells3 hU.box).1, q1, q2⟩
            have HB7 : Hid (∀ U, Bl (wr.alloc (.cells #[.int .i64 (j : Int), .int .i64 m1, .int .i64 m2] 28)) U → U.heap[wr.heap.size]? = some (.cells #[.int .i64 (j : Int), .int .i64 m1, .int .i64 m2] 28 (0, 0))) := fun U hU => hU.box
            have hB7r : wr.heap.size ≠ r := by have := HRV.out.lt; omega
            generalize hZ : (wr.alloc (.cells #[.int .i64 (j : Int), .int .i64 m1, .int .i64 m2] 28)) = Z at *
            have hB7 : W.heap.size ≤ wr.heap.size := HWS.out
            generalize wr.heap.size = B7 at *
            (try simp only [List.append_eq, List.cons_append, List.nil_append])
            refine wp_region_noPanic ?_
            refine wp_region_held_drew (S := fun U => U.rangeAt B7 0 [.int .i64 (j : Int), .int .i64 m1, .int .i64 m2] ∧ U.cell? ⟨B7, 0, none⟩ = some (.int .i64 (j : Int)) ∧ U.cell? ⟨r, 21 + j, none⟩ = some (.bool true) ∧ U.rangeAt r (j * 3) [.int .i64 o0, .int .i64 o1, .int .i64 o2]) (by kernel_rfl) (KP.out _ ((Bl.refl Z).drewN 1)) (fun hHeld => ?_)
            refine wpAnyH_take (i := 0) (v := .agg (List.toArray [.int .i64 (j : Int), .int .i64 m1, .int .i64 m2])) rfl (by kernel_rfl) (by kernel_rfl) (by kernel_rfl) (fun _ _ _ h => h) (yieldsIf_load_mid (by kernel_rfl) _ (.tmp 7) (by kernel_rfl) B7 0 (by kernel_rfl) [.int .i64 (j : Int), .int .i64 m1, .int .i64 m2] _ (fun W hW => hW.1) hum rfl infoMe) (by assumption) ?_
            simp only [Act.put, List.getElem_toArray, List.getElem_cons_succ, List.getElem_cons_zero, List.setIfInBounds_toArray, List.set_cons_zero, List.set_cons_succ]
            refine wpAnyH_ready (rs := [1]) (by kernel_rfl) (by simp) ?_
            refine AllReadyH.cons (o := _) rfl (fun K hK => ?_) AllReadyH.nil
            go_simp
            go_at_call 19; refine (CG.out _ _ ((Bl.refl Z).drewN 1)).mono ?_; rintro e V2 ⟨rfl, HB2⟩
            refine hK.out _ _ (KP.out _ HB2) (fun hHeld => ?_)
            clear hK K
            (try simp only [Act.put, List.getElem_toArray, List.getElem_cons_succ, List.getElem_cons_zero, List.setIfInBounds_toArray, List.set_cons_zero, List.set_cons_succ])
            refine wpAnyH_take (i := 2) rfl (by kernel_rfl) (by kernel_rfl) (by kernel_rfl) (fun _ _ _ h => h) (yi_move (by kernel_rfl) rfl rfl) (by assumption) ?_
            simp only [Act.put, List.getElem_toArray, List.getElem_cons_succ, List.getElem_cons_zero, List.setIfInBounds_toArray, List.set_cons_zero, List.set_cons_succ]
            refine wpAnyH_take (i := 3) rfl (by kernel_rfl) (by kernel_rfl) (by kernel_rfl) (fun _ _ _ h => h) (yi_move (by kernel_rfl) rfl rfl) (by assumption) ?_
            simp only [Act.put, List.getElem_toArray, List.getElem_cons_succ, List.getElem_cons_zero, List.setIfInBounds_toArray, List.set_cons_zero, List.set_cons_succ]
            refine wpAnyH_take (i := 4) (v := ?_) rfl (by kernel_rfl) (by kernel_rfl) (by kernel_rfl) (fun _ _ _ h => h) (Or.inl ⟨by kernel_rfl, ?_⟩) (by assumption) ?_
            rotate_left
            · (intro w hSw; (try dsimp only at hSw); go_simp; (try with_reducible rfl))
            simp only [Act.put, List.getElem_toArray, List.getElem_cons_succ, List.getElem_cons_zero, List.setIfInBounds_toArray, List.set_cons_zero, List.set_cons_succ]
            refine wpAnyH_take (i := 5) (v := ?_) rfl (by kernel_rfl) (by kernel_rfl) (by kernel_rfl) (fun _ _ _ h => h) (Or.inl ⟨by kernel_rfl, ?_⟩) (by assumption) ?_
            rotate_left
            · (intro w hSw; obtain ⟨s1, s2, s3, s4⟩ := hSw; clear s1 s4; go_simp; (try with_reducible rfl))
            simp only [Act.put, List.getElem_toArray, List.getElem_cons_succ, List.getElem_cons_zero, List.setIfInBounds_toArray, List.set_cons_zero, List.set_cons_succ]
            refine wpAnyH_take (i := 6) (v := ?_) rfl (by kernel_rfl) (by kernel_rfl) (by kernel_rfl) (fun _ _ _ h => h) (Or.inl ⟨by kernel_rfl, ?_⟩) (by assumption) ?_
            rotate_left
            · (intro w hSw; (try dsimp only at hSw); go_simp; (try with_reducible rfl))
            simp only [Act.put, List.getElem_toArray, List.getElem_cons_succ, List.getElem_cons_zero, List.setIfInBounds_toArray, List.set_cons_zero, List.set_cons_succ]
            refine wpAnyH_take (i := 7) (v := ?_) rfl (by kernel_rfl) (by kernel_rfl) (by kernel_rfl) (fun _ _ _ h => h) (Or.inl ⟨by kernel_rfl, ?_⟩) (by assumption) ?_
            rotate_left
            · (intro w hSw; (try dsimp only at hSw); go_simp; (try with_reducible rfl))
            simp only [Act.put, List.getElem_toArray, List.getElem_cons_succ, List.getElem_cons_zero, List.setIfInBounds_toArray, List.set_cons_zero, List.set_cons_succ]
            refine wpAnyH_take (i := 8) (v := ?_) rfl (by kernel_rfl) (by kernel_rfl) (by kernel_rfl) (fun _ _ _ h => h) (Or.inl ⟨by kernel_rfl, ?_⟩) (by assumption) ?_
            rotate_left
            · (intro w hSw; obtain ⟨s1, s2, s3, s4⟩ := hSw; clear s1 s4; go_simp; (try with_reducible rfl))
            simp only [Act.put, List.getElem_toArray, List.getElem_cons_succ, List.getElem_cons_zero, List.setIfInBounds_toArray, List.set_cons_zero, List.set_cons_succ]
            refine wpAnyH_take (i := 9) (v := ?_) rfl (by kernel_rfl) (by kernel_rfl) (by kernel_rfl) (fun _ _ _ h => h) (Or.inl ⟨by kernel_rfl, ?_⟩) (by assumption) ?_
            rotate_left
            · (intro w hSw; obtain ⟨s1, s2, s3, s4⟩ := hSw; clear s1 s4; go_simp; (try with_reducible rfl))
            simp only [Act.put, List.getElem_toArray, List.getElem_cons_succ, List.getElem_cons_zero, List.setIfInBounds_toArray, List.set_cons_zero, List.set_cons_succ]
            refine wpAnyH_take (i := 10) (v := ?_) rfl (by kernel_rfl) (by kernel_rfl) (by kernel_rfl) (fun _ _ _ h => h) (Or.inl ⟨by kernel_rfl, ?_⟩) (by assumption) ?_
            rotate_left
            · (intro w hSw; (try dsimp only at hSw); go_simp; (try with_reducible rfl))
            simp only [Act.put, List.getElem_toArray, List.getElem_cons_succ, List.getElem_cons_zero, List.setIfInBounds_toArray, List.set_cons_zero, List.set_cons_succ]
            refine wpAnyH_take (i := 11) rfl (by kernel_rfl) (by kernel_rfl) (by kernel_rfl) (fun _ _ _ h => h) (yi_move (by kernel_rfl) rfl rfl) (by assumption) ?_
            simp only [Act.put, List.getElem_toArray, List.getElem_cons_succ, List.getElem_cons_zero, List.setIfInBounds_toArray, List.set_cons_zero, List.set_cons_succ]
            refine wpAnyH_take (i := 12) (v := .agg (List.toArray [.int .i64 (j : Int), .int .i64 m1, .int .i64 m2])) rfl (by kernel_rfl) (by kernel_rfl) (by kernel_rfl) (fun _ _ _ h => h) (yieldsIf_load_mid (by kernel_rfl) _ (.tmp 7) (by kernel_rfl) B7 0 (by kernel_rfl) [.int .i64 (j : Int), .int .i64 m1, .int .i64 m2] _ (fun W hW => hW.1) hum rfl infoMe) (by assumption) ?_
            simp only [Act.put, List.getElem_toArray, List.getElem_cons_succ, List.getElem_cons_zero, List.setIfInBounds_toArray, List.set_cons_zero, List.set_cons_succ]
            refine wpAnyH_take (i := 13) rfl (by kernel_rfl) (by kernel_rfl) (by kernel_rfl) (fun _ _ _ h => h) (yi_move (by kernel_rfl) rfl rfl) (by assumption) ?_
            simp only [Act.put, List.getElem_toArray, List.getElem_cons_succ, List.getElem_cons_zero, List.setIfInBounds_toArray, List.set_cons_zero, List.set_cons_succ]
            refine wpAnyH_take (i := 14) (v := ?_) rfl (by kernel_rfl) (by kernel_rfl) (by kernel_rfl) (fun _ _ _ h => h) (Or.inl ⟨by kernel_rfl, ?_⟩) (by assumption) ?_
            rotate_left
            · (intro w hSw; (try dsimp only at hSw); go_simp; (try with_reducible rfl))
            simp only [Act.put, List.getElem_toArray, List.getElem_cons_succ, List.getElem_cons_zero, List.setIfInBounds_toArray, List.set_cons_zero, List.set_cons_succ]
            refine wpAnyH_take (i := 15) (v := ?_) rfl (by kernel_rfl) (by kernel_rfl) (by kernel_rfl) (fun _ _ _ h => h) (Or.inl ⟨by kernel_rfl, ?_⟩) (by assumption) ?_
            rotate_left
            · (intro w hSw; obtain ⟨s1, s2, s3, s4⟩ := hSw; clear s1 s4; go_simp; (try with_reducible rfl))
            simp only [Act.put, List.getElem_toArray, List.getElem_cons_succ, List.getElem_cons_zero, List.setIfInBounds_toArray, List.set_cons_zero, List.set_cons_succ]
            refine wpAnyH_take (i := 16) (v := ?_) rfl (by kernel_rfl) (by kernel_rfl) (by kernel_rfl) (fun _ _ _ h => h) (Or.inl ⟨by kernel_rfl, ?_⟩) (by assumption) ?_
            rotate_left
            · (intro w hSw; (try dsimp only at hSw); go_simp; (try with_reducible rfl))
            simp only [Act.put, List.getElem_toArray, List.getElem_cons_succ, List.getElem_cons_zero, List.setIfInBounds_toArray, List.set_cons_zero, List.set_cons_succ]
            refine wpAnyH_take (i := 17) (v := ?_) rfl (by kernel_rfl) (by kernel_rfl) (by kernel_rfl) (fun _ _ _ h => h) (Or.inl ⟨by kernel_rfl, ?_⟩) (by assumption) ?_
            rotate_left
            · (intro w hSw; (try dsimp only at hSw); go_simp; (try with_reducible rfl))
            simp only [Act.put, List.getElem_toArray, List.getElem_cons_succ, List.getElem_cons_zero, List.setIfInBounds_toArray, List.set_cons_zero, List.set_cons_succ]
            refine wpAnyH_take (i := 18) (v := ?_) rfl (by kernel_rfl) (by kernel_rfl) (by kernel_rfl) (fun _ _ _ h => h) (Or.inl ⟨by kernel_rfl, ?_⟩) (by assumption) ?_
            rotate_left
            · (intro w hSw; obtain ⟨s1, s2, s3, s4⟩ := hSw; clear s1 s4; go_simp; (try with_reducible rfl))
            simp only [Act.put, List.getElem_toArray, List.getElem_cons_succ, List.getElem_cons_zero, List.setIfInBounds_toArray, List.set_cons_zero, List.set_cons_succ]
            refine wpAnyH_take (i := 19) (v := .agg (List.toArray [.int .i64 o0, .int .i64 o1, .int .i64 o2])) rfl (by kernel_rfl) (by kernel_rfl) (by kernel_rfl) (fun _ _ _ h => h) (yieldsIf_load_mid (by kernel_rfl) _ (.tmp 37) (by kernel_rfl) r (j * 3) (by kernel_rfl) [.int .i64 o0, .int .i64 o1, .int .i64 o2] _ (fun W hW => hW.2.2.2) hum rfl infoMe) (by assumption) ?_
            simp only [Act.put, List.getElem_toArray, List.getElem_cons_succ, List.getElem_cons_zero, List.setIfInBounds_toArray, List.set_cons_zero, List.set_cons_succ]
            refine wpAnyH_ready (rs := [20]) (by kernel_rfl) (by simp) ?_
            refine AllReadyH.cons (o := _) rfl (fun K hK => ?_) AllReadyH.nil
            go_simp
            go_at_call 21; refine (CA.out _ _ HB2).mono ?_; rintro e V21 ⟨rfl, HB21⟩
            refine hK.out _ _ (KP.out _ HB21) (fun hHeld => ?_)
            clear hK K
            (try simp only [Act.put, List.getElem_toArray, List.getElem_cons_succ, List.getElem_cons_zero, List.setIfInBounds_toArray, List.set_cons_zero, List.set_cons_succ])
            refine wpAnyH_take (i := 21) (v := ?_) rfl (by kernel_rfl) (by kernel_rfl) (by kernel_rfl) (fun _ _ _ h => h) (Or.inl ⟨by kernel_rfl, ?_⟩) (by assumption) ?_
            rotate_left
            · (intro w hSw; (try dsimp only at hSw); go_simp; (try with_reducible rfl))
            simp only [Act.put, List.getElem_toArray, List.getElem_cons_succ, List.getElem_cons_zero, List.setIfInBounds_toArray, List.set_cons_zero, List.set_cons_succ]
            refine wpAnyH_take (i := 22) (v := ?_) rfl (by kernel_rfl) (by kernel_rfl) (by kernel_rfl) (fun _ _ _ h => h) (Or.inl ⟨by kernel_rfl, ?_⟩) (by assumption) ?_
            rotate_left
            · (intro w hSw; (try dsimp only at hSw); go_simp; (try with_reducible rfl))
            simp only [Act.put, List.getElem_toArray, List.getElem_cons_succ, List.getElem_cons_zero, List.setIfInBounds_toArray, List.set_cons_zero, List.set_cons_succ]
            refine wpAnyH_done (by kernel_rfl) ?_ _
            refine NoPanic.normal ?_
            have HE := HB21
            have HE2 : Hid (Bl wr _) := HZ.out.step HE
            have y1 := HRV.out.grow HE2.out
            have y2 := HOF.out.trans (Of1.of_bl HE2.out)
            have y3 := ownsRow_bl HOW.out HE2.out
            have b7 := HB7.out _ HE
            clear HZ hZ HRV HOF HOW HB7 HE2 KP HE
            obtain ⟨k0, k1, k2⟩ := cells3 b7
            have z0 := (y1.range j hj1) 0 _ rfl
            have z1 := (y1.range j hj1) 1 _ rfl
            have z2 := (y1.range j hj1) 2 _ rfl
            have f0 := y1.froz (j * 3) (by omega)
            have f1 := y1.froz (j * 3 + 1) (by omega)
            have f2 := y1.froz (j * 3 + 2) (by omega)
            simp only [Nat.add_zero] at z0
            obtain ⟨X0, hX0⟩ : ∃ X0, ((((V21.setCell ⟨r, j * 3, none⟩ (.int .i64 (j : Int))).setCell ⟨r, j * 3 + 1, none⟩ (.int .i64 m1)).setCell ⟨r, j * 3 + 2, none⟩ (.int .i64 m2))) = X0 := ⟨_, rfl⟩
            obtain ⟨oX, zX, fX, rX⟩ := y1.mid j hj1 m1 m2 hX0
            generalize hX : X0.drew = X at *
            have bX : X.heap[B7]? = some (.cells #[.int .i64 (j : Int), .int .i64 m1, .int .i64 m2] 28 (0, 0)) := by rw [oX.block B7 (lt_heap b7) hB7r]; exact b7
            have kX := (cells3 bX).1
            have oY : Hid (Of1 r W (X.setCell ⟨r, 21 + j, none⟩ (.bool true)).drew) := by
              have y := (y2.trans oX).set (21 + j) (.bool true)
              exact ⟨y.os, y.tape, y.output, y.size, y.block⟩
            have bY : Hid ((X.setCell ⟨r, 21 + j, none⟩ (.bool true)).drew.rangeAt B7 0 [.int .i64 (j : Int), .int .i64 m1, .int .i64 m2]) := by
              have y := (Of1.refl r X).set (21 + j) (.bool true)
              have e : (X.setCell ⟨r, 21 + j, none⟩ (.bool true)).drew.heap[B7]? = some (.cells #[.int .i64 (j : Int), .int .i64 m1, .int .i64 m2] 28 (0, 0)) := by
                show (X.setCell ⟨r, 21 + j, none⟩ (.bool true)).heap[B7]? = _
                rw [y.block B7 (lt_heap bX) hB7r]; exact bX
              exact range3 e
            have rY : Hid (RV (X.setCell ⟨r, 21 + j, none⟩ (.bool true)).drew r (fun k => if k = (j : Int) then some ((j : Int), m1, m2) else G k)) := rX.block rfl
            have wY : Hid ((X.setCell ⟨r, 21 + j, none⟩ (.bool true)).drew.ownsRow W.heap.size 28 3 u5 TK.length (flG lyM TK)) := by
              have y := oX.trans ((Of1.refl r X).set (21 + j) (.bool true))
              have := own_of1 y3 y hr
              exact ownsRow_bl this (Bl.refl _).drew
            have sY : W.heap.size ≤ (X.setCell ⟨r, 21 + j, none⟩ (.bool true)).drew.heap.size := oY.out.size
            clear rX oX y1 y2 y3
            go_wp2_with fail
            go_region
            clear hX hX0 k0 k1 k2 z0 z1 z2 f0 f1 f2 b7
            go_wp2_with fail
            go_region
            generalize hY : (X.setCell ⟨r, 21 + j, none⟩ (.bool true)).drew = Y at *
            clear hY kX zX fX bX
            go_wp2_with (first
              | (refine wpList_load_mid rfl 28 _ rfl B7 0 rfl [.int .i64 (j : Int), .int .i64 m1, .int .i64 m2] _ bY.out hum rfl infoMe ?_; clear bY)
              | (refine wl_app1N lyM 28 33 (.agg #[.int .i64 0, .int .i64 0, .int .i64 0]) 24 undMs infoMe3 rfl (by decide) rfl _ _ rfl W.heap.size TK.length TK rfl ((j : Int), m1, m2) u5 rfl sY wY.out rfl (by omega) ?_ _ rfl rfl; intro a' c' w2 g1 g2))
            obtain ⟨v1, v2⟩ := rY.out.grown oY.out hr wY.out g2
            have v3 : w2.ownsRow W.heap.size 28 3 (.slice a' (TK.length + 1) c') (K.tak f (l.take (k + 1))).length (flG lyM (K.tak f (l.take (k + 1)))) := by
              have e : K.tak f (l.take (k + 1)) = TK ++ [((j : Int), m1, m2)] := HT.out.trans (by simp)
              rw [e, List.length_append]; exact g1
            go_roundw
            case rel => exact ⟨k + 1, by omega, by go_num, HW.out _ _ (by rw [HM.out]; exact v1) v2 v3⟩
            case measure => simp [intOf]; omega
          | false =>
            rw [hab] at HN CA
            have hnw : K.news G ((j : Int), m1, m2) = false := by rw [HN]; rfl
            rw [hnw] at HT
            rw [stp_no hnw] at HM
            obtain ⟨o0, o1, o2⟩ := old
            simp only at *
            clear hnw hgd HN hy hab
            go_wp2_with (refine wpList_load_mid rfl 28 _ rfl b2 (off + k * 3) rfl [.int .i64 (j : Int), .int .i64 m1, .int .i64 m2] _ HR.out hum rfl infoMe ?_; clear HR)
            have HZ : Hid (Bl wr (wr.alloc (.cells #[.int .i64 (j : Int), .int .i64 m1, .int .i64 m2] 28))) := (Bl.refl wr).alloc _
            have KP : Hid (∀ U, Bl (wr.alloc (.cells #[.int .i64 (j : Int), .int .i64 m1, .int .i64 m2] 28)) U → U.rangeAt wr.heap.size 0 [.int .i64 (j : Int), .int .i64 m1, .int .i64 m2] ∧ U.cell? ⟨wr.heap.size, 0, none⟩ = some (.int .i64 (j : Int)) ∧ U.cell? ⟨r, 21 + j, none⟩ = some (.bool true) ∧ U.rangeAt r (j * 3) [.int .i64 o0, .int .i64 o1, .int .i64 o2]) := fun U hU => by
              have r1 : U.rangeAt wr.heap.size 0 [.int .i64 (j : Int), .int .i64 m1, .int .i64 m2] := range3 hU.box
              obtain ⟨q1, q2⟩ := HKN.out U (HRV.out.grow (HZ.out.step hU))
              exact ⟨r1, (cells3 hU.box).1, q1, q2⟩
            have HB7 : Hid (∀ U, Bl (wr.alloc (.cells #[.int .i64 (j : Int), .int .i64 m1, .int .i64 m2] 28)) U → U.heap[wr.heap.size]? = some (.cells #[.int .i64 (j : Int), .int .i64 m1, .int .i64 m2] 28 (0, 0))) := fun U hU => hU.box
            have hB7r : wr.heap.size ≠ r := by have := HRV.out.lt; omega
            generalize hZ : (wr.alloc (.cells #[.int .i64 (j : Int), .int .i64 m1, .int .i64 m2] 28)) = Z at *
            have hB7 : W.heap.size ≤ wr.heap.size := HWS.out
            generalize wr.heap.size = B7 at *
            (try simp only [List.append_eq, List.cons_append, List.nil_append])
            refine wp_region_noPanic ?_
            refine wp_region_held_drew (S := fun U => U.rangeAt B7 0 [.int .i64 (j : Int), .int .i64 m1, .int .i64 m2] ∧ U.cell? ⟨B7, 0, none⟩ = some (.int .i64 (j : Int)) ∧ U.cell? ⟨r, 21 + j, none⟩ = some (.bool true) ∧ U.rangeAt r (j * 3) [.int .i64 o0, .int .i64 o1, .int .i64 o2]) (by kernel_rfl) (KP.out _ ((Bl.refl Z).drewN 1)) (fun hHeld => ?_)
            refine wpAnyH_take (i := 0) (v := .agg (List.toArray [.int .i64 (j : Int), .int .i64 m1, .int .i64 m2])) rfl (by kernel_rfl) (by kernel_rfl) (by kernel_rfl) (fun _ _ _ h => h) (yieldsIf_load_mid (by kernel_rfl) _ (.tmp 7) (by kernel_rfl) B7 0 (by kernel_rfl) [.int .i64 (j : Int), .int .i64 m1, .int .i64 m2] _ (fun W hW => hW.1) hum rfl infoMe) (by assumption) ?_
            simp only [Act.put, List.getElem_toArray, List.getElem_cons_succ, List.getElem_cons_zero, List.setIfInBounds_toArray, List.set_cons_zero, List.set_cons_succ]
            refine wpAnyH_ready (rs := [1]) (by kernel_rfl) (by simp) ?_
            refine AllReadyH.cons (o := _) rfl (fun K hK => ?_) AllReadyH.nil
            go_simp
            go_at_call 19; refine (CG.out _ _ ((Bl.refl Z).drewN 1)).mono ?_; rintro e V2 ⟨rfl, HB2⟩
            refine hK.out _ _ (KP.out _ HB2) (fun hHeld => ?_)
            clear hK K
            (try simp only [Act.put, List.getElem_toArray, List.getElem_cons_succ, List.getElem_cons_zero, List.setIfInBounds_toArray, List.set_cons_zero, List.set_cons_succ])
            refine wpAnyH_take (i := 2) rfl (by kernel_rfl) (by kernel_rfl) (by kernel_rfl) (fun _ _ _ h => h) (yi_move (by kernel_rfl) rfl rfl) (by assumption) ?_
            simp only [Act.put, List.getElem_toArray, List.getElem_cons_succ, List.getElem_cons_zero, List.setIfInBounds_toArray, List.set_cons_zero, List.set_cons_succ]
            refine wpAnyH_take (i := 3) rfl (by kernel_rfl) (by kernel_rfl) (by kernel_rfl) (fun _ _ _ h => h) (yi_move (by kernel_rfl) rfl rfl) (by assumption) ?_
            simp only [Act.put, List.getElem_toArray, List.getElem_cons_succ, List.getElem_cons_zero, List.setIfInBounds_toArray, List.set_cons_zero, List.set_cons_succ]
            refine wpAnyH_take (i := 4) (v := ?_) rfl (by kernel_rfl) (by kernel_rfl) (by kernel_rfl) (fun _ _ _ h => h) (Or.inl ⟨by kernel_rfl, ?_⟩) (by assumption) ?_
            rotate_left
            · (intro w hSw; (try dsimp only at hSw); go_simp; (try with_reducible rfl))
            simp only [Act.put, List.getElem_toArray, List.getElem_cons_succ, List.getElem_cons_zero, List.setIfInBounds_toArray, List.set_cons_zero, List.set_cons_succ]
            refine wpAnyH_take (i := 5) (v := ?_) rfl (by kernel_rfl) (by kernel_rfl) (by kernel_rfl) (fun _ _ _ h => h) (Or.inl ⟨by kernel_rfl, ?_⟩) (by assumption) ?_
            rotate_left
            · (intro w hSw; obtain ⟨s1, s2, s3, s4⟩ := hSw; clear s1 s4; go_simp; (try with_reducible rfl))
            simp only [Act.put, List.getElem_toArray, List.getElem_cons_succ, List.getElem_cons_zero, List.setIfInBounds_toArray, List.set_cons_zero, List.set_cons_succ]
            refine wpAnyH_take (i := 6) (v := ?_) rfl (by kernel_rfl) (by kernel_rfl) (by kernel_rfl) (fun _ _ _ h => h) (Or.inl ⟨by kernel_rfl, ?_⟩) (by assumption) ?_
            rotate_left
            · (intro w hSw; (try dsimp only at hSw); go_simp; (try with_reducible rfl))
            simp only [Act.put, List.getElem_toArray, List.getElem_cons_succ, List.getElem_cons_zero, List.setIfInBounds_toArray, List.set_cons_zero, List.set_cons_succ]
            refine wpAnyH_take (i := 7) (v := ?_) rfl (by kernel_rfl) (by kernel_rfl) (by kernel_rfl) (fun _ _ _ h => h) (Or.inl ⟨by kernel_rfl, ?_⟩) (by assumption) ?_
            rotate_left
            · (intro w hSw; (try dsimp only at hSw); go_simp; (try with_reducible rfl))
            simp only [Act.put, List.getElem_toArray, List.getElem_cons_succ, List.getElem_cons_zero, List.setIfInBounds_toArray, List.set_cons_zero, List.set_cons_succ]
            refine wpAnyH_take (i := 8) (v := ?_) rfl (by kernel_rfl) (by kernel_rfl) (by kernel_rfl) (fun _ _ _ h => h) (Or.inl ⟨by kernel_rfl, ?_⟩) (by assumption) ?_
            rotate_left
            · (intro w hSw; obtain ⟨s1, s2, s3, s4⟩ := hSw; clear s1 s4; go_simp; (try with_reducible rfl))
            simp only [Act.put, List.getElem_toArray, List.getElem_cons_succ, List.getElem_cons_zero, List.setIfInBounds_toArray, List.set_cons_zero, List.set_cons_succ]
            refine wpAnyH_take (i := 9) (v := ?_) rfl (by kernel_rfl) (by kernel_rfl) (by kernel_rfl) (fun _ _ _ h => h) (Or.inl ⟨by kernel_rfl, ?_⟩) (by assumption) ?_
            rotate_left
            · (intro w hSw; obtain ⟨s1, s2, s3, s4⟩ := hSw; clear s1 s4; go_simp; (try with_reducible rfl))
            simp only [Act.put, List.getElem_toArray, List.getElem_cons_succ, List.getElem_cons_zero, List.setIfInBounds_toArray, List.set_cons_zero, List.set_cons_succ]
            refine wpAnyH_take (i := 10) (v := ?_) rfl (by kernel_rfl) (by kernel_rfl) (by kernel_rfl) (fun _ _ _ h => h) (Or.inl ⟨by kernel_rfl, ?_⟩) (by assumption) ?_
            rotate_left
            · (intro w hSw; (try dsimp only at hSw); go_simp; (try with_reducible rfl))
            simp only [Act.put, List.getElem_toArray, List.getElem_cons_succ, List.getElem_cons_zero, List.setIfInBounds_toArray, List.set_cons_zero, List.set_cons_succ]
            refine wpAnyH_take (i := 11) rfl (by kernel_rfl) (by kernel_rfl) (by kernel_rfl) (fun _ _ _ h => h) (yi_move (by kernel_rfl) rfl rfl) (by assumption) ?_
            simp only [Act.put, List.getElem_toArray, List.getElem_cons_succ, List.getElem_cons_zero, List.setIfInBounds_toArray, List.set_cons_zero, List.set_cons_succ]
            refine wpAnyH_take (i := 12) (v := .agg (List.toArray [.int .i64 (j : Int), .int .i64 m1, .int .i64 m2])) rfl (by kernel_rfl) (by kernel_rfl) (by kernel_rfl) (fun _ _ _ h => h) (yieldsIf_load_mid (by kernel_rfl) _ (.tmp 7) (by kernel_rfl) B7 0 (by kernel_rfl) [.int .i64 (j : Int), .int .i64 m1, .int .i64 m2] _ (fun W hW => hW.1) hum rfl infoMe) (by assumption) ?_
            simp only [Act.put, List.getElem_toArray, List.getElem_cons_succ, List.getElem_cons_zero, List.setIfInBounds_toArray, List.set_cons_zero, List.set_cons_succ]
            refine wpAnyH_take (i := 13) rfl (by kernel_rfl) (by kernel_rfl) (by kernel_rfl) (fun _ _ _ h => h) (yi_move (by kernel_rfl) rfl rfl) (by assumption) ?_
            simp only [Act.put, List.getElem_toArray, List.getElem_cons_succ, List.getElem_cons_zero, List.setIfInBounds_toArray, List.set_cons_zero, List.set_cons_succ]
            refine wpAnyH_take (i := 14) (v := ?_) rfl (by kernel_rfl) (by kernel_rfl) (by kernel_rfl) (fun _ _ _ h => h) (Or.inl ⟨by kernel_rfl, ?_⟩) (by assumption) ?_
            rotate_left
            · (intro w hSw; (try dsimp only at hSw); go_simp; (try with_reducible rfl))
            simp only [Act.put, List.getElem_toArray, List.getElem_cons_succ, List.getElem_cons_zero, List.setIfInBounds_toArray, List.set_cons_zero, List.set_cons_succ]
            refine wpAnyH_take (i := 15) (v := ?_) rfl (by kernel_rfl) (by kernel_rfl) (by kernel_rfl) (fun _ _ _ h => h) (Or.inl ⟨by kernel_rfl, ?_⟩) (by assumption) ?_
            rotate_left
            · (intro w hSw; obtain ⟨s1, s2, s3, s4⟩ := hSw; clear s1 s4; go_simp; (try with_reducible rfl))
            simp only [Act.put, List.getElem_toArray, List.getElem_cons_succ, List.getElem_cons_zero, List.setIfInBounds_toArray, List.set_cons_zero, List.set_cons_succ]
            refine wpAnyH_take (i := 16) (v := ?_) rfl (by kernel_rfl) (by kernel_rfl) (by kernel_rfl) (fun _ _ _ h => h) (Or.inl ⟨by kernel_rfl, ?_⟩) (by assumption) ?_
            rotate_left
            · (intro w hSw; (try dsimp only at hSw); go_simp; (try with_reducible rfl))
            simp only [Act.put, List.getElem_toArray, List.getElem_cons_succ, List.getElem_cons_zero, List.setIfInBounds_toArray, List.set_cons_zero, List.set_cons_succ]
            refine wpAnyH_take (i := 17) (v := ?_) rfl (by kernel_rfl) (by kernel_rfl) (by kernel_rfl) (fun _ _ _ h => h) (Or.inl ⟨by kernel_rfl, ?_⟩) (by assumption) ?_
            rotate_left
            · (intro w hSw; (try dsimp only at hSw); go_simp; (try with_reducible rfl))
            simp only [Act.put, List.getElem_toArray, List.getElem_cons_succ, List.getElem_cons_zero, List.setIfInBounds_toArray, List.set_cons_zero, List.set_cons_succ]
            refine wpAnyH_take (i := 18) (v := ?_) rfl (by kernel_rfl) (by kernel_rfl) (by kernel_rfl) (fun _ _ _ h => h) (Or.inl ⟨by kernel_rfl, ?_⟩) (by assumption) ?_
            rotate_left
            · (intro w hSw; obtain ⟨s1, s2, s3, s4⟩ := hSw; clear s1 s4; go_simp; (try with_reducible rfl))
            simp only [Act.put, List.getElem_toArray, List.getElem_cons_succ, List.getElem_cons_zero, List.setIfInBounds_toArray, List.set_cons_zero, List.set_cons_succ]
            refine wpAnyH_take (i := 19) (v := .agg (List.toArray [.int .i64 o0, .int .i64 o1, .int .i64 o2])) rfl (by kernel_rfl) (by kernel_rfl) (by kernel_rfl) (fun _ _ _ h => h) (yieldsIf_load_mid (by kernel_rfl) _ (.tmp 37) (by kernel_rfl) r (j * 3) (by kernel_rfl) [.int .i64 o0, .int .i64 o1, .int .i64 o2] _ (fun W hW => hW.2.2.2) hum rfl infoMe) (by assumption) ?_
            simp only [Act.put, List.getElem_toArray, List.getElem_cons_succ, List.getElem_cons_zero, List.setIfInBounds_toArray, List.set_cons_zero, List.set_cons_succ]
            refine wpAnyH_ready (rs := [20]) (by kernel_rfl) (by simp) ?_
            refine AllReadyH.cons (o := _) rfl (fun K hK => ?_) AllReadyH.nil
            go_simp
            go_at_call 21; refine (CA.out _ _ HB2).mono ?_; rintro e V21 ⟨rfl, HB21⟩
            refine hK.out _ _ (KP.out _ HB21) (fun hHeld => ?_)
            clear hK K
            (try simp only [Act.put, List.getElem_toArray, List.getElem_cons_succ, List.getElem_cons_zero, List.setIfInBounds_toArray, List.set_cons_zero, List.set_cons_succ])
            refine wpAnyH_take (i := 21) (v := ?_) rfl (by kernel_rfl) (by kernel_rfl) (by kernel_rfl) (fun _ _ _ h => h) (Or.inl ⟨by kernel_rfl, ?_⟩) (by assumption) ?_
            rotate_left
            · (intro w hSw; (try dsimp only at hSw); go_simp; (try with_reducible rfl))
            simp only [Act.put, List.getElem_toArray, List.getElem_cons_succ, List.getElem_cons_zero, List.setIfInBounds_toArray, List.set_cons_zero, List.set_cons_succ]
            refine wpAnyH_take (i := 22) (v := ?_) rfl (by kernel_rfl) (by kernel_rfl) (by kernel_rfl) (fun _ _ _ h => h) (Or.inl ⟨by kernel_rfl, ?_⟩) (by assumption) ?_
            rotate_left
            · (intro w hSw; (try dsimp only at hSw); go_simp; (try with_reducible rfl))
            simp only [Act.put, List.getElem_toArray, List.getElem_cons_succ, List.getElem_cons_zero, List.setIfInBounds_toArray, List.set_cons_zero, List.set_cons_succ]
            refine wpAnyH_done (by kernel_rfl) ?_ _
            refine NoPanic.normal ?_
            have HE := HB21
            have HE2 : Hid (Bl wr _) := HZ.out.step HE
            have y1 := HRV.out.grow HE2.out
            have y2 := HOF.out.trans (Of1.of_bl HE2.out)
            have y3 := ownsRow_bl HOW.out HE2.out
            clear HE KP HZ hZ HRV HOF HOW HB7
            go_wp2_with fail
            go_roundw
            case rel => exact ⟨k + 1, by omega, by go_num, HW.out _ _ (by rw [HM.out]; exact y1) y2 (by rw [HT.out]; simpa using y3)⟩
            case measure => simp [intOf]; omega
    · obtain rfl : k = l.length := by omega
      have h1 := hx.rv
      have h2 := hx.of
      have h3 := hx.own
      rw [List.take_length] at h1 h3
      obtain ⟨a', c', rfl, h4⟩ := owns_rs lyM h3
      have HQ : Hid (RS lyM wr a' (K.tak f l) ∧ RV wr r (K.mrg f l) ∧ Of1 r W wr) := ⟨h4, h1, h2⟩
      clear hx h1 h2 h3 h4 HX HV
      go_wp2_with fail
      go_ret
      exact ⟨a', c', rfl, HQ.out⟩
end Go.Proofs.Ytgnnlnhhikmneaa
