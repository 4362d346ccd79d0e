/- Who owns a key is what the document says: the walk. -/
import Derived.Test.YtfghjadhpajmeaaDoorRiY
namespace Go.Proofs.YtfghjadhpajmeaaDoor
open Go.RowKit Go.Maps Go.Sort Go.Shelf
set_option linter.unusedVariables false
set_option linter.unusedSimpArgs false
attribute [local go_sem ↓] zero27

set_option maxRecDepth 8000 in
set_option maxHeartbeats 4000000 in
theorem rOwns_x (d : List UInt8) (hd : d.length = 32) (l : List Int) (a : Option Addr) (n c : Nat) (hnl : n = l.length) (W : World) (hG : GW W) (hv : RS lyI W a l) (hl : l.length ≤ 100000) :
    Calls Tryd.prog 16 #[.agg (dg d), .slice a n c] W fun e w' => ∃ a' c' out, e = .returned (.slice a' (out.take 2).length c') ∧ RI.IsW (RI.near (RI.place d)) l out ∧ RS lyI w' a' (out.take 2) ∧ GB W w' := by
  have hz := hG.z
  have C1 : Hid (Calls Tryd.prog 14 #[.agg (dg d), .slice a n c] (W.alloc (.cells (dg d) 23)) fun e w' => ∃ a' c' out, e = .returned (.slice a' out.length c') ∧ RI.IsW (RI.near (RI.place d)) l out ∧ RS lyI w' a' out ∧ out.length ≤ c' ∧ GB W w') := by
    have HB : GB W (W.alloc (.cells (dg d) 23)) := (GB.refl hG).alloc _
    refine (rWalk_x d hd l a n c hnl _ HB.g (hv.bl HB.b) hl).mono ?_
    rintro e w' ⟨a', c', out, rfl, h0, h1, h2, h3⟩
    exact ⟨a', c', out, rfl, h1, h2, h0, HB.step h3.b⟩
  have HRow : Hid ((W.alloc (.cells (dg d) 23)).heap[W.heap.size]? = some (.cells (dg d) 23 (0, 0))) := heap_alloc_new _ _
  have hDs : (dg d).size = 32 := by rw [dg_size, hd]
  generalize dg d = D at *
  clear hv hG hd hnl hl
  go_enter Tryd.func16, Tryd.ntmps16
  go_upto_region 2 with (first
    | go_skip
    | refine wpList_load_row rfl 23 _ rfl _ rfl 23 D (0, 0) _ HRow.out und27 rfl (by rw [hDs]; exact info27) ?_
    | (go_at_call 14; refine (C1.out).mono ?_; clear C1; rintro e w' ⟨a', c', out, rfl, h1, h2, h3, h4⟩))
  by_cases h5 : 2 < out.length
  · have e1 : (out.take 2).length = 2 := by rw [List.length_take]; omega
    have h6 : (2 : Int) < (out.length : Int) := by omega
    have h7 : 2 ≤ c' := by omega
    have HR := hidI (h2.take 2)
    have HW := hidI h1
    clear h1 h2
    go_wp2_with fail
    go_ret
    exact ⟨a', c', out, by rw [e1]; rfl, HW.out, HR.out, h4⟩
  · have e1 : out.take 2 = out := List.take_of_length_le (by omega)
    have h6 : ¬ (2 : Int) < (out.length : Int) := by omega
    have HR := hidI h2
    have HW := hidI h1
    clear h1 h2
    go_wp2_with fail
    go_ret
    have e2 : min 2 out.length = out.length := by omega
    exact ⟨a', c', out, by rw [e2]; rfl, HW.out, by rw [e1]; exact HR.out, h4⟩
set_option maxRecDepth 8000 in
set_option maxHeartbeats 6000000 in
theorem ringExact_walk (d : List UInt8) (hd : d.length = 32) (l : List Int) (a : Option Addr) (c : Nat) (hn : l.length ≤ maxLen) (zs : List Int) (hzl : zs.length = 2) (w : World) (hG : GW w) (hv : RS lyI w a l) :
    Calls Tryd.prog 3 #[.agg (dg d), .slice a l.length c, .agg (zs.map (Value.int .i64)).toArray] w fun e w' => e = .returned (.bool true) ∧ Below w.heap.size w w' := by
  have hz := hG.z
  obtain ⟨n1, n2, rfl⟩ : ∃ n1 n2, zs = [n1, n2] := by
    match zs, hzl with
    | [x, y], _ => exact ⟨x, y, rfl⟩
  clear hzl
  obtain ⟨LD, hLD⟩ : ∃ LD : List Value, LD = d.map vb := ⟨_, rfl⟩
  have hdl : dg d = LD.toArray := by rw [hLD]; rfl
  have hLs : LD.length = 32 := by rw [hLD, List.length_map, hd]
  have hLi : (Tryd.prog.info? 23).map (·.size) = some LD.length := by rw [hLs]; exact info27
  have hAr : ([n1, n2].map (Value.int .i64)).toArray = #[.int .i64 n1, .int .i64 n2] := rfl
  rw [hdl, hAr]
  have hG0 : GB w ((w.alloc (.cells LD.toArray 23)).alloc (.cells #[.int .i64 n1, .int .i64 n2] 25)) := ((GB.refl hG).alloc _).alloc _
  have KP : Hid (∀ U, GB ((w.alloc (.cells LD.toArray 23)).alloc (.cells #[.int .i64 n1, .int .i64 n2] 25)) U → U.rangeAt w.heap.size 0 LD) := fun U hU j v hv => by
    rw [Nat.zero_add, hU.b.cell (p := ⟨w.heap.size, j, none⟩) (by simp; omega), Below.cell (p := ⟨w.heap.size, j, none⟩) ((Bl.refl (w.alloc (.cells LD.toArray 23))).alloc _) (by simp), Lib.cell_of_heap (heap_alloc_new _ _), List.getElem?_toArray]; exact hv
  have KF : Hid (∀ U, GB ((w.alloc (.cells LD.toArray 23)).alloc (.cells #[.int .i64 n1, .int .i64 n2] 25)) U → U.cell? ⟨w.heap.size + 1, 0, none⟩ = some (.int .i64 n1) ∧ U.cell? ⟨w.heap.size + 1, 1, none⟩ = some (.int .i64 n2)) := fun U hU => by
    have e1 : (w.alloc (.cells LD.toArray 23)).heap.size = w.heap.size + 1 := by simp
    have e2 := heap_alloc_new (w.alloc (.cells LD.toArray 23)) (.cells #[.int .i64 n1, .int .i64 n2] 25)
    rw [e1] at e2
    exact ⟨by rw [hU.b.cell (p := ⟨w.heap.size + 1, 0, none⟩) (by simp), Lib.cell_of_heap e2]; rfl, by rw [hU.b.cell (p := ⟨w.heap.size + 1, 1, none⟩) (by simp), Lib.cell_of_heap e2]; rfl⟩
  have hv0 : RS lyI ((w.alloc (.cells LD.toArray 23)).alloc (.cells #[.int .i64 n1, .int .i64 n2] 25)) a l := hv.bl hG0.b
  generalize hw0 : (w.alloc (.cells LD.toArray 23)).alloc (.cells #[.int .i64 n1, .int .i64 n2] 25) = w0 at *
  have HG0 : Hid (GB w w0) := hG0
  have CA : Hid (Calls Tryd.prog 7 #[] w0 fun e w' => e = .returned (.bool true) ∧ KS w0 [(a, l)] w') := (awake_13 w0 hG0.g).mono fun e w' ⟨h1, h2⟩ => ⟨h1, h2, fun r hr => by
    rcases List.mem_cons.1 hr with rfl | hr
    · exact hv0.bl h2.b
    · cases hr⟩
  by_cases h60 : l.length ≤ 60
  · obtain ⟨P, E, CP1, CP2⟩ : ∃ P E : Int, Hid (∀ R U, KS w0 R U → Calls Tryd.prog 8 #[.int .i64 n1, .int .i64 n2] U fun e w' => e = .returned (.tuple #[.int .u64 P, .int .i64 E]) ∧ KS w0 R w') ∧ Hid (∀ R U, KS w0 R U → Calls Tryd.prog 9 #[.int .i64 n1, .int .i64 n2] U fun e w' => e = .returned (.tuple #[.int .u64 P, .int .i64 E]) ∧ KS w0 R w') := by
      by_cases hok : 1 ≤ n1 ∧ n1 ≤ 6 ∧ 0 ≤ n2 ∧ n2 ≤ 7
      · refine ⟨(RI.pt n1 n2 : Nat), 0, fun R U h => ?_, fun R U h => ?_⟩
        · exact (Point_yes n1 n2 (GB.refl h.1.g) hok.1 hok.2.1 hok.2.2.1 hok.2.2.2).mono fun e w' ⟨e1, e2⟩ => ⟨e1, h.step e2⟩
        · exact (rPoint_yes n1 n2 (GB.refl h.1.g) hok.1 hok.2.1 hok.2.2.1 hok.2.2.2).mono fun e w' ⟨e1, e2⟩ => ⟨e1, h.step e2⟩
      · refine ⟨0, 1, fun R U h => ?_, fun R U h => ?_⟩
        · exact (Point_no n1 n2 U hok).mono fun e w' ⟨e1, e2⟩ => ⟨e1, by rw [e2]; exact h⟩
        · exact (rPoint_no n1 n2 U hok).mono fun e w' ⟨e1, e2⟩ => ⟨e1, by rw [e2]; exact h⟩
    have C10 : Hid (∀ R U, KS w0 R U → Calls Tryd.prog 10 #[.agg LD.toArray] U fun e w' => e = .returned (.int .u64 (RI.place d : Nat)) ∧ KS w0 R w') := fun R U h => by
      rw [← hdl]
      exact (Place_x d hd U).mono fun e w' ⟨h1, h2⟩ => ⟨h1, h.step ((GB.refl h.1.g).step h2)⟩
    have C12 : Hid (∀ R U, KS w0 R U → Calls Tryd.prog 11 #[.agg LD.toArray] U fun e w' => e = .returned (.int .u64 (RI.place d : Nat)) ∧ KS w0 R w') := fun R U h => by
      rw [← hdl]
      exact (rPlace_x d hd U).mono fun e w' ⟨h1, h2⟩ => ⟨h1, h.step ((GB.refl h.1.g).step h2)⟩
    have C18 : Hid (∀ U, KS w0 [(a, l)] U → Calls Tryd.prog 13 #[.agg LD.toArray, .slice a l.length c] U fun e w' => ∃ a1 c1 out, e = .returned (.slice a1 out.length c1) ∧ out.length ≤ 6 ∧ RI.IsW (RI.near (RI.place d)) l out ∧ KS w0 [(a1, out), (a, l)] w') := fun U h => by
      rw [← hdl]
      refine (Walk_x d hd l a _ c rfl U h.1.g (h.2 (a, l) List.mem_cons_self) (by omega)).mono ?_
      rintro e w' ⟨v, out, rfl, h1, h2, h3⟩
      obtain ⟨a', c', rfl, h4⟩ := owns_rs lyI h2
      exact ⟨a', c', out, rfl, h1.len, h1, (h.step h3).add h4⟩
    have C21 : Hid (∀ U out a1, RI.IsW (RI.near (RI.place d)) l out → KS w0 [(a1, out), (a, l)] U → Calls Tryd.prog 14 #[.agg LD.toArray, .slice a l.length c] U fun e w' => ∃ a2 c2, e = .returned (.slice a2 out.length c2) ∧ KS w0 [(a2, out), (a1, out), (a, l)] w') := fun U out a1 hw h => by
      rw [← hdl]
      refine (rWalk_x d hd l a _ c rfl U h.1.g (h.2 (a, l) (by simp)) (by omega)).mono ?_
      rintro e w' ⟨a', c', o2, rfl, _, h1, h2, h3⟩
      obtain rfl : o2 = out := h1.uniq hw (fun _ _ _ => Iff.rfl)
      exact ⟨a', c', rfl, (h.step h3).add h2⟩
    have C22 : Hid (∀ U R a1 a2 (q : List Int) c1 c2, KS w0 R U → (a1, q) ∈ R → (a2, q) ∈ R → q.length ≤ 6 → Calls Tryd.prog 12 #[.slice a1 q.length c1, .slice a2 q.length c2] U fun e w' => e = .returned (.bool true) ∧ KS w0 R w') := fun U R a1 a2 q c1 c2 h m1 m2 hq => by
      have hm : q.length ≤ maxLen := by unfold maxLen; omega
      refine (Ints_x _ _ a1 a2 c1 c2 U (h.2 (a1, q) m1) (h.2 (a2, q) m2) hm hm).mono ?_
      rintro e w' ⟨rfl, n, rfl⟩
      exact ⟨by simp, h.drewN n⟩
    have C27 : Hid (∀ U out a1 a2, RI.IsW (RI.near (RI.place d)) l out → KS w0 [(a2, out), (a1, out), (a, l)] U → Calls Tryd.prog 15 #[.agg LD.toArray, .slice a l.length c] U fun e w' => ∃ a3 c3 L2, e = .returned (.slice a3 L2.length c3) ∧ Hid (L2 = out.take 2) ∧ KS w0 [(a3, L2), (a2, out), (a1, out), (a, l)] w') := fun U out a1 a2 hw h => by
      rw [← hdl]
      refine (Owns_x d hd l a _ c rfl U h.1.g (h.2 (a, l) (by simp)) (by omega)).mono ?_
      rintro e w' ⟨a', c', o2, rfl, h1, h2, h3⟩
      obtain rfl : o2 = out := h1.uniq hw (fun _ _ _ => Iff.rfl)
      exact ⟨a', c', _, rfl, (rfl : o2.take 2 = o2.take 2), (h.step h3).add h2⟩
    have C30 : Hid (∀ U out a1 a2 a3 L2 R, RI.IsW (RI.near (RI.place d)) l out → Hid (L2 = out.take 2) → KS w0 ((a3, L2) :: (a2, out) :: (a1, out) :: (a, l) :: R) U → Calls Tryd.prog 16 #[.agg LD.toArray, .slice a l.length c] U fun e w' => ∃ a4 c4, e = .returned (.slice a4 L2.length c4) ∧ KS w0 ((a4, L2) :: (a3, L2) :: (a2, out) :: (a1, out) :: (a, l) :: R) w') := fun U out a1 a2 a3 L2 R hw hL h => by
      rw [← hdl]
      refine (rOwns_x d hd l a _ c rfl U h.1.g (h.2 (a, l) (by simp)) (by omega)).mono ?_
      rintro e w' ⟨a', c', o2, rfl, h1, h2, h3⟩
      obtain rfl : o2 = out := h1.uniq hw (fun _ _ _ => Iff.rfl)
      have hL := hL.out
      subst hL
      exact ⟨a', c', rfl, (h.step h3).add h2⟩
    clear hv hv0 hG hG0 hLD hdl hd hAr
    generalize ((RI.place d : Nat) : Int) = p at *
    have HCW := hidI (rfl : p = p)
    go_enter Tryd.func3, Tryd.ntmps3
    go_upto_region 7 with (first
      | go_skip
      | (go_at_call 7; refine (CA.out).mono ?_; clear CA; rintro e w1 ⟨rfl, HB6⟩; obtain ⟨k1, k2⟩ := KF.out _ HB6.1)
      | (go_at_call 8; refine (CP1.out _ _ HB6).mono ?_; clear CP1 HB6 k1 k2; rintro e w2 ⟨rfl, HB6⟩; obtain ⟨k1, k2⟩ := KF.out _ HB6.1)
      | (go_at_call 9; refine (CP2.out _ _ HB6).mono ?_; clear CP2 HB6 k1 k2; rintro e w3 ⟨rfl, HB6⟩))
    refine wp_region_noPanic ?_
    refine wp_region_held_drew (S := fun U => U.rangeAt w.heap.size 0 LD) (by kernel_rfl) (KP.out _ ((HB6.drewN 1)).1) (fun hHeld => ?_)
    refine wpAnyH_take (i := 0) rfl (by kernel_rfl) (by kernel_rfl) (by kernel_rfl) (fun _ _ _ h => h) (yi_move (by kernel_rfl) rfl rfl) (by assumption) ?_
    simp only [Act.put, List.getElem_toArray, List.getElem_cons_succ, List.getElem_cons_zero, List.setIfInBounds_toArray, List.set_cons_zero, List.set_cons_succ]
    refine wpAnyH_take (i := 1) rfl (by kernel_rfl) (by kernel_rfl) (by kernel_rfl) (fun _ _ _ h => h) (yi_move (by kernel_rfl) rfl rfl) (by assumption) ?_
    simp only [Act.put, List.getElem_toArray, List.getElem_cons_succ, List.getElem_cons_zero, List.setIfInBounds_toArray, List.set_cons_zero, List.set_cons_succ]
    refine wpAnyH_take (i := 2) (v := ?_) rfl (by kernel_rfl) (by kernel_rfl) (by kernel_rfl) (fun _ _ _ h => h) (Or.inl ⟨by kernel_rfl, ?_⟩) (by assumption) ?_
    rotate_left
    · (intro w hSw; (try dsimp only at hSw); go_simp; (try with_reducible rfl))
    simp only [Act.put, List.getElem_toArray, List.getElem_cons_succ, List.getElem_cons_zero, List.setIfInBounds_toArray, List.set_cons_zero, List.set_cons_succ]
    refine wpAnyH_take (i := 3) rfl (by kernel_rfl) (by kernel_rfl) (by kernel_rfl) (fun _ _ _ h => h) (yi_move (by kernel_rfl) rfl rfl) (by assumption) ?_
    simp only [Act.put, List.getElem_toArray, List.getElem_cons_succ, List.getElem_cons_zero, List.setIfInBounds_toArray, List.set_cons_zero, List.set_cons_succ]
    refine wpAnyH_take (i := 4) rfl (by kernel_rfl) (by kernel_rfl) (by kernel_rfl) (fun _ _ _ h => h) (yi_move (by kernel_rfl) rfl rfl) (by assumption) ?_
    simp only [Act.put, List.getElem_toArray, List.getElem_cons_succ, List.getElem_cons_zero, List.setIfInBounds_toArray, List.set_cons_zero, List.set_cons_succ]
    refine wpAnyH_take (i := 5) rfl (by kernel_rfl) (by kernel_rfl) (by kernel_rfl) (fun _ _ _ h => h) (yi_move (by kernel_rfl) rfl rfl) (by assumption) ?_
    simp only [Act.put, List.getElem_toArray, List.getElem_cons_succ, List.getElem_cons_zero, List.setIfInBounds_toArray, List.set_cons_zero, List.set_cons_succ]
    refine wpAnyH_take (i := 6) (v := ?_) rfl (by kernel_rfl) (by kernel_rfl) (by kernel_rfl) (fun _ _ _ h => h) (Or.inl ⟨by kernel_rfl, ?_⟩) (by assumption) ?_
    rotate_left
    · (intro w hSw; (try dsimp only at hSw); go_simp; (try with_reducible rfl))
    simp only [Act.put, List.getElem_toArray, List.getElem_cons_succ, List.getElem_cons_zero, List.setIfInBounds_toArray, List.set_cons_zero, List.set_cons_succ]
    refine wpAnyH_take (i := 7) (v := ?_) rfl (by kernel_rfl) (by kernel_rfl) (by kernel_rfl) (fun _ _ _ h => h) (Or.inl ⟨by kernel_rfl, ?_⟩) (by assumption) ?_
    rotate_left
    · (intro w hSw; (try dsimp only at hSw); go_simp; (try with_reducible rfl))
    simp only [Act.put, List.getElem_toArray, List.getElem_cons_succ, List.getElem_cons_zero, List.setIfInBounds_toArray, List.set_cons_zero, List.set_cons_succ]
    refine wpAnyH_take (i := 8) rfl (by kernel_rfl) (by kernel_rfl) (by kernel_rfl) (fun _ _ _ h => h) (yi_move (by kernel_rfl) rfl rfl) (by assumption) ?_
    simp only [Act.put, List.getElem_toArray, List.getElem_cons_succ, List.getElem_cons_zero, List.setIfInBounds_toArray, List.set_cons_zero, List.set_cons_succ]
    refine wpAnyH_take (i := 9) (v := .agg (List.toArray LD)) rfl (by kernel_rfl) (by kernel_rfl) (by kernel_rfl) (fun _ _ _ h => h) (yieldsIf_load_mid (by kernel_rfl) _ (.tmp 3) (by kernel_rfl) w.heap.size 0 (by kernel_rfl) LD _ (fun W hW => hW) und27 rfl hLi) (by assumption) ?_
    simp only [Act.put, List.getElem_toArray, List.getElem_cons_succ, List.getElem_cons_zero, List.setIfInBounds_toArray, List.set_cons_zero, List.set_cons_succ]
    refine wpAnyH_take (i := 11) (v := .agg (List.toArray LD)) rfl (by kernel_rfl) (by kernel_rfl) (by kernel_rfl) (fun _ _ _ h => h) (yieldsIf_load_mid (by kernel_rfl) _ (.tmp 3) (by kernel_rfl) w.heap.size 0 (by kernel_rfl) LD _ (fun W hW => hW) und27 rfl hLi) (by assumption) ?_
    simp only [Act.put, List.getElem_toArray, List.getElem_cons_succ, List.getElem_cons_zero, List.setIfInBounds_toArray, List.set_cons_zero, List.set_cons_succ]
    refine wpAnyH_ready (rs := [10]) (by kernel_rfl) (by simp) ?_
    refine AllReadyH.cons (o := _) rfl (fun K hK => ?_) AllReadyH.nil
    go_simp
    go_at_call 10; refine (C10.out _ _ (HB6.drewN 1)).mono ?_; rintro e V12 ⟨rfl, HB12⟩
    refine hK.out _ _ (KP.out _ (HB12).1) (fun hHeld => ?_)
    clear hK K
    (try simp only [Act.put, List.getElem_toArray, List.getElem_cons_succ, List.getElem_cons_zero, List.setIfInBounds_toArray, List.set_cons_zero, List.set_cons_succ])
    refine wpAnyH_ready (rs := [12]) (by kernel_rfl) (by simp) ?_
    refine AllReadyH.cons (o := _) rfl (fun K hK => ?_) AllReadyH.nil
    go_simp
    go_at_call 11; refine (C12.out _ _ HB12).mono ?_; rintro e V13 ⟨rfl, HB13⟩
    refine hK.out _ _ (KP.out _ (HB13).1) (fun hHeld => ?_)
    clear hK K
    (try simp only [Act.put, List.getElem_toArray, List.getElem_cons_succ, List.getElem_cons_zero, List.setIfInBounds_toArray, List.set_cons_zero, List.set_cons_succ])
    refine wpAnyH_take (i := 13) (v := ?_) rfl (by kernel_rfl) (by kernel_rfl) (by kernel_rfl) (fun _ _ _ h => h) (Or.inl ⟨by kernel_rfl, ?_⟩) (by assumption) ?_
    rotate_left
    · (intro w hSw; (try dsimp only at hSw); go_simp; (try with_reducible rfl))
    simp only [Act.put, List.getElem_toArray, List.getElem_cons_succ, List.getElem_cons_zero, List.setIfInBounds_toArray, List.set_cons_zero, List.set_cons_succ]
    refine wpAnyH_take (i := 14) (v := ?_) rfl (by kernel_rfl) (by kernel_rfl) (by kernel_rfl) (fun _ _ _ h => h) (Or.inl ⟨by kernel_rfl, ?_⟩) (by assumption) ?_
    rotate_left
    · (intro w hSw; (try dsimp only at hSw); go_simp; (try with_reducible rfl))
    simp only [Act.put, List.getElem_toArray, List.getElem_cons_succ, List.getElem_cons_zero, List.setIfInBounds_toArray, List.set_cons_zero, List.set_cons_succ]
    refine wpAnyH_take (i := 15) rfl (by kernel_rfl) (by kernel_rfl) (by kernel_rfl) (fun _ _ _ h => h) (yi_move (by kernel_rfl) rfl rfl) (by assumption) ?_
    simp only [Act.put, List.getElem_toArray, List.getElem_cons_succ, List.getElem_cons_zero, List.setIfInBounds_toArray, List.set_cons_zero, List.set_cons_succ]
    refine wpAnyH_take (i := 16) (v := .agg (List.toArray LD)) rfl (by kernel_rfl) (by kernel_rfl) (by kernel_rfl) (fun _ _ _ h => h) (yieldsIf_load_mid (by kernel_rfl) _ (.tmp 3) (by kernel_rfl) w.heap.size 0 (by kernel_rfl) LD _ (fun W hW => hW) und27 rfl hLi) (by assumption) ?_
    simp only [Act.put, List.getElem_toArray, List.getElem_cons_succ, List.getElem_cons_zero, List.setIfInBounds_toArray, List.set_cons_zero, List.set_cons_succ]
    refine wpAnyH_take (i := 17) rfl (by kernel_rfl) (by kernel_rfl) (by kernel_rfl) (fun _ _ _ h => h) (yi_move (by kernel_rfl) rfl rfl) (by assumption) ?_
    simp only [Act.put, List.getElem_toArray, List.getElem_cons_succ, List.getElem_cons_zero, List.setIfInBounds_toArray, List.set_cons_zero, List.set_cons_succ]
    refine wpAnyH_take (i := 19) (v := .agg (List.toArray LD)) rfl (by kernel_rfl) (by kernel_rfl) (by kernel_rfl) (fun _ _ _ h => h) (yieldsIf_load_mid (by kernel_rfl) _ (.tmp 3) (by kernel_rfl) w.heap.size 0 (by kernel_rfl) LD _ (fun W hW => hW) und27 rfl hLi) (by assumption) ?_
    simp only [Act.put, List.getElem_toArray, List.getElem_cons_succ, List.getElem_cons_zero, List.setIfInBounds_toArray, List.set_cons_zero, List.set_cons_succ]
    refine wpAnyH_take (i := 20) rfl (by kernel_rfl) (by kernel_rfl) (by kernel_rfl) (fun _ _ _ h => h) (yi_move (by kernel_rfl) rfl rfl) (by assumption) ?_
    simp only [Act.put, List.getElem_toArray, List.getElem_cons_succ, List.getElem_cons_zero, List.setIfInBounds_toArray, List.set_cons_zero, List.set_cons_succ]
    refine wpAnyH_ready (rs := [18]) (by kernel_rfl) (by simp) ?_
    refine AllReadyH.cons (o := _) rfl (fun K hK => ?_) AllReadyH.nil
    go_simp
    go_at_call 13; refine (C18.out _ HB13).mono ?_; rintro e V21 ⟨a1, c1, out, rfl, hol, HW, HB21⟩
    refine hK.out _ _ (KP.out _ (HB21).1) (fun hHeld => ?_)
    clear hK K
    (try simp only [Act.put, List.getElem_toArray, List.getElem_cons_succ, List.getElem_cons_zero, List.setIfInBounds_toArray, List.set_cons_zero, List.set_cons_succ])
    refine wpAnyH_ready (rs := [21]) (by kernel_rfl) (by simp) ?_
    refine AllReadyH.cons (o := _) rfl (fun K hK => ?_) AllReadyH.nil
    go_simp
    go_at_call 14; refine (C21.out _ _ _ HW HB21).mono ?_; rintro e V22 ⟨a2, c2, rfl, HB22⟩
    refine hK.out _ _ (KP.out _ (HB22).1) (fun hHeld => ?_)
    clear hK K
    (try simp only [Act.put, List.getElem_toArray, List.getElem_cons_succ, List.getElem_cons_zero, List.setIfInBounds_toArray, List.set_cons_zero, List.set_cons_succ])
    refine wpAnyH_ready (rs := [22]) (by kernel_rfl) (by simp) ?_
    refine AllReadyH.cons (o := _) rfl (fun K hK => ?_) AllReadyH.nil
    go_simp
    go_at_call 12; refine (C22.out _ _ a1 a2 out c1 c2 HB22 (by simp) (by simp) (by omega)).mono ?_; rintro e V23 ⟨rfl, HB23⟩
    refine hK.out _ _ (KP.out _ (HB23).1) (fun hHeld => ?_)
    clear hK K
    (try simp only [Act.put, List.getElem_toArray, List.getElem_cons_succ, List.getElem_cons_zero, List.setIfInBounds_toArray, List.set_cons_zero, List.set_cons_succ])
    refine wpAnyH_take (i := 23) (v := ?_) rfl (by kernel_rfl) (by kernel_rfl) (by kernel_rfl) (fun _ _ _ h => h) (Or.inl ⟨by kernel_rfl, ?_⟩) (by assumption) ?_
    rotate_left
    · (intro w hSw; (try dsimp only at hSw); go_simp; (try with_reducible rfl))
    simp only [Act.put, List.getElem_toArray, List.getElem_cons_succ, List.getElem_cons_zero, List.setIfInBounds_toArray, List.set_cons_zero, List.set_cons_succ]
    refine wpAnyH_take (i := 24) rfl (by kernel_rfl) (by kernel_rfl) (by kernel_rfl) (fun _ _ _ h => h) (yi_move (by kernel_rfl) rfl rfl) (by assumption) ?_
    simp only [Act.put, List.getElem_toArray, List.getElem_cons_succ, List.getElem_cons_zero, List.setIfInBounds_toArray, List.set_cons_zero, List.set_cons_succ]
    refine wpAnyH_take (i := 25) (v := .agg (List.toArray LD)) rfl (by kernel_rfl) (by kernel_rfl) (by kernel_rfl) (fun _ _ _ h => h) (yieldsIf_load_mid (by kernel_rfl) _ (.tmp 3) (by kernel_rfl) w.heap.size 0 (by kernel_rfl) LD _ (fun W hW => hW) und27 rfl hLi) (by assumption) ?_
    simp only [Act.put, List.getElem_toArray, List.getElem_cons_succ, List.getElem_cons_zero, List.setIfInBounds_toArray, List.set_cons_zero, List.set_cons_succ]
    refine wpAnyH_take (i := 26) rfl (by kernel_rfl) (by kernel_rfl) (by kernel_rfl) (fun _ _ _ h => h) (yi_move (by kernel_rfl) rfl rfl) (by assumption) ?_
    simp only [Act.put, List.getElem_toArray, List.getElem_cons_succ, List.getElem_cons_zero, List.setIfInBounds_toArray, List.set_cons_zero, List.set_cons_succ]
    refine wpAnyH_take (i := 28) (v := .agg (List.toArray LD)) rfl (by kernel_rfl) (by kernel_rfl) (by kernel_rfl) (fun _ _ _ h => h) (yieldsIf_load_mid (by kernel_rfl) _ (.tmp 3) (by kernel_rfl) w.heap.size 0 (by kernel_rfl) LD _ (fun W hW => hW) und27 rfl hLi) (by assumption) ?_
    simp only [Act.put, List.getElem_toArray, List.getElem_cons_succ, List.getElem_cons_zero, List.setIfInBounds_toArray, List.set_cons_zero, List.set_cons_succ]
    refine wpAnyH_take (i := 29) rfl (by kernel_rfl) (by kernel_rfl) (by kernel_rfl) (fun _ _ _ h => h) (yi_move (by kernel_rfl) rfl rfl) (by assumption) ?_
    simp only [Act.put, List.getElem_toArray, List.getElem_cons_succ, List.getElem_cons_zero, List.setIfInBounds_toArray, List.set_cons_zero, List.set_cons_succ]
    refine wpAnyH_ready (rs := [27]) (by kernel_rfl) (by simp) ?_
    refine AllReadyH.cons (o := _) rfl (fun K hK => ?_) AllReadyH.nil
    go_simp
    go_at_call 15; refine (C27.out _ _ _ _ HW HB23).mono ?_; rintro e V30 ⟨a3, c3, L2, rfl, hL2, HB30⟩
    refine hK.out _ _ (KP.out _ (HB30).1) (fun hHeld => ?_)
    clear hK K
    (try simp only [Act.put, List.getElem_toArray, List.getElem_cons_succ, List.getElem_cons_zero, List.setIfInBounds_toArray, List.set_cons_zero, List.set_cons_succ])
    refine wpAnyH_ready (rs := [30]) (by kernel_rfl) (by simp) ?_
    refine AllReadyH.cons (o := _) rfl (fun K hK => ?_) AllReadyH.nil
    go_simp
    go_at_call 16; refine (C30.out _ _ _ _ _ _ _ HW hL2 HB30).mono ?_; rintro e V31 ⟨a4, c4, rfl, HB31⟩
    refine hK.out _ _ (KP.out _ (HB31).1) (fun hHeld => ?_)
    clear hK K
    (try simp only [Act.put, List.getElem_toArray, List.getElem_cons_succ, List.getElem_cons_zero, List.setIfInBounds_toArray, List.set_cons_zero, List.set_cons_succ])
    refine wpAnyH_ready (rs := [31]) (by kernel_rfl) (by simp) ?_
    refine AllReadyH.cons (o := _) rfl (fun K hK => ?_) AllReadyH.nil
    go_simp
    go_at_call 12; refine (C22.out _ _ a3 a4 L2 c3 c4 HB31 (by simp) (by simp) (by rw [hL2.out, List.length_take]; omega)).mono ?_; rintro e V32 ⟨rfl, HB32⟩
    refine hK.out _ _ (KP.out _ (HB32).1) (fun hHeld => ?_)
    clear hK K
    (try simp only [Act.put, List.getElem_toArray, List.getElem_cons_succ, List.getElem_cons_zero, List.setIfInBounds_toArray, List.set_cons_zero, List.set_cons_succ])
    refine wpAnyH_take (i := 32) (v := ?_) rfl (by kernel_rfl) (by kernel_rfl) (by kernel_rfl) (fun _ _ _ h => h) (Or.inl ⟨by kernel_rfl, ?_⟩) (by assumption) ?_
    rotate_left
    · (intro w hSw; (try dsimp only at hSw); go_simp; (try with_reducible rfl))
    simp only [Act.put, List.getElem_toArray, List.getElem_cons_succ, List.getElem_cons_zero, List.setIfInBounds_toArray, List.set_cons_zero, List.set_cons_succ]
    refine wpAnyH_take (i := 33) rfl (by kernel_rfl) (by kernel_rfl) (by kernel_rfl) (fun _ _ _ h => h) (yi_assign (by kernel_rfl) rfl rfl) (by assumption) ?_
    simp only [Act.put, List.getElem_toArray, List.getElem_cons_succ, List.getElem_cons_zero, List.setIfInBounds_toArray, List.set_cons_zero, List.set_cons_succ]
    refine wpAnyH_done (by kernel_rfl) ?_ _
    refine NoPanic.normal ?_
    go_wp2_with fail
    go_ret
    exact ⟨rfl, (HG0.out.step (HB32).1.b).b⟩
  · have CA1 : Hid (Calls Tryd.prog 7 #[] w0 fun e w' => e = .returned (.bool true) ∧ GB w w') := CA.out.mono fun e w' ⟨h1, h2⟩ => ⟨h1, hG0.step h2.1.b⟩
    have h60' : (60 : Int) < (l.length : Int) := by omega
    clear hv hG hG0 CA KP KF HG0 hv0 hLD hdl hd hAr
    go_enter Tryd.func3, Tryd.ntmps3
    go_wp2_with (first
      | go_skip
      | (go_at_call 7; refine (CA1.out).mono ?_; clear CA1; rintro e w1 ⟨rfl, HB⟩))
    go_ret
    exact ⟨rfl, HB.b⟩
end Go.Proofs.YtfghjadhpajmeaaDoor
