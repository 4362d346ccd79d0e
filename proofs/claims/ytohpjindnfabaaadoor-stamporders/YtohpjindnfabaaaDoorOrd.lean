/- The walk of the law StampOrders. -/
import Derived.Test.YtohpjindnfabaaaDoorSrt
import Derived.Test.YtohpjindnfabaaaDoorOrd1
namespace Go.Proofs.YtohpjindnfabaaaDoor
open Go.RowKit
set_option linter.unusedVariables false
set_option linter.unusedSimpArgs false

/-- a digest's digits, byte by byte -/
def hexL : List UInt8 → List UInt8
  | [] => []
  | x :: l => hexd (x.toNat / 16) :: hexd (x.toNat % 16) :: hexL l
theorem hexL_at : ∀ (d : List UInt8) (j : Nat), j < 2 * d.length → (hexL d)[j]? = some (hexAt d j)
  | [], j, h => by simp at h
  | x :: l, 0, h => by simp [hexL, hexAt, S.by8]
  | x :: l, 1, h => by simp [hexL, hexAt, S.by8]
  | x :: l, j + 2, h => by
    have ih := hexL_at l j (by simp at h; omega)
    have e : (hexL (x :: l))[j + 2]? = (hexL l)[j]? := rfl
    rw [e, ih]
    unfold hexAt
    rw [show (j + 2) % 2 = j % 2 by omega, show (j + 2) / 2 = j / 2 + 1 by omega]
    simp [S.by8]
theorem hexL_length : ∀ d : List UInt8, (hexL d).length = 2 * d.length
  | [] => rfl
  | x :: l => by simp [hexL, hexL_length l]; omega
theorem hexB_eq (d : List UInt8) (h : d.length = 32) : hexB d = hexL d := by
  apply List.ext_getElem?
  intro j
  by_cases hj : j < 64
  · rw [hexB_at d j hj, hexL_at d j (by omega)]
  · rw [List.getElem?_eq_none (by rw [hexB_length]; omega), List.getElem?_eq_none (by rw [hexL_length]; omega)]
theorem hexd_lt (m n : Nat) (hm : m < 16) (hn : n < 16) : decide (hexd m < hexd n) = decide (m < n) := by
  have hh : ∀ m n : Fin 16, decide (hexd m.val < hexd n.val) = decide (m.val < n.val) := by decide +kernel
  exact hh ⟨m, hm⟩ ⟨n, hn⟩
theorem hexd_eq (m n : Nat) (hm : m < 16) (hn : n < 16) : (hexd m == hexd n) = decide (m = n) := by
  have hh : ∀ m n : Fin 16, (hexd m.val == hexd n.val) = decide (m.val = n.val) := by decide +kernel
  exact hh ⟨m, hm⟩ ⟨n, hn⟩
theorem less_hexL : ∀ a b : List UInt8, a.length = b.length → Op.bytesLess (hexL a) (hexL b) = ltB a b
  | [], [], _ => rfl
  | [], _ :: _, h => by simp at h
  | _ :: _, [], h => by simp at h
  | x :: a, y :: b, h => by
    have ih := less_hexL a b (by simpa using h)
    have hx := x.toNat_lt
    have hy := y.toNat_lt
    simp only [hexL, Op.bytesLess, ltB, hexd_lt _ _ (show x.toNat / 16 < 16 by omega) (show y.toNat / 16 < 16 by omega), hexd_eq _ _ (show x.toNat / 16 < 16 by omega) (show y.toNat / 16 < 16 by omega),
      hexd_lt _ _ (show x.toNat % 16 < 16 by omega) (show y.toNat % 16 < 16 by omega), hexd_eq _ _ (show x.toNat % 16 < 16 by omega) (show y.toNat % 16 < 16 by omega), ih]
    by_cases hxy : x = y
    · subst hxy; simp
    · have hne : x.toNat ≠ y.toNat := fun e => hxy (UInt8.toNat_inj.1 e)
      rw [if_neg hxy]
      by_cases h1 : x.toNat / 16 = y.toNat / 16
      · have h2 : ¬ x.toNat % 16 = y.toNat % 16 := by omega
        simp only [h1, h2, decide_false, Bool.false_and, Bool.or_false, decide_true, Bool.true_and, Nat.lt_irrefl, Bool.false_or]
        rw [decide_eq_decide]; omega
      · simp only [h1, decide_false, Bool.false_and, Bool.or_false]
        rw [decide_eq_decide]; omega
theorem hexL_inj (a b : List UInt8) (h : a.length = b.length) (e : hexL a = hexL b) : a = b := by
  rcases ltB_tri a b h with ⟨h0, _⟩ | ⟨_, h1, _⟩ | ⟨_, _, h1⟩
  · exact h0
  · have := less_hexL a b h; rw [h1, e, less_hexL b b rfl, ltB_self] at this; cases this
  · have := less_hexL b a h.symm; rw [h1, e, less_hexL b b rfl, ltB_self] at this; cases this

set_option maxRecDepth 8000 in
set_option maxHeartbeats 8000000 in
theorem stampOrders_walk (a b : List UInt8) (ha : a.length = 32) (hb : b.length = 32) (w : World) (hG : GW w) :
    Calls Tryd.prog 4 #[.agg (dg a), .agg (dg b)] w fun e w' => e = .returned (.bool true) ∧ Below w.heap.size w w' := by
  have hz := hG.z
  have HG : Hid (GB ((w.alloc (.cells (dg a) 27)).alloc (.cells (dg b) 27)) ((w.alloc (.cells (dg a) 27)).alloc (.cells (dg b) 27))) :=
    GB.refl (hG.below (((Below.refl _ w).alloc (Nat.le_refl _) _).alloc (by simp) _) hz)
  have HW : Hid (Below w.heap.size w ((w.alloc (.cells (dg a) 27)).alloc (.cells (dg b) 27))) := (((Below.refl _ w).alloc (Nat.le_refl _) _).alloc (by simp) _)
  have r0 : ((w.alloc (.cells (dg a) 27)).alloc (.cells (dg b) 27)).heap[w.heap.size]? = some (.cells (dg a) 27 (0, 0)) := by
    rw [Below.heap_alloc _ _ _ (by simp)]; exact heap_alloc_new _ _
  have r1 : ((w.alloc (.cells (dg a) 27)).alloc (.cells (dg b) 27)).heap[w.heap.size + 1]? = some (.cells (dg b) 27 (0, 0)) := by
    have := heap_alloc_new (w.alloc (.cells (dg a) 27)) (.cells (dg b) 27)
    rwa [show (w.alloc (.cells (dg a) 27)).heap.size = w.heap.size + 1 by simp] at this
  have hs2 : ((w.alloc (.cells (dg a) 27)).alloc (.cells (dg b) 27)).heap.size = w.heap.size + 2 := by simp
  have hLs := less_hexL a b (by omega)
  rw [← hexB_eq a ha, ← hexB_eq b hb] at hLs
  have hLs' : Op.bytesLess (M.bs (hexB a)).toList (M.bs (hexB b)).toList = ltB a b := by rw [Lib.toList_data, Lib.toList_data, M.bs_toList, M.bs_toList]; exact hLs
  have hSe : ((M.bs (hexB a)).toList == (M.bs (hexB b)).toList) = decide (a = b) := by
    rw [Lib.toList_data, Lib.toList_data, M.bs_toList, M.bs_toList]
    by_cases e : a = b
    · subst e; simp
    · have : ¬ hexB a = hexB b := fun h => e (hexL_inj a b (by omega) (by rw [← hexB_eq a ha, ← hexB_eq b hb]; exact h))
      simp [e, this]
  obtain ⟨W2, hW2⟩ : ∃ W2, W2 = (w.alloc (.cells (dg a) 27)).alloc (.cells (dg b) 27) := ⟨_, rfl⟩
  rw [← hW2] at HG HW r0 r1 hs2
  have L : ∀ W W', Below (w.heap.size + 2) W2 W → Below W.heap.size W W' → Below (w.heap.size + 2) W2 W' := fun W W' h h' => h.trans (h'.mono (by have := h.size; omega))
  have AW : Hid (Calls Tryd.prog 9 #[] W2 fun e w' => e = .returned (.bool true) ∧ Below (w.heap.size + 2) W2 w') := by
    refine (awake_g HG.out).mono ?_
    rintro e w' ⟨rfl, h⟩; exact ⟨rfl, by have := h.b; rwa [hs2] at this⟩
  have CHa : Hid (∀ W, Below (w.heap.size + 2) W2 W → Calls Tryd.prog 15 #[.agg (a.map vb).toArray] W fun e w' => e = .returned (.string (M.bs (hexB a))) ∧ Below (w.heap.size + 2) W2 w') := fun W h => by
    refine (Hex_at a ha W).mono ?_
    rintro e w' ⟨rfl, h'⟩; exact ⟨rfl, L _ _ h h'⟩
  have CHb : Hid (∀ W, Below (w.heap.size + 2) W2 W → Calls Tryd.prog 15 #[.agg (b.map vb).toArray] W fun e w' => e = .returned (.string (M.bs (hexB b))) ∧ Below (w.heap.size + 2) W2 w') := fun W h => by
    refine (Hex_at b hb W).mono ?_
    rintro e w' ⟨rfl, h'⟩; exact ⟨rfl, L _ _ h h'⟩
  have RH : Hid (∀ W, Below (w.heap.size + 2) W2 W → Calls Tryd.prog 16 #[.agg (a.map vb).toArray] W fun e w' => e = .returned (.string (M.bs (hexB a))) ∧ Below (w.heap.size + 2) W2 w') := fun W h => by
    refine (rHex_at a ha W).mono ?_
    rintro e w' ⟨rfl, h'⟩; exact ⟨rfl, L _ _ h h'⟩
  have CL : ∀ W, Below (w.heap.size + 2) W2 W → Calls Tryd.prog 17 #[.agg (a.map vb).toArray, .agg (b.map vb).toArray] W fun e w' => e = .returned (.bool (ltB a b)) ∧ Below (w.heap.size + 2) W2 w' := fun W h => by
    refine (Less_at a b ha hb W).mono ?_
    rintro e w' ⟨rfl, h'⟩; exact ⟨rfl, L _ _ h h'⟩
  have RL : ∀ W, Below (w.heap.size + 2) W2 W → Calls Tryd.prog 18 #[.agg (a.map vb).toArray, .agg (b.map vb).toArray] W fun e w' => e = .returned (.bool (ltB a b)) ∧ Below (w.heap.size + 2) W2 w' := fun W h => by
    refine (rLess_at a b ha hb W).mono ?_
    rintro e w' ⟨rfl, h'⟩; exact ⟨rfl, L _ _ h h'⟩
  have KP : Hid (∀ W, Below (w.heap.size + 2) W2 W → Below (w.heap.size + 2) W2 W ∧ W.rangeAt w.heap.size 0 (a.map vb) ∧ W.rangeAt (w.heap.size + 1) 0 (b.map vb)) := fun W h => ⟨h, rng (o := 0) r0 h (by omega), rng (o := 0) r1 h (by omega)⟩
  have HWW : Hid (∀ W, Below (w.heap.size + 2) W2 W → Below w.heap.size w W) := fun W h => HW.out.trans (h.mono (by omega))
  have hu := und27
  have hia : (Tryd.prog.info? 27).map (·.size) = some (a.map vb).length := by rw [info27, List.length_map, ha]
  have hib : (Tryd.prog.info? 27).map (·.size) = some (b.map vb).length := by rw [info27, List.length_map, hb]
  have hEq : ∀ W, (Op.equalIn 10000 27 (.agg (a.map vb).toArray) (.agg (b.map vb).toArray)).run Tryd.prog W = .ok (decide (a = b)) W := eqDg a b ha hb
  obtain ⟨p, hp⟩ : ∃ p, ltB a b = p := ⟨_, rfl⟩
  obtain ⟨q, hq⟩ : ∃ q, decide (a = b) = q := ⟨_, rfl⟩
  rw [hp] at CL RL hLs'
  rw [hq] at hEq hSe
  have CL := hidI CL
  have RL := hidI RL
  clear L hLs hp hq r0 r1 hs2 HG HW hG ha hb
  have HW2 : Hid (W2 = (w.alloc (.cells (dg a) 27)).alloc (.cells (dg b) 27)) := hW2
  clear hW2
  generalize hexB a = X at *
  generalize hexB b = Y at *
  have hld : p = true ∨ p = false := by cases p <;> simp
  rcases Bool.eq_false_or_eq_true p with rfl | rfl <;> rcases Bool.eq_false_or_eq_true q with rfl | rfl
  all_goals
    clear hld
    rw [HW2.out] at AW
    go_enter Tryd.func4, Tryd.ntmps4
    go_wp2_with (first
      | (go_at_call 9; refine AW.out.mono ?_; clear AW; rintro e w1 ⟨rfl, HS⟩; rw [← HW2.out] at HS)
      | refine wl_load (by rfl) 27 (.tmp 2) rfl w.heap.size 0 rfl (a.map vb) _ (KP.out _ HS).2.1 hu rfl hia ?_
      | refine wl_load (by rfl) 27 (.tmp 3) rfl (w.heap.size + 1) 0 rfl (b.map vb) _ (KP.out _ HS).2.2 hu rfl hib ?_
      | (go_at_call 15; refine (CHa.out _ HS).mono ?_; clear HS CHa; rintro e w' ⟨rfl, HS⟩)
      | (go_at_call 15; refine (CHb.out _ HS).mono ?_; clear HS CHb; rintro e w' ⟨rfl, HS⟩))
    refine wp_region_noPanic ?_
    refine wp_region_held_drew (S := (fun W => Below (w.heap.size + 2) W2 W ∧ W.rangeAt w.heap.size 0 (a.map vb) ∧ W.rangeAt (w.heap.size + 1) 0 (b.map vb))) (by kernel_rfl) (KP.out _ (HS.drew)) (fun hHeld => ?_)
    refine wpAnyH_take (i := 0) rfl (by kernel_rfl) (by kernel_rfl) (by kernel_rfl) (fun _ _ _ h => h) (yi_move (by kernel_rfl) rfl rfl) (by assumption) ?_
    simp only [Act.put, List.getElem_toArray, List.getElem_cons_succ, List.getElem_cons_zero, List.setIfInBounds_toArray, List.set_cons_zero, List.set_cons_succ]
    refine wpAnyH_take (i := 1) (v := .agg (List.toArray (a.map vb))) rfl (by kernel_rfl) (by kernel_rfl) (by kernel_rfl) (fun _ _ _ h => h) (yieldsIf_load_mid (by kernel_rfl) _ (.tmp 2) (by kernel_rfl) w.heap.size 0 (by kernel_rfl) (a.map vb) _ (fun W hW => hW.2.1) hu rfl hia) (by assumption) ?_
    simp only [Act.put, List.getElem_toArray, List.getElem_cons_succ, List.getElem_cons_zero, List.setIfInBounds_toArray, List.set_cons_zero, List.set_cons_succ]
    refine wpAnyH_ready (rs := [2]) (by kernel_rfl) (by simp) ?_
    refine AllReadyH.cons (o := _) rfl (fun K hK => ?_) AllReadyH.nil
    go_simp
    (refine (RH.out _ (HS.drew)).mono ?_; rintro e w3 ⟨rfl, HB3⟩; dsimp only)
    refine hK.out _ _ (KP.out _ (HB3)) (fun hHeld => ?_)
    clear hK K
    (try simp only [Act.put, List.getElem_toArray, List.getElem_cons_succ, List.getElem_cons_zero, List.setIfInBounds_toArray, List.set_cons_zero, List.set_cons_succ])
    refine wpAnyH_take (i := 3) (v := ?_) rfl (by kernel_rfl) (by kernel_rfl) (by kernel_rfl) (fun _ _ _ h => h) (Or.inl ⟨by kernel_rfl, ?_⟩) (by assumption) ?_
    rotate_left
    · (intro w hSw; (try dsimp only at hSw); go_simp; (try with_reducible rfl))
    simp only [Act.put, List.getElem_toArray, List.getElem_cons_succ, List.getElem_cons_zero, List.setIfInBounds_toArray, List.set_cons_zero, List.set_cons_succ]
    refine wpAnyH_take (i := 4) rfl (by kernel_rfl) (by kernel_rfl) (by kernel_rfl) (fun _ _ _ h => h) (yi_move (by kernel_rfl) rfl rfl) (by assumption) ?_
    simp only [Act.put, List.getElem_toArray, List.getElem_cons_succ, List.getElem_cons_zero, List.setIfInBounds_toArray, List.set_cons_zero, List.set_cons_succ]
    refine wpAnyH_take (i := 5) (v := .agg (List.toArray (a.map vb))) rfl (by kernel_rfl) (by kernel_rfl) (by kernel_rfl) (fun _ _ _ h => h) (yieldsIf_load_mid (by kernel_rfl) _ (.tmp 2) (by kernel_rfl) w.heap.size 0 (by kernel_rfl) (a.map vb) _ (fun W hW => hW.2.1) hu rfl hia) (by assumption) ?_
    simp only [Act.put, List.getElem_toArray, List.getElem_cons_succ, List.getElem_cons_zero, List.setIfInBounds_toArray, List.set_cons_zero, List.set_cons_succ]
    refine wpAnyH_take (i := 6) (v := .agg (List.toArray (b.map vb))) rfl (by kernel_rfl) (by kernel_rfl) (by kernel_rfl) (fun _ _ _ h => h) (yieldsIf_load_mid (by kernel_rfl) _ (.tmp 3) (by kernel_rfl) (w.heap.size + 1) 0 (by kernel_rfl) (b.map vb) _ (fun W hW => hW.2.2) hu rfl hib) (by assumption) ?_
    simp only [Act.put, List.getElem_toArray, List.getElem_cons_succ, List.getElem_cons_zero, List.setIfInBounds_toArray, List.set_cons_zero, List.set_cons_succ]
    refine wpAnyH_take (i := 8) (v := .agg (List.toArray (a.map vb))) rfl (by kernel_rfl) (by kernel_rfl) (by kernel_rfl) (fun _ _ _ h => h) (yieldsIf_load_mid (by kernel_rfl) _ (.tmp 2) (by kernel_rfl) w.heap.size 0 (by kernel_rfl) (a.map vb) _ (fun W hW => hW.2.1) hu rfl hia) (by assumption) ?_
    simp only [Act.put, List.getElem_toArray, List.getElem_cons_succ, List.getElem_cons_zero, List.setIfInBounds_toArray, List.set_cons_zero, List.set_cons_succ]
    refine wpAnyH_take (i := 9) (v := .agg (List.toArray (b.map vb))) rfl (by kernel_rfl) (by kernel_rfl) (by kernel_rfl) (fun _ _ _ h => h) (yieldsIf_load_mid (by kernel_rfl) _ (.tmp 3) (by kernel_rfl) (w.heap.size + 1) 0 (by kernel_rfl) (b.map vb) _ (fun W hW => hW.2.2) hu rfl hib) (by assumption) ?_
    simp only [Act.put, List.getElem_toArray, List.getElem_cons_succ, List.getElem_cons_zero, List.setIfInBounds_toArray, List.set_cons_zero, List.set_cons_succ]
    refine wpAnyH_ready (rs := [7]) (by kernel_rfl) (by simp) ?_
    refine AllReadyH.cons (o := _) rfl (fun K hK => ?_) AllReadyH.nil
    go_simp
    (refine (CL.out _ (HB3)).mono ?_; rintro e w10 ⟨rfl, HB10⟩; dsimp only)
    refine hK.out _ _ (KP.out _ (HB10)) (fun hHeld => ?_)
    clear hK K
    (try simp only [Act.put, List.getElem_toArray, List.getElem_cons_succ, List.getElem_cons_zero, List.setIfInBounds_toArray, List.set_cons_zero, List.set_cons_succ])
    refine wpAnyH_ready (rs := [10]) (by kernel_rfl) (by simp) ?_
    refine AllReadyH.cons (o := _) rfl (fun K hK => ?_) AllReadyH.nil
    go_simp
    (refine (RL.out _ (HB10)).mono ?_; rintro e w11 ⟨rfl, HB11⟩; dsimp only)
    refine hK.out _ _ (KP.out _ (HB11)) (fun hHeld => ?_)
    clear hK K
    (try simp only [Act.put, List.getElem_toArray, List.getElem_cons_succ, List.getElem_cons_zero, List.setIfInBounds_toArray, List.set_cons_zero, List.set_cons_succ])
    refine wpAnyH_take (i := 11) (v := ?_) rfl (by kernel_rfl) (by kernel_rfl) (by kernel_rfl) (fun _ _ _ h => h) (Or.inl ⟨by kernel_rfl, ?_⟩) (by assumption) ?_
    rotate_left
    · (intro w hSw; (try dsimp only at hSw); go_simp; (try with_reducible rfl))
    simp only [Act.put, List.getElem_toArray, List.getElem_cons_succ, List.getElem_cons_zero, List.setIfInBounds_toArray, List.set_cons_zero, List.set_cons_succ]
    refine wpAnyH_take (i := 12) (v := ?_) rfl (by kernel_rfl) (by kernel_rfl) (by kernel_rfl) (fun _ _ _ h => h) (Or.inl ⟨by kernel_rfl, ?_⟩) (by assumption) ?_
    rotate_left
    · (intro w hSw; (try dsimp only at hSw); go_simp; (try with_reducible rfl))
    simp only [Act.put, List.getElem_toArray, List.getElem_cons_succ, List.getElem_cons_zero, List.setIfInBounds_toArray, List.set_cons_zero, List.set_cons_succ]
    refine wpAnyH_take (i := 13) rfl (by kernel_rfl) (by kernel_rfl) (by kernel_rfl) (fun _ _ _ h => h) (yi_move (by kernel_rfl) rfl rfl) (by assumption) ?_
    simp only [Act.put, List.getElem_toArray, List.getElem_cons_succ, List.getElem_cons_zero, List.setIfInBounds_toArray, List.set_cons_zero, List.set_cons_succ]
    refine wpAnyH_take (i := 14) (v := .agg (List.toArray (a.map vb))) rfl (by kernel_rfl) (by kernel_rfl) (by kernel_rfl) (fun _ _ _ h => h) (yieldsIf_load_mid (by kernel_rfl) _ (.tmp 2) (by kernel_rfl) w.heap.size 0 (by kernel_rfl) (a.map vb) _ (fun W hW => hW.2.1) hu rfl hia) (by assumption) ?_
    simp only [Act.put, List.getElem_toArray, List.getElem_cons_succ, List.getElem_cons_zero, List.setIfInBounds_toArray, List.set_cons_zero, List.set_cons_succ]
    refine wpAnyH_take (i := 15) (v := .agg (List.toArray (b.map vb))) rfl (by kernel_rfl) (by kernel_rfl) (by kernel_rfl) (fun _ _ _ h => h) (yieldsIf_load_mid (by kernel_rfl) _ (.tmp 3) (by kernel_rfl) (w.heap.size + 1) 0 (by kernel_rfl) (b.map vb) _ (fun W hW => hW.2.2) hu rfl hib) (by assumption) ?_
    simp only [Act.put, List.getElem_toArray, List.getElem_cons_succ, List.getElem_cons_zero, List.setIfInBounds_toArray, List.set_cons_zero, List.set_cons_succ]
    refine wpAnyH_take (i := 17) rfl (by kernel_rfl) (by kernel_rfl) (by kernel_rfl) (fun _ _ _ h => h) (yi_move (by kernel_rfl) rfl rfl) (by assumption) ?_
    simp only [Act.put, List.getElem_toArray, List.getElem_cons_succ, List.getElem_cons_zero, List.setIfInBounds_toArray, List.set_cons_zero, List.set_cons_succ]
    refine wpAnyH_take (i := 18) rfl (by kernel_rfl) (by kernel_rfl) (by kernel_rfl) (fun _ _ _ h => h) (yi_move (by kernel_rfl) rfl rfl) (by assumption) ?_
    simp only [Act.put, List.getElem_toArray, List.getElem_cons_succ, List.getElem_cons_zero, List.setIfInBounds_toArray, List.set_cons_zero, List.set_cons_succ]
    refine wpAnyH_take (i := 19) (v := ?_) rfl (by kernel_rfl) (by kernel_rfl) (by kernel_rfl) (fun _ _ _ h => h) (Or.inl ⟨by kernel_rfl, ?_⟩) (by assumption) ?_
    rotate_left
    · (intro w hSw; (try dsimp only at hSw); go_simp; (try with_reducible rfl))
    simp only [Act.put, List.getElem_toArray, List.getElem_cons_succ, List.getElem_cons_zero, List.setIfInBounds_toArray, List.set_cons_zero, List.set_cons_succ]
    refine wpAnyH_ready (rs := [16]) (by kernel_rfl) (by simp) ?_
    refine AllReadyH.cons (o := _) rfl (fun K hK => ?_) AllReadyH.nil
    go_simp
    (refine (CL.out _ (HB11)).mono ?_; rintro e w20 ⟨rfl, HB20⟩; dsimp only)
    refine hK.out _ _ (KP.out _ (HB20)) (fun hHeld => ?_)
    clear hK K
    (try simp only [Act.put, List.getElem_toArray, List.getElem_cons_succ, List.getElem_cons_zero, List.setIfInBounds_toArray, List.set_cons_zero, List.set_cons_succ])
    refine wpAnyH_take (i := 20) (v := ?_) rfl (by kernel_rfl) (by kernel_rfl) (by kernel_rfl) (fun _ _ _ h => h) (Or.inl ⟨by kernel_rfl, ?_⟩) (by assumption) ?_
    rotate_left
    · (intro w hSw; (try dsimp only at hSw); go_simp; (try with_reducible rfl))
    simp only [Act.put, List.getElem_toArray, List.getElem_cons_succ, List.getElem_cons_zero, List.setIfInBounds_toArray, List.set_cons_zero, List.set_cons_succ]
    refine wpAnyH_take (i := 21) (v := ?_) rfl (by kernel_rfl) (by kernel_rfl) (by kernel_rfl) (fun _ _ _ h => h) (Or.inl ⟨by kernel_rfl, ?_⟩) (by assumption) ?_
    rotate_left
    · (intro w hSw; (try dsimp only at hSw); go_simp; (try with_reducible rfl))
    simp only [Act.put, List.getElem_toArray, List.getElem_cons_succ, List.getElem_cons_zero, List.setIfInBounds_toArray, List.set_cons_zero, List.set_cons_succ]
    refine wpAnyH_take (i := 22) rfl (by kernel_rfl) (by kernel_rfl) (by kernel_rfl) (fun _ _ _ h => h) (yi_move (by kernel_rfl) rfl rfl) (by assumption) ?_
    simp only [Act.put, List.getElem_toArray, List.getElem_cons_succ, List.getElem_cons_zero, List.setIfInBounds_toArray, List.set_cons_zero, List.set_cons_succ]
    refine wpAnyH_take (i := 23) rfl (by kernel_rfl) (by kernel_rfl) (by kernel_rfl) (fun _ _ _ h => h) (yi_move (by kernel_rfl) rfl rfl) (by assumption) ?_
    simp only [Act.put, List.getElem_toArray, List.getElem_cons_succ, List.getElem_cons_zero, List.setIfInBounds_toArray, List.set_cons_zero, List.set_cons_succ]
    refine wpAnyH_take (i := 24) rfl (by kernel_rfl) (by kernel_rfl) (by kernel_rfl) (fun _ _ _ h => h) (yi_move (by kernel_rfl) rfl rfl) (by assumption) ?_
    simp only [Act.put, List.getElem_toArray, List.getElem_cons_succ, List.getElem_cons_zero, List.setIfInBounds_toArray, List.set_cons_zero, List.set_cons_succ]
    refine wpAnyH_take (i := 25) (v := ?_) rfl (by kernel_rfl) (by kernel_rfl) (by kernel_rfl) (fun _ _ _ h => h) (Or.inl ⟨by kernel_rfl, ?_⟩) (by assumption) ?_
    rotate_left
    · (intro w hSw; (try dsimp only at hSw); go_simp; (try with_reducible rfl))
    simp only [Act.put, List.getElem_toArray, List.getElem_cons_succ, List.getElem_cons_zero, List.setIfInBounds_toArray, List.set_cons_zero, List.set_cons_succ]
    refine wpAnyH_take (i := 26) (v := .agg (List.toArray (a.map vb))) rfl (by kernel_rfl) (by kernel_rfl) (by kernel_rfl) (fun _ _ _ h => h) (yieldsIf_load_mid (by kernel_rfl) _ (.tmp 2) (by kernel_rfl) w.heap.size 0 (by kernel_rfl) (a.map vb) _ (fun W hW => hW.2.1) hu rfl hia) (by assumption) ?_
    simp only [Act.put, List.getElem_toArray, List.getElem_cons_succ, List.getElem_cons_zero, List.setIfInBounds_toArray, List.set_cons_zero, List.set_cons_succ]
    refine wpAnyH_take (i := 27) (v := .agg (List.toArray (b.map vb))) rfl (by kernel_rfl) (by kernel_rfl) (by kernel_rfl) (fun _ _ _ h => h) (yieldsIf_load_mid (by kernel_rfl) _ (.tmp 3) (by kernel_rfl) (w.heap.size + 1) 0 (by kernel_rfl) (b.map vb) _ (fun W hW => hW.2.2) hu rfl hib) (by assumption) ?_
    simp only [Act.put, List.getElem_toArray, List.getElem_cons_succ, List.getElem_cons_zero, List.setIfInBounds_toArray, List.set_cons_zero, List.set_cons_succ]
    refine wpAnyH_take (i := 28) (v := ?_) rfl (by kernel_rfl) (by kernel_rfl) (by kernel_rfl) (fun _ _ _ h => h) (Or.inl ⟨by kernel_rfl, ?_⟩) (by assumption) ?_
    rotate_left
    · (intro w hSw; (try dsimp only at hSw); go_simp; (try with_reducible rfl))
    simp only [Act.put, List.getElem_toArray, List.getElem_cons_succ, List.getElem_cons_zero, List.setIfInBounds_toArray, List.set_cons_zero, List.set_cons_succ]
    refine wpAnyH_take (i := 29) (v := ?_) rfl (by kernel_rfl) (by kernel_rfl) (by kernel_rfl) (fun _ _ _ h => h) (Or.inl ⟨by kernel_rfl, ?_⟩) (by assumption) ?_
    rotate_left
    · (intro w hSw; (try dsimp only at hSw); go_simp; (try with_reducible rfl))
    simp only [Act.put, List.getElem_toArray, List.getElem_cons_succ, List.getElem_cons_zero, List.setIfInBounds_toArray, List.set_cons_zero, List.set_cons_succ]
    refine wpAnyH_take (i := 30) (v := ?_) rfl (by kernel_rfl) (by kernel_rfl) (by kernel_rfl) (fun _ _ _ h => h) (Or.inl ⟨by kernel_rfl, ?_⟩) (by assumption) ?_
    rotate_left
    · (intro w hSw; (try dsimp only at hSw); go_simp; (try with_reducible rfl))
    simp only [Act.put, List.getElem_toArray, List.getElem_cons_succ, List.getElem_cons_zero, List.setIfInBounds_toArray, List.set_cons_zero, List.set_cons_succ]
    refine wpAnyH_take (i := 31) rfl (by kernel_rfl) (by kernel_rfl) (by kernel_rfl) (fun _ _ _ h => h) (yi_assign (by kernel_rfl) rfl rfl) (by assumption) ?_
    simp only [Act.put, List.getElem_toArray, List.getElem_cons_succ, List.getElem_cons_zero, List.setIfInBounds_toArray, List.set_cons_zero, List.set_cons_succ]
    refine wpAnyH_done (by kernel_rfl) ?_ _
    refine NoPanic.normal ?_
    go_wp2_with fail
    go_ret
    exact ⟨rfl, HWW.out _ HB20⟩
end Go.Proofs.YtohpjindnfabaaaDoor
