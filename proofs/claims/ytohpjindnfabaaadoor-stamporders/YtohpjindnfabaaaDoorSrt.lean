/- The walk of the law StampSorts. -/
import Derived.Test.YtohpjindnfabaaaDoorS15
import Derived.Test.YtohpjindnfabaaaDoorRegT
namespace Go.Proofs.YtohpjindnfabaaaDoor
open Go.RowKit
set_option linter.unusedVariables false
set_option linter.unusedSimpArgs false

theorem ltB_tri : ∀ a b : List UInt8, a.length = b.length → (a = b ∧ ltB a b = false ∧ ltB b a = false) ∨ (a ≠ b ∧ ltB a b = true ∧ ltB b a = false) ∨ (a ≠ b ∧ ltB a b = false ∧ ltB b a = true)
  | [], [], _ => Or.inl ⟨rfl, rfl, rfl⟩
  | [], _ :: _, h => by simp at h
  | _ :: _, [], h => by simp at h
  | x :: a, y :: b, h => by
    by_cases hxy : x = y
    · subst hxy
      rcases ltB_tri a b (by simpa using h) with ⟨rfl, h1, h2⟩ | ⟨h0, h1, h2⟩ | ⟨h0, h1, h2⟩
      · exact Or.inl ⟨rfl, by simp [ltB, h1], by simp [ltB, h1]⟩
      · exact Or.inr (Or.inl ⟨by simp [h0], by simp [ltB, h1], by simp [ltB, h2]⟩)
      · exact Or.inr (Or.inr ⟨by simp [h0], by simp [ltB, h1], by simp [ltB, h2]⟩)
    · have hne : x.toNat ≠ y.toNat := fun e => hxy (UInt8.toNat_inj.1 e)
      have hyx : ¬ y = x := fun e => hxy e.symm
      rcases Nat.lt_or_ge x.toNat y.toNat with hl | hl
      · exact Or.inr (Or.inl ⟨by simp [hxy], by simp only [ltB, if_neg hxy]; simpa using hl, by simp only [ltB, if_neg hyx]; simp; omega⟩)
      · exact Or.inr (Or.inr ⟨by simp [hxy], by simp only [ltB, if_neg hxy]; simp; omega, by simp only [ltB, if_neg hyx]; simp; omega⟩)
theorem ltB_trans : ∀ a b c : List UInt8, ltB a b = true → ltB b c = true → ltB a c = true
  | [], _, _, h, _ => by simp [ltB] at h
  | _ :: _, [], _, h, _ => by simp [ltB] at h
  | _ :: _, _ :: _, [], _, h => by simp [ltB] at h
  | x :: a, y :: b, z :: c, h1, h2 => by
    simp only [ltB] at h1 h2 ⊢
    by_cases hxy : x = y
    · subst hxy
      rw [if_pos rfl] at h1
      by_cases hxz : x = z
      · rw [if_pos hxz] at h2 ⊢; exact ltB_trans a b c h1 h2
      · rw [if_neg hxz] at h2 ⊢; exact h2
    · rw [if_neg hxy] at h1
      have h1' : x.toNat < y.toNat := by simpa using h1
      by_cases hyz : y = z
      · subst hyz; rw [if_neg hxy]; exact h1
      · rw [if_neg hyz] at h2
        have h2' : y.toNat < z.toNat := by simpa using h2
        have hxz : x ≠ z := fun e => by subst e; omega
        rw [if_neg hxz]; simp; omega

theorem rng {B o : Nat} {d : List UInt8} {W w' : World} {T : TypeId} (hW : W.heap[B]? = some (.cells (dg d) T (0, 0))) {N : Nat} (hb : Below N W w') (hB : B < N) : w'.rangeAt B 0 (d.map vb) := fun j v hv => by
  rw [Nat.zero_add, hb.cell (p := ⟨B, j, none⟩) hB, cell_of_row _ _ j (dg d) _ _ hW]
  unfold dg; rw [List.getElem?_toArray]; exact hv

theorem hidI {p : Prop} (h : p) : Hid p := h
set_option maxRecDepth 8000 in
set_option maxHeartbeats 8000000 in
theorem stampSorts_walk (a b c : List UInt8) (ha : a.length = 32) (hb : b.length = 32) (hc : c.length = 32) (w : World) (hG : GW w) :
    Calls Tryd.prog 8 #[.agg (dg a), .agg (dg b), .agg (dg c)] w fun e w' => e = .returned (.bool true) ∧ Below w.heap.size w w' := by
  have hz := hG.z
  have HG : Hid (GB (((w.alloc (.cells (dg a) 27)).alloc (.cells (dg b) 27)).alloc (.cells (dg c) 27)) (((w.alloc (.cells (dg a) 27)).alloc (.cells (dg b) 27)).alloc (.cells (dg c) 27))) :=
    GB.refl (hG.below ((((Below.refl _ w).alloc (Nat.le_refl _) _).alloc (by simp) _).alloc (by simp; omega) _) hz)
  have HW : Hid (Below w.heap.size w (((w.alloc (.cells (dg a) 27)).alloc (.cells (dg b) 27)).alloc (.cells (dg c) 27))) :=
    ((((Below.refl _ w).alloc (Nat.le_refl _) _).alloc (by simp) _).alloc (by simp; omega) _)
  have r0 : (((w.alloc (.cells (dg a) 27)).alloc (.cells (dg b) 27)).alloc (.cells (dg c) 27)).heap[w.heap.size]? = some (.cells (dg a) 27 (0, 0)) := by
    rw [Below.heap_alloc _ _ _ (by simp; omega), Below.heap_alloc _ _ _ (by simp)]; exact heap_alloc_new _ _
  have r1 : (((w.alloc (.cells (dg a) 27)).alloc (.cells (dg b) 27)).alloc (.cells (dg c) 27)).heap[w.heap.size + 1]? = some (.cells (dg b) 27 (0, 0)) := by
    rw [Below.heap_alloc _ _ _ (by simp)]
    have := heap_alloc_new (w.alloc (.cells (dg a) 27)) (.cells (dg b) 27)
    rwa [show (w.alloc (.cells (dg a) 27)).heap.size = w.heap.size + 1 by simp] at this
  have r2 : (((w.alloc (.cells (dg a) 27)).alloc (.cells (dg b) 27)).alloc (.cells (dg c) 27)).heap[w.heap.size + 1 + 1]? = some (.cells (dg c) 27 (0, 0)) := by
    have := heap_alloc_new ((w.alloc (.cells (dg a) 27)).alloc (.cells (dg b) 27)) (.cells (dg c) 27)
    rwa [show ((w.alloc (.cells (dg a) 27)).alloc (.cells (dg b) 27)).heap.size = w.heap.size + 1 + 1 by simp] at this
  have hs3 : (((w.alloc (.cells (dg a) 27)).alloc (.cells (dg b) 27)).alloc (.cells (dg c) 27)).heap.size = w.heap.size + 3 := by simp
  go_enter Tryd.func8, Tryd.ntmps8
  go_wp2_with (go_at_call 9; refine (awake_g HG).mono ?_; clear HG; rintro e w1 ⟨rfl, HG⟩)
  generalize ((w.alloc (.cells (dg a) 27)).alloc (.cells (dg b) 27)).alloc (.cells (dg c) 27) = W3 at *
  have HS : Below (w.heap.size + 3) W3 w1 := by rw [← hs3]; exact HG.b
  have CL : Hid (∀ (x y : List UInt8) (W : World), x.length = 32 → y.length = 32 → Below (w.heap.size + 3) W3 W → Calls Tryd.prog 17 #[.agg (x.map vb).toArray, .agg (y.map vb).toArray] W fun e w' => e = .returned (.bool (ltB x y)) ∧ Below (w.heap.size + 3) W3 w') := fun x y W hx hy hb => by
    refine (Less_at x y hx hy W).mono ?_
    rintro e w' ⟨rfl, h⟩
    exact ⟨rfl, hb.trans (h.mono (by have := hb.size; omega))⟩
  have R0 : Hid (∀ W, Below (w.heap.size + 3) W3 W → W.rangeAt w.heap.size 0 (a.map vb)) := fun W h => rng (o := 0) r0 h (by omega)
  have R1 : Hid (∀ W, Below (w.heap.size + 3) W3 W → W.rangeAt (w.heap.size + 1) 0 (b.map vb)) := fun W h => rng (o := 0) r1 h (by omega)
  have R2 : Hid (∀ W, Below (w.heap.size + 3) W3 W → W.rangeAt (w.heap.size + 1 + 1) 0 (c.map vb)) := fun W h => rng (o := 0) r2 h (by omega)
  have hs0 := ltB_self a
  have HW' : Hid (∀ W, Below (w.heap.size + 3) W3 W → Below w.heap.size w W) := fun W h => HW.out.trans (h.mono (by omega))
  clear HG HW r0 r1 r2 hs3 hG
  have hu := und27
  have hia : (Tryd.prog.info? 27).map (·.size) = some (a.map vb).length := by rw [info27, List.length_map, ha]
  have hib : (Tryd.prog.info? 27).map (·.size) = some (b.map vb).length := by rw [info27, List.length_map, hb]
  have hic : (Tryd.prog.info? 27).map (·.size) = some (c.map vb).length := by rw [info27, List.length_map, hc]
  have hEq : ∀ W, (Op.equalIn 10000 27 (.agg (a.map vb).toArray) (.agg (b.map vb).toArray)).run Tryd.prog W = .ok (decide (a = b)) W := eqDg a b ha hb
  have HT := ltB_trans a b c
  have ra := R0.out _ HS
  have rb := R1.out _ HS
  have hAl := ha
  have hBl := hb
  have hCl := hc
  have HHa : Hid (a.length = 32) := ha
  have HHb : Hid (b.length = 32) := hb
  have HHc : Hid (c.length = 32) := hc
  clear hAl hBl hCl ha hb hc
  have KP : Hid (∀ W, Below (w.heap.size + 3) W3 W → Below (w.heap.size + 3) W3 W ∧ W.rangeAt w.heap.size 0 (a.map vb) ∧ W.rangeAt (w.heap.size + 1) 0 (b.map vb) ∧ W.rangeAt (w.heap.size + 1 + 1) 0 (c.map vb)) := fun W h => ⟨h, R0.out W h, R1.out W h, R2.out W h⟩
  have CAA : Hid (∀ W, Below (w.heap.size + 3) W3 W → Calls Tryd.prog 17 #[.agg (a.map vb).toArray, .agg (a.map vb).toArray] W fun e w' => e = .returned (.bool false) ∧ Below (w.heap.size + 3) W3 w') := fun W h => by have := CL.out a a W HHa.out HHa.out h; rwa [hs0] at this
  have CAB := fun W h => CL.out a b W HHa.out HHb.out h
  have CBA := fun W h => CL.out b a W HHb.out HHa.out h
  have CBC := fun W h => CL.out b c W HHb.out HHc.out h
  have CAC := fun W h => CL.out a c W HHa.out HHc.out h
  clear CL R0 R1 R2 hs0 ra rb
  rcases ltB_tri a b (by rw [HHa.out, HHb.out]) with ⟨h0, h1, h2⟩ | ⟨h0, h1, h2⟩ | ⟨h0, h1, h2⟩
  · rw [decide_eq_true h0] at hEq
    rw [h1] at CAB; rw [h2] at CBA
    have CAB := hidI CAB; have CBA := hidI CBA; have CBC := hidI CBC; have CAC := hidI CAC
    clear h0 h1 h2 HT
    refine wp_region_noPanic ?_
    refine wp_region_held_drew (S := (fun W => Below (w.heap.size + 3) W3 W ∧ W.rangeAt w.heap.size 0 (a.map vb) ∧ W.rangeAt (w.heap.size + 1) 0 (b.map vb) ∧ W.rangeAt (w.heap.size + 1 + 1) 0 (c.map vb))) (by kernel_rfl) (KP.out _ (HS.drew)) (fun hHeld => ?_)
    refine wpAnyH_take (i := 0) (v := .agg (List.toArray (a.map vb))) rfl (by kernel_rfl) (by kernel_rfl) (by kernel_rfl) (fun _ _ _ h => h) (yieldsIf_load_mid (by kernel_rfl) _ (.tmp 3) (by kernel_rfl) w.heap.size 0 (by kernel_rfl) (a.map vb) _ (fun W hW => hW.2.1) hu rfl hia) (by assumption) ?_
    simp only [Act.put, List.getElem_toArray, List.getElem_cons_succ, List.getElem_cons_zero, List.setIfInBounds_toArray, List.set_cons_zero, List.set_cons_succ]
    refine wpAnyH_take (i := 1) (v := .agg (List.toArray (a.map vb))) rfl (by kernel_rfl) (by kernel_rfl) (by kernel_rfl) (fun _ _ _ h => h) (yieldsIf_load_mid (by kernel_rfl) _ (.tmp 3) (by kernel_rfl) w.heap.size 0 (by kernel_rfl) (a.map vb) _ (fun W hW => hW.2.1) hu rfl hia) (by assumption) ?_
    simp only [Act.put, List.getElem_toArray, List.getElem_cons_succ, List.getElem_cons_zero, List.setIfInBounds_toArray, List.set_cons_zero, List.set_cons_succ]
    refine wpAnyH_ready (rs := [2]) (by kernel_rfl) (by simp) ?_
    refine AllReadyH.cons (o := _) rfl (fun K hK => ?_) AllReadyH.nil
    go_simp
    (refine (CAA.out _ (HS.drew)).mono ?_; rintro e w3 ⟨rfl, HB3⟩; dsimp only)
    refine hK.out _ _ (KP.out _ (HB3)) (fun hHeld => ?_)
    clear hK K
    (try simp only [Act.put, List.getElem_toArray, List.getElem_cons_succ, List.getElem_cons_zero, List.setIfInBounds_toArray, List.set_cons_zero, List.set_cons_succ])
    refine wpAnyH_take (i := 3) rfl (by kernel_rfl) (by kernel_rfl) (by kernel_rfl) (fun _ _ _ h => h) (yi_move (by kernel_rfl) rfl rfl) (by assumption) ?_
    simp only [Act.put, List.getElem_toArray, List.getElem_cons_succ, List.getElem_cons_zero, List.setIfInBounds_toArray, List.set_cons_zero, List.set_cons_succ]
    refine wpAnyH_take (i := 4) (v := .agg (List.toArray (a.map vb))) rfl (by kernel_rfl) (by kernel_rfl) (by kernel_rfl) (fun _ _ _ h => h) (yieldsIf_load_mid (by kernel_rfl) _ (.tmp 3) (by kernel_rfl) w.heap.size 0 (by kernel_rfl) (a.map vb) _ (fun W hW => hW.2.1) hu rfl hia) (by assumption) ?_
    simp only [Act.put, List.getElem_toArray, List.getElem_cons_succ, List.getElem_cons_zero, List.setIfInBounds_toArray, List.set_cons_zero, List.set_cons_succ]
    refine wpAnyH_take (i := 5) (v := .agg (List.toArray (b.map vb))) rfl (by kernel_rfl) (by kernel_rfl) (by kernel_rfl) (fun _ _ _ h => h) (yieldsIf_load_mid (by kernel_rfl) _ (.tmp 4) (by kernel_rfl) (w.heap.size + 1) 0 (by kernel_rfl) (b.map vb) _ (fun W hW => hW.2.2.1) hu rfl hib) (by assumption) ?_
    simp only [Act.put, List.getElem_toArray, List.getElem_cons_succ, List.getElem_cons_zero, List.setIfInBounds_toArray, List.set_cons_zero, List.set_cons_succ]
    refine wpAnyH_take (i := 6) (v := ?ve7) rfl (by kernel_rfl) (by kernel_rfl) (by kernel_rfl) (fun _ _ _ h => h) (Or.inl ⟨by kernel_rfl, ?ye7⟩) (by assumption) ?re7
    case ye7 => (intro w hSw; (try dsimp only at hSw); go_simp; (try with_reducible rfl))
    simp only [Act.put, List.getElem_toArray, List.getElem_cons_succ, List.getElem_cons_zero, List.setIfInBounds_toArray, List.set_cons_zero, List.set_cons_succ]
    refine wpAnyH_take (i := 7) (v := .agg (List.toArray (a.map vb))) rfl (by kernel_rfl) (by kernel_rfl) (by kernel_rfl) (fun _ _ _ h => h) (yieldsIf_load_mid (by kernel_rfl) _ (.tmp 3) (by kernel_rfl) w.heap.size 0 (by kernel_rfl) (a.map vb) _ (fun W hW => hW.2.1) hu rfl hia) (by assumption) ?_
    simp only [Act.put, List.getElem_toArray, List.getElem_cons_succ, List.getElem_cons_zero, List.setIfInBounds_toArray, List.set_cons_zero, List.set_cons_succ]
    refine wpAnyH_take (i := 8) (v := .agg (List.toArray (b.map vb))) rfl (by kernel_rfl) (by kernel_rfl) (by kernel_rfl) (fun _ _ _ h => h) (yieldsIf_load_mid (by kernel_rfl) _ (.tmp 4) (by kernel_rfl) (w.heap.size + 1) 0 (by kernel_rfl) (b.map vb) _ (fun W hW => hW.2.2.1) hu rfl hib) (by assumption) ?_
    simp only [Act.put, List.getElem_toArray, List.getElem_cons_succ, List.getElem_cons_zero, List.setIfInBounds_toArray, List.set_cons_zero, List.set_cons_succ]
    refine wpAnyH_take (i := 10) (v := .agg (List.toArray (b.map vb))) rfl (by kernel_rfl) (by kernel_rfl) (by kernel_rfl) (fun _ _ _ h => h) (yieldsIf_load_mid (by kernel_rfl) _ (.tmp 4) (by kernel_rfl) (w.heap.size + 1) 0 (by kernel_rfl) (b.map vb) _ (fun W hW => hW.2.2.1) hu rfl hib) (by assumption) ?_
    simp only [Act.put, List.getElem_toArray, List.getElem_cons_succ, List.getElem_cons_zero, List.setIfInBounds_toArray, List.set_cons_zero, List.set_cons_succ]
    refine wpAnyH_take (i := 11) (v := .agg (List.toArray (a.map vb))) rfl (by kernel_rfl) (by kernel_rfl) (by kernel_rfl) (fun _ _ _ h => h) (yieldsIf_load_mid (by kernel_rfl) _ (.tmp 3) (by kernel_rfl) w.heap.size 0 (by kernel_rfl) (a.map vb) _ (fun W hW => hW.2.1) hu rfl hia) (by assumption) ?_
    simp only [Act.put, List.getElem_toArray, List.getElem_cons_succ, List.getElem_cons_zero, List.setIfInBounds_toArray, List.set_cons_zero, List.set_cons_succ]
    refine wpAnyH_ready (rs := [9]) (by kernel_rfl) (by simp) ?_
    refine AllReadyH.cons (o := _) rfl (fun K hK => ?_) AllReadyH.nil
    go_simp
    (refine (CAB.out _ (HB3)).mono ?_; rintro e w12 ⟨rfl, HB12⟩; dsimp only)
    refine hK.out _ _ (KP.out _ (HB12)) (fun hHeld => ?_)
    clear hK K
    (try simp only [Act.put, List.getElem_toArray, List.getElem_cons_succ, List.getElem_cons_zero, List.setIfInBounds_toArray, List.set_cons_zero, List.set_cons_succ])
    refine wpAnyH_ready (rs := [12]) (by kernel_rfl) (by simp) ?_
    refine AllReadyH.cons (o := _) rfl (fun K hK => ?_) AllReadyH.nil
    go_simp
    (refine (CBA.out _ (HB12)).mono ?_; rintro e w13 ⟨rfl, HB13⟩; dsimp only)
    refine hK.out _ _ (KP.out _ (HB13)) (fun hHeld => ?_)
    clear hK K
    (try simp only [Act.put, List.getElem_toArray, List.getElem_cons_succ, List.getElem_cons_zero, List.setIfInBounds_toArray, List.set_cons_zero, List.set_cons_succ])
    refine wpAnyH_take (i := 13) (v := ?ve14) rfl (by kernel_rfl) (by kernel_rfl) (by kernel_rfl) (fun _ _ _ h => h) (Or.inl ⟨by kernel_rfl, ?ye14⟩) (by assumption) ?re14
    case ye14 => (intro w hSw; (try dsimp only at hSw); go_simp; (try with_reducible rfl))
    simp only [Act.put, List.getElem_toArray, List.getElem_cons_succ, List.getElem_cons_zero, List.setIfInBounds_toArray, List.set_cons_zero, List.set_cons_succ]
    refine wpAnyH_take (i := 14) (v := ?ve15) rfl (by kernel_rfl) (by kernel_rfl) (by kernel_rfl) (fun _ _ _ h => h) (Or.inl ⟨by kernel_rfl, ?ye15⟩) (by assumption) ?re15
    case ye15 => (intro w hSw; (try dsimp only at hSw); go_simp; (try with_reducible rfl))
    simp only [Act.put, List.getElem_toArray, List.getElem_cons_succ, List.getElem_cons_zero, List.setIfInBounds_toArray, List.set_cons_zero, List.set_cons_succ]
    refine wpAnyH_take (i := 15) (v := ?ve16) rfl (by kernel_rfl) (by kernel_rfl) (by kernel_rfl) (fun _ _ _ h => h) (Or.inl ⟨by kernel_rfl, ?ye16⟩) (by assumption) ?re16
    case ye16 => (intro w hSw; (try dsimp only at hSw); go_simp; (try with_reducible rfl))
    simp only [Act.put, List.getElem_toArray, List.getElem_cons_succ, List.getElem_cons_zero, List.setIfInBounds_toArray, List.set_cons_zero, List.set_cons_succ]
    refine wpAnyH_take (i := 16) rfl (by kernel_rfl) (by kernel_rfl) (by kernel_rfl) (fun _ _ _ h => h) (yi_move (by kernel_rfl) rfl rfl) (by assumption) ?_
    simp only [Act.put, List.getElem_toArray, List.getElem_cons_succ, List.getElem_cons_zero, List.setIfInBounds_toArray, List.set_cons_zero, List.set_cons_succ]
    refine wpAnyH_take (i := 17) (v := .agg (List.toArray (a.map vb))) rfl (by kernel_rfl) (by kernel_rfl) (by kernel_rfl) (fun _ _ _ h => h) (yieldsIf_load_mid (by kernel_rfl) _ (.tmp 3) (by kernel_rfl) w.heap.size 0 (by kernel_rfl) (a.map vb) _ (fun W hW => hW.2.1) hu rfl hia) (by assumption) ?_
    simp only [Act.put, List.getElem_toArray, List.getElem_cons_succ, List.getElem_cons_zero, List.setIfInBounds_toArray, List.set_cons_zero, List.set_cons_succ]
    refine wpAnyH_take (i := 18) (v := .agg (List.toArray (b.map vb))) rfl (by kernel_rfl) (by kernel_rfl) (by kernel_rfl) (fun _ _ _ h => h) (yieldsIf_load_mid (by kernel_rfl) _ (.tmp 4) (by kernel_rfl) (w.heap.size + 1) 0 (by kernel_rfl) (b.map vb) _ (fun W hW => hW.2.2.1) hu rfl hib) (by assumption) ?_
    simp only [Act.put, List.getElem_toArray, List.getElem_cons_succ, List.getElem_cons_zero, List.setIfInBounds_toArray, List.set_cons_zero, List.set_cons_succ]
    refine wpAnyH_take (i := 19) (v := ?ve20) rfl (by kernel_rfl) (by kernel_rfl) (by kernel_rfl) (fun _ _ _ h => h) (Or.inl ⟨by kernel_rfl, ?ye20⟩) (by assumption) ?re20
    case ye20 => (intro w hSw; (try dsimp only at hSw); go_simp; (try with_reducible rfl))
    simp only [Act.put, List.getElem_toArray, List.getElem_cons_succ, List.getElem_cons_zero, List.setIfInBounds_toArray, List.set_cons_zero, List.set_cons_succ]
    refine wpAnyH_take (i := 20) rfl (by kernel_rfl) (by kernel_rfl) (by kernel_rfl) (fun _ _ _ h => h) (yi_move (by kernel_rfl) rfl rfl) (by assumption) ?_
    simp only [Act.put, List.getElem_toArray, List.getElem_cons_succ, List.getElem_cons_zero, List.setIfInBounds_toArray, List.set_cons_zero, List.set_cons_succ]
    refine wpAnyH_take (i := 21) (v := .agg (List.toArray (a.map vb))) rfl (by kernel_rfl) (by kernel_rfl) (by kernel_rfl) (fun _ _ _ h => h) (yieldsIf_load_mid (by kernel_rfl) _ (.tmp 3) (by kernel_rfl) w.heap.size 0 (by kernel_rfl) (a.map vb) _ (fun W hW => hW.2.1) hu rfl hia) (by assumption) ?_
    simp only [Act.put, List.getElem_toArray, List.getElem_cons_succ, List.getElem_cons_zero, List.setIfInBounds_toArray, List.set_cons_zero, List.set_cons_succ]
    refine wpAnyH_take (i := 22) (v := .agg (List.toArray (b.map vb))) rfl (by kernel_rfl) (by kernel_rfl) (by kernel_rfl) (fun _ _ _ h => h) (yieldsIf_load_mid (by kernel_rfl) _ (.tmp 4) (by kernel_rfl) (w.heap.size + 1) 0 (by kernel_rfl) (b.map vb) _ (fun W hW => hW.2.2.1) hu rfl hib) (by assumption) ?_
    simp only [Act.put, List.getElem_toArray, List.getElem_cons_succ, List.getElem_cons_zero, List.setIfInBounds_toArray, List.set_cons_zero, List.set_cons_succ]
    refine wpAnyH_ready (rs := [23]) (by kernel_rfl) (by simp) ?_
    refine AllReadyH.cons (o := _) rfl (fun K hK => ?_) AllReadyH.nil
    go_simp
    (refine (CAB.out _ (HB13)).mono ?_; rintro e w24 ⟨rfl, HB24⟩; dsimp only)
    refine hK.out _ _ (KP.out _ (HB24)) (fun hHeld => ?_)
    clear hK K
    (try simp only [Act.put, List.getElem_toArray, List.getElem_cons_succ, List.getElem_cons_zero, List.setIfInBounds_toArray, List.set_cons_zero, List.set_cons_succ])
    refine wpAnyH_take (i := 24) (v := ?ve25) rfl (by kernel_rfl) (by kernel_rfl) (by kernel_rfl) (fun _ _ _ h => h) (Or.inl ⟨by kernel_rfl, ?ye25⟩) (by assumption) ?re25
    case ye25 => (intro w hSw; (try dsimp only at hSw); go_simp; (try with_reducible rfl))
    simp only [Act.put, List.getElem_toArray, List.getElem_cons_succ, List.getElem_cons_zero, List.setIfInBounds_toArray, List.set_cons_zero, List.set_cons_succ]
    refine wpAnyH_take (i := 25) (v := ?ve26) rfl (by kernel_rfl) (by kernel_rfl) (by kernel_rfl) (fun _ _ _ h => h) (Or.inl ⟨by kernel_rfl, ?ye26⟩) (by assumption) ?re26
    case ye26 => (intro w hSw; (try dsimp only at hSw); go_simp; (try with_reducible rfl))
    simp only [Act.put, List.getElem_toArray, List.getElem_cons_succ, List.getElem_cons_zero, List.setIfInBounds_toArray, List.set_cons_zero, List.set_cons_succ]
    refine wpAnyH_done (by kernel_rfl) ?_ _
    refine NoPanic.normal ?_
    clear HS
    have HS := HB24
    clear HB24 CAA CBA
    go_wp2_with (first
      | refine wl_load (by rfl) 27 (.tmp 3) rfl w.heap.size 0 rfl (a.map vb) _ (KP.out _ HS).2.1 hu rfl hia ?_
      | refine wl_load (by rfl) 27 (.tmp 4) rfl (w.heap.size + 1) 0 rfl (b.map vb) _ (KP.out _ HS).2.2.1 hu rfl hib ?_
      | refine wl_load (by rfl) 27 (.tmp 5) rfl (w.heap.size + 1 + 1) 0 rfl (c.map vb) _ (KP.out _ HS).2.2.2 hu rfl hic ?_
      | (go_at_call 17; refine (CAB.out _ HS).mono ?_; clear HS CAB; rintro e w' ⟨rfl, HS⟩)
      | (go_at_call 17; refine (CBC.out _ HS).mono ?_; clear HS CBC; rintro e w' ⟨rfl, HS⟩)
      | (go_at_call 17; refine (CAC.out _ HS).mono ?_; clear HS CAC; rintro e w' ⟨rfl, HS⟩))
    go_ret
    exact ⟨rfl, HW'.out _ HS⟩
  · rw [decide_eq_false h0] at hEq
    by_cases hbc : ltB b c = true
    · rw [HT h1 hbc] at CAC
      rw [h1] at CAB; rw [h2] at CBA; rw [hbc] at CBC
      have CAB := hidI CAB; have CBA := hidI CBA; have CBC := hidI CBC; have CAC := hidI CAC
      clear h0 h1 h2 HT hbc
      refine wp_region_noPanic ?_
      refine wp_region_held_drew (S := (fun W => Below (w.heap.size + 3) W3 W ∧ W.rangeAt w.heap.size 0 (a.map vb) ∧ W.rangeAt (w.heap.size + 1) 0 (b.map vb) ∧ W.rangeAt (w.heap.size + 1 + 1) 0 (c.map vb))) (by kernel_rfl) (KP.out _ (HS.drew)) (fun hHeld => ?_)
      refine wpAnyH_take (i := 0) (v := .agg (List.toArray (a.map vb))) rfl (by kernel_rfl) (by kernel_rfl) (by kernel_rfl) (fun _ _ _ h => h) (yieldsIf_load_mid (by kernel_rfl) _ (.tmp 3) (by kernel_rfl) w.heap.size 0 (by kernel_rfl) (a.map vb) _ (fun W hW => hW.2.1) hu rfl hia) (by assumption) ?_
      simp only [Act.put, List.getElem_toArray, List.getElem_cons_succ, List.getElem_cons_zero, List.setIfInBounds_toArray, List.set_cons_zero, List.set_cons_succ]
      refine wpAnyH_take (i := 1) (v := .agg (List.toArray (a.map vb))) rfl (by kernel_rfl) (by kernel_rfl) (by kernel_rfl) (fun _ _ _ h => h) (yieldsIf_load_mid (by kernel_rfl) _ (.tmp 3) (by kernel_rfl) w.heap.size 0 (by kernel_rfl) (a.map vb) _ (fun W hW => hW.2.1) hu rfl hia) (by assumption) ?_
      simp only [Act.put, List.getElem_toArray, List.getElem_cons_succ, List.getElem_cons_zero, List.setIfInBounds_toArray, List.set_cons_zero, List.set_cons_succ]
      refine wpAnyH_ready (rs := [2]) (by kernel_rfl) (by simp) ?_
      refine AllReadyH.cons (o := _) rfl (fun K hK => ?_) AllReadyH.nil
      go_simp
      (refine (CAA.out _ (HS.drew)).mono ?_; rintro e w3 ⟨rfl, HB3⟩; dsimp only)
      refine hK.out _ _ (KP.out _ (HB3)) (fun hHeld => ?_)
      clear hK K
      (try simp only [Act.put, List.getElem_toArray, List.getElem_cons_succ, List.getElem_cons_zero, List.setIfInBounds_toArray, List.set_cons_zero, List.set_cons_succ])
      refine wpAnyH_take (i := 3) rfl (by kernel_rfl) (by kernel_rfl) (by kernel_rfl) (fun _ _ _ h => h) (yi_move (by kernel_rfl) rfl rfl) (by assumption) ?_
      simp only [Act.put, List.getElem_toArray, List.getElem_cons_succ, List.getElem_cons_zero, List.setIfInBounds_toArray, List.set_cons_zero, List.set_cons_succ]
      refine wpAnyH_take (i := 4) (v := .agg (List.toArray (a.map vb))) rfl (by kernel_rfl) (by kernel_rfl) (by kernel_rfl) (fun _ _ _ h => h) (yieldsIf_load_mid (by kernel_rfl) _ (.tmp 3) (by kernel_rfl) w.heap.size 0 (by kernel_rfl) (a.map vb) _ (fun W hW => hW.2.1) hu rfl hia) (by assumption) ?_
      simp only [Act.put, List.getElem_toArray, List.getElem_cons_succ, List.getElem_cons_zero, List.setIfInBounds_toArray, List.set_cons_zero, List.set_cons_succ]
      refine wpAnyH_take (i := 5) (v := .agg (List.toArray (b.map vb))) rfl (by kernel_rfl) (by kernel_rfl) (by kernel_rfl) (fun _ _ _ h => h) (yieldsIf_load_mid (by kernel_rfl) _ (.tmp 4) (by kernel_rfl) (w.heap.size + 1) 0 (by kernel_rfl) (b.map vb) _ (fun W hW => hW.2.2.1) hu rfl hib) (by assumption) ?_
      simp only [Act.put, List.getElem_toArray, List.getElem_cons_succ, List.getElem_cons_zero, List.setIfInBounds_toArray, List.set_cons_zero, List.set_cons_succ]
      refine wpAnyH_take (i := 6) (v := ?vp7) rfl (by kernel_rfl) (by kernel_rfl) (by kernel_rfl) (fun _ _ _ h => h) (Or.inl ⟨by kernel_rfl, ?yp7⟩) (by assumption) ?rp7
      case yp7 => (intro w hSw; (try dsimp only at hSw); go_simp; (try with_reducible rfl))
      simp only [Act.put, List.getElem_toArray, List.getElem_cons_succ, List.getElem_cons_zero, List.setIfInBounds_toArray, List.set_cons_zero, List.set_cons_succ]
      refine wpAnyH_take (i := 7) (v := .agg (List.toArray (a.map vb))) rfl (by kernel_rfl) (by kernel_rfl) (by kernel_rfl) (fun _ _ _ h => h) (yieldsIf_load_mid (by kernel_rfl) _ (.tmp 3) (by kernel_rfl) w.heap.size 0 (by kernel_rfl) (a.map vb) _ (fun W hW => hW.2.1) hu rfl hia) (by assumption) ?_
      simp only [Act.put, List.getElem_toArray, List.getElem_cons_succ, List.getElem_cons_zero, List.setIfInBounds_toArray, List.set_cons_zero, List.set_cons_succ]
      refine wpAnyH_take (i := 8) (v := .agg (List.toArray (b.map vb))) rfl (by kernel_rfl) (by kernel_rfl) (by kernel_rfl) (fun _ _ _ h => h) (yieldsIf_load_mid (by kernel_rfl) _ (.tmp 4) (by kernel_rfl) (w.heap.size + 1) 0 (by kernel_rfl) (b.map vb) _ (fun W hW => hW.2.2.1) hu rfl hib) (by assumption) ?_
      simp only [Act.put, List.getElem_toArray, List.getElem_cons_succ, List.getElem_cons_zero, List.setIfInBounds_toArray, List.set_cons_zero, List.set_cons_succ]
      refine wpAnyH_take (i := 10) (v := .agg (List.toArray (b.map vb))) rfl (by kernel_rfl) (by kernel_rfl) (by kernel_rfl) (fun _ _ _ h => h) (yieldsIf_load_mid (by kernel_rfl) _ (.tmp 4) (by kernel_rfl) (w.heap.size + 1) 0 (by kernel_rfl) (b.map vb) _ (fun W hW => hW.2.2.1) hu rfl hib) (by assumption) ?_
      simp only [Act.put, List.getElem_toArray, List.getElem_cons_succ, List.getElem_cons_zero, List.setIfInBounds_toArray, List.set_cons_zero, List.set_cons_succ]
      refine wpAnyH_take (i := 11) (v := .agg (List.toArray (a.map vb))) rfl (by kernel_rfl) (by kernel_rfl) (by kernel_rfl) (fun _ _ _ h => h) (yieldsIf_load_mid (by kernel_rfl) _ (.tmp 3) (by kernel_rfl) w.heap.size 0 (by kernel_rfl) (a.map vb) _ (fun W hW => hW.2.1) hu rfl hia) (by assumption) ?_
      simp only [Act.put, List.getElem_toArray, List.getElem_cons_succ, List.getElem_cons_zero, List.setIfInBounds_toArray, List.set_cons_zero, List.set_cons_succ]
      refine wpAnyH_ready (rs := [9]) (by kernel_rfl) (by simp) ?_
      refine AllReadyH.cons (o := _) rfl (fun K hK => ?_) AllReadyH.nil
      go_simp
      (refine (CAB.out _ (HB3)).mono ?_; rintro e w12 ⟨rfl, HB12⟩; dsimp only)
      refine hK.out _ _ (KP.out _ (HB12)) (fun hHeld => ?_)
      clear hK K
      (try simp only [Act.put, List.getElem_toArray, List.getElem_cons_succ, List.getElem_cons_zero, List.setIfInBounds_toArray, List.set_cons_zero, List.set_cons_succ])
      refine wpAnyH_ready (rs := [12]) (by kernel_rfl) (by simp) ?_
      refine AllReadyH.cons (o := _) rfl (fun K hK => ?_) AllReadyH.nil
      go_simp
      (refine (CBA.out _ (HB12)).mono ?_; rintro e w13 ⟨rfl, HB13⟩; dsimp only)
      refine hK.out _ _ (KP.out _ (HB13)) (fun hHeld => ?_)
      clear hK K
      (try simp only [Act.put, List.getElem_toArray, List.getElem_cons_succ, List.getElem_cons_zero, List.setIfInBounds_toArray, List.set_cons_zero, List.set_cons_succ])
      refine wpAnyH_take (i := 13) (v := ?vp14) rfl (by kernel_rfl) (by kernel_rfl) (by kernel_rfl) (fun _ _ _ h => h) (Or.inl ⟨by kernel_rfl, ?yp14⟩) (by assumption) ?rp14
      case yp14 => (intro w hSw; (try dsimp only at hSw); go_simp; (try with_reducible rfl))
      simp only [Act.put, List.getElem_toArray, List.getElem_cons_succ, List.getElem_cons_zero, List.setIfInBounds_toArray, List.set_cons_zero, List.set_cons_succ]
      refine wpAnyH_take (i := 14) (v := ?vp15) rfl (by kernel_rfl) (by kernel_rfl) (by kernel_rfl) (fun _ _ _ h => h) (Or.inl ⟨by kernel_rfl, ?yp15⟩) (by assumption) ?rp15
      case yp15 => (intro w hSw; (try dsimp only at hSw); go_simp; (try with_reducible rfl))
      simp only [Act.put, List.getElem_toArray, List.getElem_cons_succ, List.getElem_cons_zero, List.setIfInBounds_toArray, List.set_cons_zero, List.set_cons_succ]
      refine wpAnyH_take (i := 15) (v := ?vp16) rfl (by kernel_rfl) (by kernel_rfl) (by kernel_rfl) (fun _ _ _ h => h) (Or.inl ⟨by kernel_rfl, ?yp16⟩) (by assumption) ?rp16
      case yp16 => (intro w hSw; (try dsimp only at hSw); go_simp; (try with_reducible rfl))
      simp only [Act.put, List.getElem_toArray, List.getElem_cons_succ, List.getElem_cons_zero, List.setIfInBounds_toArray, List.set_cons_zero, List.set_cons_succ]
      refine wpAnyH_take (i := 16) rfl (by kernel_rfl) (by kernel_rfl) (by kernel_rfl) (fun _ _ _ h => h) (yi_move (by kernel_rfl) rfl rfl) (by assumption) ?_
      simp only [Act.put, List.getElem_toArray, List.getElem_cons_succ, List.getElem_cons_zero, List.setIfInBounds_toArray, List.set_cons_zero, List.set_cons_succ]
      refine wpAnyH_take (i := 17) (v := .agg (List.toArray (a.map vb))) rfl (by kernel_rfl) (by kernel_rfl) (by kernel_rfl) (fun _ _ _ h => h) (yieldsIf_load_mid (by kernel_rfl) _ (.tmp 3) (by kernel_rfl) w.heap.size 0 (by kernel_rfl) (a.map vb) _ (fun W hW => hW.2.1) hu rfl hia) (by assumption) ?_
      simp only [Act.put, List.getElem_toArray, List.getElem_cons_succ, List.getElem_cons_zero, List.setIfInBounds_toArray, List.set_cons_zero, List.set_cons_succ]
      refine wpAnyH_take (i := 18) (v := .agg (List.toArray (b.map vb))) rfl (by kernel_rfl) (by kernel_rfl) (by kernel_rfl) (fun _ _ _ h => h) (yieldsIf_load_mid (by kernel_rfl) _ (.tmp 4) (by kernel_rfl) (w.heap.size + 1) 0 (by kernel_rfl) (b.map vb) _ (fun W hW => hW.2.2.1) hu rfl hib) (by assumption) ?_
      simp only [Act.put, List.getElem_toArray, List.getElem_cons_succ, List.getElem_cons_zero, List.setIfInBounds_toArray, List.set_cons_zero, List.set_cons_succ]
      refine wpAnyH_take (i := 19) (v := ?vp20) rfl (by kernel_rfl) (by kernel_rfl) (by kernel_rfl) (fun _ _ _ h => h) (Or.inl ⟨by kernel_rfl, ?yp20⟩) (by assumption) ?rp20
      case yp20 => (intro w hSw; (try dsimp only at hSw); go_simp; (try with_reducible rfl))
      simp only [Act.put, List.getElem_toArray, List.getElem_cons_succ, List.getElem_cons_zero, List.setIfInBounds_toArray, List.set_cons_zero, List.set_cons_succ]
      refine wpAnyH_take (i := 20) rfl (by kernel_rfl) (by kernel_rfl) (by kernel_rfl) (fun _ _ _ h => h) (yi_move (by kernel_rfl) rfl rfl) (by assumption) ?_
      simp only [Act.put, List.getElem_toArray, List.getElem_cons_succ, List.getElem_cons_zero, List.setIfInBounds_toArray, List.set_cons_zero, List.set_cons_succ]
      refine wpAnyH_take (i := 21) (v := undef) rfl (by kernel_rfl) (by kernel_rfl) (by kernel_rfl) (fun _ _ _ h => h) (Or.inr ⟨by kernel_rfl, rfl⟩) (by assumption) ?_
      simp only [Act.put, List.getElem_toArray, List.getElem_cons_succ, List.getElem_cons_zero, List.setIfInBounds_toArray, List.set_cons_zero, List.set_cons_succ]
      refine wpAnyH_take (i := 22) (v := undef) rfl (by kernel_rfl) (by kernel_rfl) (by kernel_rfl) (fun _ _ _ h => h) (Or.inr ⟨by kernel_rfl, rfl⟩) (by assumption) ?_
      simp only [Act.put, List.getElem_toArray, List.getElem_cons_succ, List.getElem_cons_zero, List.setIfInBounds_toArray, List.set_cons_zero, List.set_cons_succ]
      refine wpAnyH_take (i := 23) (v := undef) rfl (by kernel_rfl) (by kernel_rfl) (by kernel_rfl) (fun _ _ _ h => h) (Or.inr ⟨by kernel_rfl, rfl⟩) (by assumption) ?_
      simp only [Act.put, List.getElem_toArray, List.getElem_cons_succ, List.getElem_cons_zero, List.setIfInBounds_toArray, List.set_cons_zero, List.set_cons_succ]
      refine wpAnyH_take (i := 24) (v := ?vp25) rfl (by kernel_rfl) (by kernel_rfl) (by kernel_rfl) (fun _ _ _ h => h) (Or.inl ⟨by kernel_rfl, ?yp25⟩) (by assumption) ?rp25
      case yp25 => (intro w hSw; (try dsimp only at hSw); go_simp; (try with_reducible rfl))
      simp only [Act.put, List.getElem_toArray, List.getElem_cons_succ, List.getElem_cons_zero, List.setIfInBounds_toArray, List.set_cons_zero, List.set_cons_succ]
      refine wpAnyH_take (i := 25) (v := ?vp26) rfl (by kernel_rfl) (by kernel_rfl) (by kernel_rfl) (fun _ _ _ h => h) (Or.inl ⟨by kernel_rfl, ?yp26⟩) (by assumption) ?rp26
      case yp26 => (intro w hSw; (try dsimp only at hSw); go_simp; (try with_reducible rfl))
      simp only [Act.put, List.getElem_toArray, List.getElem_cons_succ, List.getElem_cons_zero, List.setIfInBounds_toArray, List.set_cons_zero, List.set_cons_succ]
      refine wpAnyH_done (by kernel_rfl) ?_ _
      refine NoPanic.normal ?_
      clear HS
      have HS := HB13
      clear HB13 CAA CBA
      go_wp2_with (first
        | refine wl_load (by rfl) 27 (.tmp 3) rfl w.heap.size 0 rfl (a.map vb) _ (KP.out _ HS).2.1 hu rfl hia ?_
        | refine wl_load (by rfl) 27 (.tmp 4) rfl (w.heap.size + 1) 0 rfl (b.map vb) _ (KP.out _ HS).2.2.1 hu rfl hib ?_
        | refine wl_load (by rfl) 27 (.tmp 5) rfl (w.heap.size + 1 + 1) 0 rfl (c.map vb) _ (KP.out _ HS).2.2.2 hu rfl hic ?_
        | (go_at_call 17; refine (CAB.out _ HS).mono ?_; clear HS CAB; rintro e w' ⟨rfl, HS⟩)
        | (go_at_call 17; refine (CBC.out _ HS).mono ?_; clear HS CBC; rintro e w' ⟨rfl, HS⟩)
        | (go_at_call 17; refine (CAC.out _ HS).mono ?_; clear HS CAC; rintro e w' ⟨rfl, HS⟩))
      go_ret
      exact ⟨rfl, HW'.out _ HS⟩
    · have hbc : ltB b c = false := by simpa using hbc
      rw [h1] at CAB; rw [h2] at CBA; rw [hbc] at CBC
      have CAB := hidI CAB; have CBA := hidI CBA; have CBC := hidI CBC; have CAC := hidI CAC
      clear h0 h1 h2 HT hbc
      refine wp_region_noPanic ?_
      refine wp_region_held_drew (S := (fun W => Below (w.heap.size + 3) W3 W ∧ W.rangeAt w.heap.size 0 (a.map vb) ∧ W.rangeAt (w.heap.size + 1) 0 (b.map vb) ∧ W.rangeAt (w.heap.size + 1 + 1) 0 (c.map vb))) (by kernel_rfl) (KP.out _ (HS.drew)) (fun hHeld => ?_)
      refine wpAnyH_take (i := 0) (v := .agg (List.toArray (a.map vb))) rfl (by kernel_rfl) (by kernel_rfl) (by kernel_rfl) (fun _ _ _ h => h) (yieldsIf_load_mid (by kernel_rfl) _ (.tmp 3) (by kernel_rfl) w.heap.size 0 (by kernel_rfl) (a.map vb) _ (fun W hW => hW.2.1) hu rfl hia) (by assumption) ?_
      simp only [Act.put, List.getElem_toArray, List.getElem_cons_succ, List.getElem_cons_zero, List.setIfInBounds_toArray, List.set_cons_zero, List.set_cons_succ]
      refine wpAnyH_take (i := 1) (v := .agg (List.toArray (a.map vb))) rfl (by kernel_rfl) (by kernel_rfl) (by kernel_rfl) (fun _ _ _ h => h) (yieldsIf_load_mid (by kernel_rfl) _ (.tmp 3) (by kernel_rfl) w.heap.size 0 (by kernel_rfl) (a.map vb) _ (fun W hW => hW.2.1) hu rfl hia) (by assumption) ?_
      simp only [Act.put, List.getElem_toArray, List.getElem_cons_succ, List.getElem_cons_zero, List.setIfInBounds_toArray, List.set_cons_zero, List.set_cons_succ]
      refine wpAnyH_ready (rs := [2]) (by kernel_rfl) (by simp) ?_
      refine AllReadyH.cons (o := _) rfl (fun K hK => ?_) AllReadyH.nil
      go_simp
      (refine (CAA.out _ (HS.drew)).mono ?_; rintro e w3 ⟨rfl, HB3⟩; dsimp only)
      refine hK.out _ _ (KP.out _ (HB3)) (fun hHeld => ?_)
      clear hK K
      (try simp only [Act.put, List.getElem_toArray, List.getElem_cons_succ, List.getElem_cons_zero, List.setIfInBounds_toArray, List.set_cons_zero, List.set_cons_succ])
      refine wpAnyH_take (i := 3) rfl (by kernel_rfl) (by kernel_rfl) (by kernel_rfl) (fun _ _ _ h => h) (yi_move (by kernel_rfl) rfl rfl) (by assumption) ?_
      simp only [Act.put, List.getElem_toArray, List.getElem_cons_succ, List.getElem_cons_zero, List.setIfInBounds_toArray, List.set_cons_zero, List.set_cons_succ]
      refine wpAnyH_take (i := 4) (v := .agg (List.toArray (a.map vb))) rfl (by kernel_rfl) (by kernel_rfl) (by kernel_rfl) (fun _ _ _ h => h) (yieldsIf_load_mid (by kernel_rfl) _ (.tmp 3) (by kernel_rfl) w.heap.size 0 (by kernel_rfl) (a.map vb) _ (fun W hW => hW.2.1) hu rfl hia) (by assumption) ?_
      simp only [Act.put, List.getElem_toArray, List.getElem_cons_succ, List.getElem_cons_zero, List.setIfInBounds_toArray, List.set_cons_zero, List.set_cons_succ]
      refine wpAnyH_take (i := 5) (v := .agg (List.toArray (b.map vb))) rfl (by kernel_rfl) (by kernel_rfl) (by kernel_rfl) (fun _ _ _ h => h) (yieldsIf_load_mid (by kernel_rfl) _ (.tmp 4) (by kernel_rfl) (w.heap.size + 1) 0 (by kernel_rfl) (b.map vb) _ (fun W hW => hW.2.2.1) hu rfl hib) (by assumption) ?_
      simp only [Act.put, List.getElem_toArray, List.getElem_cons_succ, List.getElem_cons_zero, List.setIfInBounds_toArray, List.set_cons_zero, List.set_cons_succ]
      refine wpAnyH_take (i := 6) (v := ?vq7) rfl (by kernel_rfl) (by kernel_rfl) (by kernel_rfl) (fun _ _ _ h => h) (Or.inl ⟨by kernel_rfl, ?yq7⟩) (by assumption) ?rq7
      case yq7 => (intro w hSw; (try dsimp only at hSw); go_simp; (try with_reducible rfl))
      simp only [Act.put, List.getElem_toArray, List.getElem_cons_succ, List.getElem_cons_zero, List.setIfInBounds_toArray, List.set_cons_zero, List.set_cons_succ]
      refine wpAnyH_take (i := 7) (v := .agg (List.toArray (a.map vb))) rfl (by kernel_rfl) (by kernel_rfl) (by kernel_rfl) (fun _ _ _ h => h) (yieldsIf_load_mid (by kernel_rfl) _ (.tmp 3) (by kernel_rfl) w.heap.size 0 (by kernel_rfl) (a.map vb) _ (fun W hW => hW.2.1) hu rfl hia) (by assumption) ?_
      simp only [Act.put, List.getElem_toArray, List.getElem_cons_succ, List.getElem_cons_zero, List.setIfInBounds_toArray, List.set_cons_zero, List.set_cons_succ]
      refine wpAnyH_take (i := 8) (v := .agg (List.toArray (b.map vb))) rfl (by kernel_rfl) (by kernel_rfl) (by kernel_rfl) (fun _ _ _ h => h) (yieldsIf_load_mid (by kernel_rfl) _ (.tmp 4) (by kernel_rfl) (w.heap.size + 1) 0 (by kernel_rfl) (b.map vb) _ (fun W hW => hW.2.2.1) hu rfl hib) (by assumption) ?_
      simp only [Act.put, List.getElem_toArray, List.getElem_cons_succ, List.getElem_cons_zero, List.setIfInBounds_toArray, List.set_cons_zero, List.set_cons_succ]
      refine wpAnyH_take (i := 10) (v := .agg (List.toArray (b.map vb))) rfl (by kernel_rfl) (by kernel_rfl) (by kernel_rfl) (fun _ _ _ h => h) (yieldsIf_load_mid (by kernel_rfl) _ (.tmp 4) (by kernel_rfl) (w.heap.size + 1) 0 (by kernel_rfl) (b.map vb) _ (fun W hW => hW.2.2.1) hu rfl hib) (by assumption) ?_
      simp only [Act.put, List.getElem_toArray, List.getElem_cons_succ, List.getElem_cons_zero, List.setIfInBounds_toArray, List.set_cons_zero, List.set_cons_succ]
      refine wpAnyH_take (i := 11) (v := .agg (List.toArray (a.map vb))) rfl (by kernel_rfl) (by kernel_rfl) (by kernel_rfl) (fun _ _ _ h => h) (yieldsIf_load_mid (by kernel_rfl) _ (.tmp 3) (by kernel_rfl) w.heap.size 0 (by kernel_rfl) (a.map vb) _ (fun W hW => hW.2.1) hu rfl hia) (by assumption) ?_
      simp only [Act.put, List.getElem_toArray, List.getElem_cons_succ, List.getElem_cons_zero, List.setIfInBounds_toArray, List.set_cons_zero, List.set_cons_succ]
      refine wpAnyH_ready (rs := [9]) (by kernel_rfl) (by simp) ?_
      refine AllReadyH.cons (o := _) rfl (fun K hK => ?_) AllReadyH.nil
      go_simp
      (refine (CAB.out _ (HB3)).mono ?_; rintro e w12 ⟨rfl, HB12⟩; dsimp only)
      refine hK.out _ _ (KP.out _ (HB12)) (fun hHeld => ?_)
      clear hK K
      (try simp only [Act.put, List.getElem_toArray, List.getElem_cons_succ, List.getElem_cons_zero, List.setIfInBounds_toArray, List.set_cons_zero, List.set_cons_succ])
      refine wpAnyH_ready (rs := [12]) (by kernel_rfl) (by simp) ?_
      refine AllReadyH.cons (o := _) rfl (fun K hK => ?_) AllReadyH.nil
      go_simp
      (refine (CBA.out _ (HB12)).mono ?_; rintro e w13 ⟨rfl, HB13⟩; dsimp only)
      refine hK.out _ _ (KP.out _ (HB13)) (fun hHeld => ?_)
      clear hK K
      (try simp only [Act.put, List.getElem_toArray, List.getElem_cons_succ, List.getElem_cons_zero, List.setIfInBounds_toArray, List.set_cons_zero, List.set_cons_succ])
      refine wpAnyH_take (i := 13) (v := ?vq14) rfl (by kernel_rfl) (by kernel_rfl) (by kernel_rfl) (fun _ _ _ h => h) (Or.inl ⟨by kernel_rfl, ?yq14⟩) (by assumption) ?rq14
      case yq14 => (intro w hSw; (try dsimp only at hSw); go_simp; (try with_reducible rfl))
      simp only [Act.put, List.getElem_toArray, List.getElem_cons_succ, List.getElem_cons_zero, List.setIfInBounds_toArray, List.set_cons_zero, List.set_cons_succ]
      refine wpAnyH_take (i := 14) (v := ?vq15) rfl (by kernel_rfl) (by kernel_rfl) (by kernel_rfl) (fun _ _ _ h => h) (Or.inl ⟨by kernel_rfl, ?yq15⟩) (by assumption) ?rq15
      case yq15 => (intro w hSw; (try dsimp only at hSw); go_simp; (try with_reducible rfl))
      simp only [Act.put, List.getElem_toArray, List.getElem_cons_succ, List.getElem_cons_zero, List.setIfInBounds_toArray, List.set_cons_zero, List.set_cons_succ]
      refine wpAnyH_take (i := 15) (v := ?vq16) rfl (by kernel_rfl) (by kernel_rfl) (by kernel_rfl) (fun _ _ _ h => h) (Or.inl ⟨by kernel_rfl, ?yq16⟩) (by assumption) ?rq16
      case yq16 => (intro w hSw; (try dsimp only at hSw); go_simp; (try with_reducible rfl))
      simp only [Act.put, List.getElem_toArray, List.getElem_cons_succ, List.getElem_cons_zero, List.setIfInBounds_toArray, List.set_cons_zero, List.set_cons_succ]
      refine wpAnyH_take (i := 16) rfl (by kernel_rfl) (by kernel_rfl) (by kernel_rfl) (fun _ _ _ h => h) (yi_move (by kernel_rfl) rfl rfl) (by assumption) ?_
      simp only [Act.put, List.getElem_toArray, List.getElem_cons_succ, List.getElem_cons_zero, List.setIfInBounds_toArray, List.set_cons_zero, List.set_cons_succ]
      refine wpAnyH_take (i := 17) (v := .agg (List.toArray (a.map vb))) rfl (by kernel_rfl) (by kernel_rfl) (by kernel_rfl) (fun _ _ _ h => h) (yieldsIf_load_mid (by kernel_rfl) _ (.tmp 3) (by kernel_rfl) w.heap.size 0 (by kernel_rfl) (a.map vb) _ (fun W hW => hW.2.1) hu rfl hia) (by assumption) ?_
      simp only [Act.put, List.getElem_toArray, List.getElem_cons_succ, List.getElem_cons_zero, List.setIfInBounds_toArray, List.set_cons_zero, List.set_cons_succ]
      refine wpAnyH_take (i := 18) (v := .agg (List.toArray (b.map vb))) rfl (by kernel_rfl) (by kernel_rfl) (by kernel_rfl) (fun _ _ _ h => h) (yieldsIf_load_mid (by kernel_rfl) _ (.tmp 4) (by kernel_rfl) (w.heap.size + 1) 0 (by kernel_rfl) (b.map vb) _ (fun W hW => hW.2.2.1) hu rfl hib) (by assumption) ?_
      simp only [Act.put, List.getElem_toArray, List.getElem_cons_succ, List.getElem_cons_zero, List.setIfInBounds_toArray, List.set_cons_zero, List.set_cons_succ]
      refine wpAnyH_take (i := 19) (v := ?vq20) rfl (by kernel_rfl) (by kernel_rfl) (by kernel_rfl) (fun _ _ _ h => h) (Or.inl ⟨by kernel_rfl, ?yq20⟩) (by assumption) ?rq20
      case yq20 => (intro w hSw; (try dsimp only at hSw); go_simp; (try with_reducible rfl))
      simp only [Act.put, List.getElem_toArray, List.getElem_cons_succ, List.getElem_cons_zero, List.setIfInBounds_toArray, List.set_cons_zero, List.set_cons_succ]
      refine wpAnyH_take (i := 20) rfl (by kernel_rfl) (by kernel_rfl) (by kernel_rfl) (fun _ _ _ h => h) (yi_move (by kernel_rfl) rfl rfl) (by assumption) ?_
      simp only [Act.put, List.getElem_toArray, List.getElem_cons_succ, List.getElem_cons_zero, List.setIfInBounds_toArray, List.set_cons_zero, List.set_cons_succ]
      refine wpAnyH_take (i := 21) (v := undef) rfl (by kernel_rfl) (by kernel_rfl) (by kernel_rfl) (fun _ _ _ h => h) (Or.inr ⟨by kernel_rfl, rfl⟩) (by assumption) ?_
      simp only [Act.put, List.getElem_toArray, List.getElem_cons_succ, List.getElem_cons_zero, List.setIfInBounds_toArray, List.set_cons_zero, List.set_cons_succ]
      refine wpAnyH_take (i := 22) (v := undef) rfl (by kernel_rfl) (by kernel_rfl) (by kernel_rfl) (fun _ _ _ h => h) (Or.inr ⟨by kernel_rfl, rfl⟩) (by assumption) ?_
      simp only [Act.put, List.getElem_toArray, List.getElem_cons_succ, List.getElem_cons_zero, List.setIfInBounds_toArray, List.set_cons_zero, List.set_cons_succ]
      refine wpAnyH_take (i := 23) (v := undef) rfl (by kernel_rfl) (by kernel_rfl) (by kernel_rfl) (fun _ _ _ h => h) (Or.inr ⟨by kernel_rfl, rfl⟩) (by assumption) ?_
      simp only [Act.put, List.getElem_toArray, List.getElem_cons_succ, List.getElem_cons_zero, List.setIfInBounds_toArray, List.set_cons_zero, List.set_cons_succ]
      refine wpAnyH_take (i := 24) (v := ?vq25) rfl (by kernel_rfl) (by kernel_rfl) (by kernel_rfl) (fun _ _ _ h => h) (Or.inl ⟨by kernel_rfl, ?yq25⟩) (by assumption) ?rq25
      case yq25 => (intro w hSw; (try dsimp only at hSw); go_simp; (try with_reducible rfl))
      simp only [Act.put, List.getElem_toArray, List.getElem_cons_succ, List.getElem_cons_zero, List.setIfInBounds_toArray, List.set_cons_zero, List.set_cons_succ]
      refine wpAnyH_take (i := 25) (v := ?vq26) rfl (by kernel_rfl) (by kernel_rfl) (by kernel_rfl) (fun _ _ _ h => h) (Or.inl ⟨by kernel_rfl, ?yq26⟩) (by assumption) ?rq26
      case yq26 => (intro w hSw; (try dsimp only at hSw); go_simp; (try with_reducible rfl))
      simp only [Act.put, List.getElem_toArray, List.getElem_cons_succ, List.getElem_cons_zero, List.setIfInBounds_toArray, List.set_cons_zero, List.set_cons_succ]
      refine wpAnyH_done (by kernel_rfl) ?_ _
      refine NoPanic.normal ?_
      clear HS
      have HS := HB13
      clear HB13 CAA CBA
      go_wp2_with (first
        | refine wl_load (by rfl) 27 (.tmp 3) rfl w.heap.size 0 rfl (a.map vb) _ (KP.out _ HS).2.1 hu rfl hia ?_
        | refine wl_load (by rfl) 27 (.tmp 4) rfl (w.heap.size + 1) 0 rfl (b.map vb) _ (KP.out _ HS).2.2.1 hu rfl hib ?_
        | refine wl_load (by rfl) 27 (.tmp 5) rfl (w.heap.size + 1 + 1) 0 rfl (c.map vb) _ (KP.out _ HS).2.2.2 hu rfl hic ?_
        | (go_at_call 17; refine (CAB.out _ HS).mono ?_; clear HS CAB; rintro e w' ⟨rfl, HS⟩)
        | (go_at_call 17; refine (CBC.out _ HS).mono ?_; clear HS CBC; rintro e w' ⟨rfl, HS⟩)
        | (go_at_call 17; refine (CAC.out _ HS).mono ?_; clear HS CAC; rintro e w' ⟨rfl, HS⟩))
      go_ret
      exact ⟨rfl, HW'.out _ HS⟩
  · rw [decide_eq_false h0] at hEq
    rw [h1] at CAB; rw [h2] at CBA
    have CAB := hidI CAB; have CBA := hidI CBA; have CBC := hidI CBC; have CAC := hidI CAC
    clear h0 h1 h2 HT
    refine wp_region_noPanic ?_
    refine wp_region_held_drew (S := (fun W => Below (w.heap.size + 3) W3 W ∧ W.rangeAt w.heap.size 0 (a.map vb) ∧ W.rangeAt (w.heap.size + 1) 0 (b.map vb) ∧ W.rangeAt (w.heap.size + 1 + 1) 0 (c.map vb))) (by kernel_rfl) (KP.out _ (HS.drew)) (fun hHeld => ?_)
    refine wpAnyH_take (i := 0) (v := .agg (List.toArray (a.map vb))) rfl (by kernel_rfl) (by kernel_rfl) (by kernel_rfl) (fun _ _ _ h => h) (yieldsIf_load_mid (by kernel_rfl) _ (.tmp 3) (by kernel_rfl) w.heap.size 0 (by kernel_rfl) (a.map vb) _ (fun W hW => hW.2.1) hu rfl hia) (by assumption) ?_
    simp only [Act.put, List.getElem_toArray, List.getElem_cons_succ, List.getElem_cons_zero, List.setIfInBounds_toArray, List.set_cons_zero, List.set_cons_succ]
    refine wpAnyH_take (i := 1) (v := .agg (List.toArray (a.map vb))) rfl (by kernel_rfl) (by kernel_rfl) (by kernel_rfl) (fun _ _ _ h => h) (yieldsIf_load_mid (by kernel_rfl) _ (.tmp 3) (by kernel_rfl) w.heap.size 0 (by kernel_rfl) (a.map vb) _ (fun W hW => hW.2.1) hu rfl hia) (by assumption) ?_
    simp only [Act.put, List.getElem_toArray, List.getElem_cons_succ, List.getElem_cons_zero, List.setIfInBounds_toArray, List.set_cons_zero, List.set_cons_succ]
    refine wpAnyH_ready (rs := [2]) (by kernel_rfl) (by simp) ?_
    refine AllReadyH.cons (o := _) rfl (fun K hK => ?_) AllReadyH.nil
    go_simp
    (refine (CAA.out _ (HS.drew)).mono ?_; rintro e w3 ⟨rfl, HB3⟩; dsimp only)
    refine hK.out _ _ (KP.out _ (HB3)) (fun hHeld => ?_)
    clear hK K
    (try simp only [Act.put, List.getElem_toArray, List.getElem_cons_succ, List.getElem_cons_zero, List.setIfInBounds_toArray, List.set_cons_zero, List.set_cons_succ])
    refine wpAnyH_take (i := 3) rfl (by kernel_rfl) (by kernel_rfl) (by kernel_rfl) (fun _ _ _ h => h) (yi_move (by kernel_rfl) rfl rfl) (by assumption) ?_
    simp only [Act.put, List.getElem_toArray, List.getElem_cons_succ, List.getElem_cons_zero, List.setIfInBounds_toArray, List.set_cons_zero, List.set_cons_succ]
    refine wpAnyH_take (i := 4) (v := .agg (List.toArray (a.map vb))) rfl (by kernel_rfl) (by kernel_rfl) (by kernel_rfl) (fun _ _ _ h => h) (yieldsIf_load_mid (by kernel_rfl) _ (.tmp 3) (by kernel_rfl) w.heap.size 0 (by kernel_rfl) (a.map vb) _ (fun W hW => hW.2.1) hu rfl hia) (by assumption) ?_
    simp only [Act.put, List.getElem_toArray, List.getElem_cons_succ, List.getElem_cons_zero, List.setIfInBounds_toArray, List.set_cons_zero, List.set_cons_succ]
    refine wpAnyH_take (i := 5) (v := .agg (List.toArray (b.map vb))) rfl (by kernel_rfl) (by kernel_rfl) (by kernel_rfl) (fun _ _ _ h => h) (yieldsIf_load_mid (by kernel_rfl) _ (.tmp 4) (by kernel_rfl) (w.heap.size + 1) 0 (by kernel_rfl) (b.map vb) _ (fun W hW => hW.2.2.1) hu rfl hib) (by assumption) ?_
    simp only [Act.put, List.getElem_toArray, List.getElem_cons_succ, List.getElem_cons_zero, List.setIfInBounds_toArray, List.set_cons_zero, List.set_cons_succ]
    refine wpAnyH_take (i := 6) (v := ?vs7) rfl (by kernel_rfl) (by kernel_rfl) (by kernel_rfl) (fun _ _ _ h => h) (Or.inl ⟨by kernel_rfl, ?ys7⟩) (by assumption) ?rs7
    case ys7 => (intro w hSw; (try dsimp only at hSw); go_simp; (try with_reducible rfl))
    simp only [Act.put, List.getElem_toArray, List.getElem_cons_succ, List.getElem_cons_zero, List.setIfInBounds_toArray, List.set_cons_zero, List.set_cons_succ]
    refine wpAnyH_take (i := 7) (v := .agg (List.toArray (a.map vb))) rfl (by kernel_rfl) (by kernel_rfl) (by kernel_rfl) (fun _ _ _ h => h) (yieldsIf_load_mid (by kernel_rfl) _ (.tmp 3) (by kernel_rfl) w.heap.size 0 (by kernel_rfl) (a.map vb) _ (fun W hW => hW.2.1) hu rfl hia) (by assumption) ?_
    simp only [Act.put, List.getElem_toArray, List.getElem_cons_succ, List.getElem_cons_zero, List.setIfInBounds_toArray, List.set_cons_zero, List.set_cons_succ]
    refine wpAnyH_take (i := 8) (v := .agg (List.toArray (b.map vb))) rfl (by kernel_rfl) (by kernel_rfl) (by kernel_rfl) (fun _ _ _ h => h) (yieldsIf_load_mid (by kernel_rfl) _ (.tmp 4) (by kernel_rfl) (w.heap.size + 1) 0 (by kernel_rfl) (b.map vb) _ (fun W hW => hW.2.2.1) hu rfl hib) (by assumption) ?_
    simp only [Act.put, List.getElem_toArray, List.getElem_cons_succ, List.getElem_cons_zero, List.setIfInBounds_toArray, List.set_cons_zero, List.set_cons_succ]
    refine wpAnyH_take (i := 10) (v := .agg (List.toArray (b.map vb))) rfl (by kernel_rfl) (by kernel_rfl) (by kernel_rfl) (fun _ _ _ h => h) (yieldsIf_load_mid (by kernel_rfl) _ (.tmp 4) (by kernel_rfl) (w.heap.size + 1) 0 (by kernel_rfl) (b.map vb) _ (fun W hW => hW.2.2.1) hu rfl hib) (by assumption) ?_
    simp only [Act.put, List.getElem_toArray, List.getElem_cons_succ, List.getElem_cons_zero, List.setIfInBounds_toArray, List.set_cons_zero, List.set_cons_succ]
    refine wpAnyH_take (i := 11) (v := .agg (List.toArray (a.map vb))) rfl (by kernel_rfl) (by kernel_rfl) (by kernel_rfl) (fun _ _ _ h => h) (yieldsIf_load_mid (by kernel_rfl) _ (.tmp 3) (by kernel_rfl) w.heap.size 0 (by kernel_rfl) (a.map vb) _ (fun W hW => hW.2.1) hu rfl hia) (by assumption) ?_
    simp only [Act.put, List.getElem_toArray, List.getElem_cons_succ, List.getElem_cons_zero, List.setIfInBounds_toArray, List.set_cons_zero, List.set_cons_succ]
    refine wpAnyH_ready (rs := [9]) (by kernel_rfl) (by simp) ?_
    refine AllReadyH.cons (o := _) rfl (fun K hK => ?_) AllReadyH.nil
    go_simp
    (refine (CAB.out _ (HB3)).mono ?_; rintro e w12 ⟨rfl, HB12⟩; dsimp only)
    refine hK.out _ _ (KP.out _ (HB12)) (fun hHeld => ?_)
    clear hK K
    (try simp only [Act.put, List.getElem_toArray, List.getElem_cons_succ, List.getElem_cons_zero, List.setIfInBounds_toArray, List.set_cons_zero, List.set_cons_succ])
    refine wpAnyH_ready (rs := [12]) (by kernel_rfl) (by simp) ?_
    refine AllReadyH.cons (o := _) rfl (fun K hK => ?_) AllReadyH.nil
    go_simp
    (refine (CBA.out _ (HB12)).mono ?_; rintro e w13 ⟨rfl, HB13⟩; dsimp only)
    refine hK.out _ _ (KP.out _ (HB13)) (fun hHeld => ?_)
    clear hK K
    (try simp only [Act.put, List.getElem_toArray, List.getElem_cons_succ, List.getElem_cons_zero, List.setIfInBounds_toArray, List.set_cons_zero, List.set_cons_succ])
    refine wpAnyH_take (i := 13) (v := ?vs14) rfl (by kernel_rfl) (by kernel_rfl) (by kernel_rfl) (fun _ _ _ h => h) (Or.inl ⟨by kernel_rfl, ?ys14⟩) (by assumption) ?rs14
    case ys14 => (intro w hSw; (try dsimp only at hSw); go_simp; (try with_reducible rfl))
    simp only [Act.put, List.getElem_toArray, List.getElem_cons_succ, List.getElem_cons_zero, List.setIfInBounds_toArray, List.set_cons_zero, List.set_cons_succ]
    refine wpAnyH_take (i := 14) (v := ?vs15) rfl (by kernel_rfl) (by kernel_rfl) (by kernel_rfl) (fun _ _ _ h => h) (Or.inl ⟨by kernel_rfl, ?ys15⟩) (by assumption) ?rs15
    case ys15 => (intro w hSw; (try dsimp only at hSw); go_simp; (try with_reducible rfl))
    simp only [Act.put, List.getElem_toArray, List.getElem_cons_succ, List.getElem_cons_zero, List.setIfInBounds_toArray, List.set_cons_zero, List.set_cons_succ]
    refine wpAnyH_take (i := 15) (v := ?vs16) rfl (by kernel_rfl) (by kernel_rfl) (by kernel_rfl) (fun _ _ _ h => h) (Or.inl ⟨by kernel_rfl, ?ys16⟩) (by assumption) ?rs16
    case ys16 => (intro w hSw; (try dsimp only at hSw); go_simp; (try with_reducible rfl))
    simp only [Act.put, List.getElem_toArray, List.getElem_cons_succ, List.getElem_cons_zero, List.setIfInBounds_toArray, List.set_cons_zero, List.set_cons_succ]
    refine wpAnyH_take (i := 16) rfl (by kernel_rfl) (by kernel_rfl) (by kernel_rfl) (fun _ _ _ h => h) (yi_move (by kernel_rfl) rfl rfl) (by assumption) ?_
    simp only [Act.put, List.getElem_toArray, List.getElem_cons_succ, List.getElem_cons_zero, List.setIfInBounds_toArray, List.set_cons_zero, List.set_cons_succ]
    refine wpAnyH_take (i := 17) (v := .agg (List.toArray (a.map vb))) rfl (by kernel_rfl) (by kernel_rfl) (by kernel_rfl) (fun _ _ _ h => h) (yieldsIf_load_mid (by kernel_rfl) _ (.tmp 3) (by kernel_rfl) w.heap.size 0 (by kernel_rfl) (a.map vb) _ (fun W hW => hW.2.1) hu rfl hia) (by assumption) ?_
    simp only [Act.put, List.getElem_toArray, List.getElem_cons_succ, List.getElem_cons_zero, List.setIfInBounds_toArray, List.set_cons_zero, List.set_cons_succ]
    refine wpAnyH_take (i := 18) (v := .agg (List.toArray (b.map vb))) rfl (by kernel_rfl) (by kernel_rfl) (by kernel_rfl) (fun _ _ _ h => h) (yieldsIf_load_mid (by kernel_rfl) _ (.tmp 4) (by kernel_rfl) (w.heap.size + 1) 0 (by kernel_rfl) (b.map vb) _ (fun W hW => hW.2.2.1) hu rfl hib) (by assumption) ?_
    simp only [Act.put, List.getElem_toArray, List.getElem_cons_succ, List.getElem_cons_zero, List.setIfInBounds_toArray, List.set_cons_zero, List.set_cons_succ]
    refine wpAnyH_take (i := 19) (v := ?vs20) rfl (by kernel_rfl) (by kernel_rfl) (by kernel_rfl) (fun _ _ _ h => h) (Or.inl ⟨by kernel_rfl, ?ys20⟩) (by assumption) ?rs20
    case ys20 => (intro w hSw; (try dsimp only at hSw); go_simp; (try with_reducible rfl))
    simp only [Act.put, List.getElem_toArray, List.getElem_cons_succ, List.getElem_cons_zero, List.setIfInBounds_toArray, List.set_cons_zero, List.set_cons_succ]
    refine wpAnyH_take (i := 20) rfl (by kernel_rfl) (by kernel_rfl) (by kernel_rfl) (fun _ _ _ h => h) (yi_move (by kernel_rfl) rfl rfl) (by assumption) ?_
    simp only [Act.put, List.getElem_toArray, List.getElem_cons_succ, List.getElem_cons_zero, List.setIfInBounds_toArray, List.set_cons_zero, List.set_cons_succ]
    refine wpAnyH_take (i := 21) (v := undef) rfl (by kernel_rfl) (by kernel_rfl) (by kernel_rfl) (fun _ _ _ h => h) (Or.inr ⟨by kernel_rfl, rfl⟩) (by assumption) ?_
    simp only [Act.put, List.getElem_toArray, List.getElem_cons_succ, List.getElem_cons_zero, List.setIfInBounds_toArray, List.set_cons_zero, List.set_cons_succ]
    refine wpAnyH_take (i := 22) (v := undef) rfl (by kernel_rfl) (by kernel_rfl) (by kernel_rfl) (fun _ _ _ h => h) (Or.inr ⟨by kernel_rfl, rfl⟩) (by assumption) ?_
    simp only [Act.put, List.getElem_toArray, List.getElem_cons_succ, List.getElem_cons_zero, List.setIfInBounds_toArray, List.set_cons_zero, List.set_cons_succ]
    refine wpAnyH_take (i := 23) (v := undef) rfl (by kernel_rfl) (by kernel_rfl) (by kernel_rfl) (fun _ _ _ h => h) (Or.inr ⟨by kernel_rfl, rfl⟩) (by assumption) ?_
    simp only [Act.put, List.getElem_toArray, List.getElem_cons_succ, List.getElem_cons_zero, List.setIfInBounds_toArray, List.set_cons_zero, List.set_cons_succ]
    refine wpAnyH_take (i := 24) (v := ?vs25) rfl (by kernel_rfl) (by kernel_rfl) (by kernel_rfl) (fun _ _ _ h => h) (Or.inl ⟨by kernel_rfl, ?ys25⟩) (by assumption) ?rs25
    case ys25 => (intro w hSw; (try dsimp only at hSw); go_simp; (try with_reducible rfl))
    simp only [Act.put, List.getElem_toArray, List.getElem_cons_succ, List.getElem_cons_zero, List.setIfInBounds_toArray, List.set_cons_zero, List.set_cons_succ]
    refine wpAnyH_take (i := 25) (v := ?vs26) rfl (by kernel_rfl) (by kernel_rfl) (by kernel_rfl) (fun _ _ _ h => h) (Or.inl ⟨by kernel_rfl, ?ys26⟩) (by assumption) ?rs26
    case ys26 => (intro w hSw; (try dsimp only at hSw); go_simp; (try with_reducible rfl))
    simp only [Act.put, List.getElem_toArray, List.getElem_cons_succ, List.getElem_cons_zero, List.setIfInBounds_toArray, List.set_cons_zero, List.set_cons_succ]
    refine wpAnyH_done (by kernel_rfl) ?_ _
    refine NoPanic.normal ?_
    clear HS
    have HS := HB13
    clear HB13 CAA CBA
    go_wp2_with (first
      | refine wl_load (by rfl) 27 (.tmp 3) rfl w.heap.size 0 rfl (a.map vb) _ (KP.out _ HS).2.1 hu rfl hia ?_
      | refine wl_load (by rfl) 27 (.tmp 4) rfl (w.heap.size + 1) 0 rfl (b.map vb) _ (KP.out _ HS).2.2.1 hu rfl hib ?_
      | refine wl_load (by rfl) 27 (.tmp 5) rfl (w.heap.size + 1 + 1) 0 rfl (c.map vb) _ (KP.out _ HS).2.2.2 hu rfl hic ?_
      | (go_at_call 17; refine (CAB.out _ HS).mono ?_; clear HS CAB; rintro e w' ⟨rfl, HS⟩)
      | (go_at_call 17; refine (CBC.out _ HS).mono ?_; clear HS CBC; rintro e w' ⟨rfl, HS⟩)
      | (go_at_call 17; refine (CAC.out _ HS).mono ?_; clear HS CAC; rintro e w' ⟨rfl, HS⟩))
    go_ret
    exact ⟨rfl, HW'.out _ HS⟩
end Go.Proofs.YtohpjindnfabaaaDoor
