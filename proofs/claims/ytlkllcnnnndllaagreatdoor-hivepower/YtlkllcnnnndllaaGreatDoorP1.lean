/- Records: what a store's recordEntry, PutRecord and Record do. -/
import Derived.Test.YtlkllcnnnndllaaGreatDoorN16
namespace Go.Proofs.YtlkllcnnnndllaaGreatDoor
open Go.RowKit Go.Maps
set_option linter.unusedVariables false
set_option linter.unusedSimpArgs false
attribute [local go_sem ↓] zero77
attribute [local go_sem ↓] zero27
attribute [local go_sem ↓] zero75
attribute [local go_sem ↓] zero35

theorem convB2 (W : World) (b o : Nat) (l : List UInt8) (c : Nat) (h : W.rangeAt b o (l.map vb)) : (convert 111 9 (.slice (some ⟨b, o, none⟩) l.length c)).run Tryz.prog W = .ok (.string (M.bs l)) W :=
  run_convert_bytes_back (P := Tryz.prog) _ 111 9 5 ⟨b, o, none⟩ c l Tryz.underlying111 Tryz.underlying5 Tryz.underlying9 (fun j hj => by
    have e : (⟨b, o, none⟩ : Addr).add j = ⟨b, o + j, none⟩ := Addr.add_mid b o j
    rw [e]
    exact h j _ (by simp [hj]))
/-- an entry that is a record -/
def enR (r : V.Rc) : V.En := ⟨V.kr, r.key, S.sha (M.rowB (V.recL r)), 0⟩
theorem sealR_len (r : V.Rc) (h : Rc32 r) (hc : V.canB r = true) : (V.sealB (V.recL r)).length ≤ 640 := by
  have h1 := M.numB_len 4
  have h2 := M.numB_len V.kr.length
  have h3 := M.numB_len r.key.length
  have h4 := M.numB_len r.code
  have h5 := M.numB_len (M.numB r.code).length
  have h6 := M.numB_len r.out.length
  have hk : V.kr.length = 1 := rfl
  have hr : (M.rowB [V.kr, r.key, M.numB r.code, r.out]).length = (M.numB 4).length + ((M.numB V.kr.length).length + V.kr.length + ((M.numB r.key.length).length + r.key.length + ((M.numB (M.numB r.code).length).length + (M.numB r.code).length + ((M.numB r.out.length).length + r.out.length)))) := by
    simp [M.rowB, M.textsB, M.textB]; omega
  have := h.k
  have := h.o
  rw [V.sealB, List.length_append, S.sha_length, V.recL, hr]
  omega
/-- what recordEntry knows: its record, and the entry in the making -/
structure RE (W : World) (r : V.Rc) (C : Array Value) (W' : World) : Prop where
  o : Below W.heap.size W W'
  g : GW W'
  a : W'.heap[W.heap.size]? = some (.cells (rv r) 41 (0, 0))
  c : W'.heap[W.heap.size + 1]? = some (.cells C 74 (0, 0))
section
variable {W W' W'' : World} {r : V.Rc} {C : Array Value}
theorem RE.step (h : RE W r C W') (hb : Below W'.heap.size W' W'') : RE W r C W'' :=
  ⟨h.o.trans (hb.mono h.o.size), h.g.below hb h.g.z, by rw [hb.block _ (lt_of_heap h.a)]; exact h.a, by rw [hb.block _ (lt_of_heap h.c)]; exact h.c⟩
theorem RE.alloc (h : RE W r C W') (o : Obj) : RE W r C (W'.alloc o) := h.step ((Below.refl _ _).alloc (Nat.le_refl _) _)
theorem RE.drew (h : RE W r C W') : RE W r C W'.drew := h.step (Below.refl _ _).drew
theorem RE.put (h : RE W r C W') (hz : 2 ≤ W.heap.size) (D : Array Value) : RE W r D (W'.setRow (W.heap.size + 1) D) :=
  ⟨below_setRow h.o (by omega) _, h.g.below (B := 2) (below_setRow (Below.refl 2 W') (by omega) D) (Nat.le_refl _), by
    show (W'.heap.modify (W.heap.size + 1) _)[W.heap.size]? = _
    rw [Array.getElem?_modify, if_neg (by omega)]; exact h.a, setRow_heap _ _ _ _ _ _ h.c⟩
theorem rv_parts {b : Nat} (hr : Rc32 r) (h : W'.heap[b]? = some (.cells (rv r) 41 (0, 0))) : (W'.rangeAt b 0 (r.key.map vb) ∧ W'.rangeAt b 33 (r.out.map vb)) ∧ W'.cell? ⟨b, 32, none⟩ = some (.int .i64 r.code) :=
  ⟨⟨range_part h [] (r.key.map vb) (Value.int .i64 r.code :: r.out.map vb) 0 (by simp [rv, rvL]) rfl, range_part h (r.key.map vb ++ [Value.int .i64 r.code]) (r.out.map vb) [] 33 (by simp [rv, rvL]) (by simp [hr.k])⟩, by have h3 := rv_32 hr; rw [rv, List.getElem?_toArray] at h3; rw [cell_row h]; exact h3⟩
end
set_option maxRecDepth 8000 in
set_option maxHeartbeats 4000000 in
theorem recordEntry_at (r : V.Rc) (hr : Rc32 r) (hc : V.canB r = true) (W : World) (hG : GW W) :
    Calls Tryz.prog 35 #[.agg (rv r)] W fun e' w' => e' = .returned (.tuple #[.agg (ev V.kr r.key (S.sha (M.rowB (V.recL r)))), .string (M.bs (V.sealB (V.recL r)))]) ∧ Below W.heap.size W w' := by
  obtain ⟨fs5, hum5⟩ := und75
  have hz := hG.z
  have hk32 := hr.k
  have ho32 := hr.o
  have hcc : 0 ≤ r.code ∧ r.code ≤ 99 := by unfold V.canB at hc; simp at hc; omega
  have he0 := ev_size (k := []) zd_length zd_length
  have hes := ev_size (k := V.kr) (c := S.sha (M.rowB (V.recL r))) hr.k (S.sha_length _)
  have he1 := ev_one V.kr r.key (S.sha (M.rowB (V.recL r)))
  have hB0 : Below W.heap.size W ((W.alloc (.cells (rv r) 41)).alloc (.cells (ev [] V.zd V.zd) 74)) := ((Below.refl _ W).alloc (Nat.le_refl _) _).alloc (by simp) _
  have HX0 : RE W r (ev [] V.zd V.zd) ((W.alloc (.cells (rv r) 41)).alloc (.cells (ev [] V.zd V.zd) 74)).drew :=
    RE.drew ⟨hB0, hG.below hB0 hz, by rw [Below.heap_alloc _ _ _ (by simp)]; exact heap_alloc_new _ _, new2 _ _ _⟩
  have hiK : (Tryz.prog.info? 39).map (·.size) = some (r.key.map vb).length := by rw [List.length_map, hr.k]; exact info27
  have HCK : Hid (∀ W' : World, W'.rangeAt W.heap.size 0 (r.key.map vb) → (convert 111 9 (.slice (some ⟨W.heap.size, 0, none⟩) 32 32)).run Tryz.prog W' = .ok (.string (M.bs r.key)) W') := fun W' h => by
    have := convB2 W' W.heap.size 0 r.key 32 h
    rwa [hr.k] at this
  have HCO : Hid (∀ W' : World, W'.rangeAt W.heap.size 33 (r.out.map vb) → (convert 111 9 (.slice (some ⟨W.heap.size, 33, none⟩) 32 32)).run Tryz.prog W' = .ok (.string (M.bs r.out)) W') := fun W' h => by
    have := convB2 W' W.heap.size 33 r.out 32 h
    rwa [hr.o] at this
  have CN : Hid (∀ W', RE W r (ev [] V.zd V.zd) W' → Calls Tryz.prog 54 #[.int .i64 r.code] W' fun e' w' => e' = .returned (.string (M.bs (M.numB r.code))) ∧ RE W r (ev [] V.zd V.zd) w') := fun W' l => by
    refine (num_any _ _ (by omega) (by omega)).mono ?_
    rintro e' w' ⟨rfl, hb⟩
    exact ⟨rfl, l.step hb⟩
  have hnl := M.numB_len r.code
  have CS : Hid (∀ (W' : World) T, RE W r (ev [] V.zd V.zd) W' → Calls Tryz.prog 52 #[.agg (dg r.key), .string ⟨#[114]⟩, .slice (some ⟨W'.heap.size, 0, none⟩) 3 3] (W'.alloc (.cells #[.string (M.bs r.key), .string (M.bs (M.numB r.code)), .string (M.bs r.out)] T)) fun e' w' => e' = .returned (.tuple #[.agg (ev V.kr r.key (S.sha (M.rowB (V.recL r)))), .string (M.bs (V.sealB (V.recL r)))]) ∧ RE W r (ev [] V.zd V.zd) w') := fun W' T l => by
    have l2 := l.alloc (.cells #[.string (M.bs r.key), .string (M.bs (M.numB r.code)), .string (M.bs r.out)] T)
    refine (seal_at r.key V.kr [r.key, M.numB r.code, r.out] W'.heap.size 0 3 _ l2.g hr.k (by simp) (by simp) (by decide) (by simp; omega) (by simp) (fun i u hu => ?_)).mono ?_
    · have hh := heap_alloc_new W' (.cells #[.string (M.bs r.key), .string (M.bs (M.numB r.code)), .string (M.bs r.out)] T)
      rw [cell_row hh]
      match i with
      | 0 => simp at hu; subst hu; rfl
      | 1 => simp at hu; subst hu; rfl
      | 2 => simp at hu; subst hu; rfl
      | k + 3 => simp at hu
    · rintro e' w' ⟨rfl, hb⟩
      exact ⟨rfl, l2.step hb⟩
  have HKP : Hid (∀ {C : Array Value} {W' : World}, RE W r C W' → (W'.rangeAt W.heap.size 0 (r.key.map vb) ∧ W'.rangeAt W.heap.size 33 (r.out.map vb)) ∧ W'.cell? ⟨W.heap.size, 32, none⟩ = some (.int .i64 r.code)) := fun l => rv_parts hr l.a
  clear hB0 hG hc hr
  generalize ev V.kr r.key (S.sha (M.rowB (V.recL r))) = EE at *
  generalize V.sealB (V.recL r) = TT at *
  go_enter Tryz.func35, Tryz.ntmps35
  go_wp2_with fail
  refine wp_region_noPanic ?_
  refine wp_region_held_drew (S := (fun W' => (W'.rangeAt W.heap.size 0 (r.key.map vb) ∧ W'.rangeAt W.heap.size 33 (r.out.map vb)) ∧ W'.cell? ⟨W.heap.size, 32, none⟩ = some (.int .i64 r.code))) (by kernel_rfl) (HKP.out HX0) (fun hHeld => ?_)
  refine wpAnyH_take (i := 0) (v := ?_) rfl (by kernel_rfl) (by kernel_rfl) (by kernel_rfl) (fun _ _ _ h => h) (Or.inl ⟨by kernel_rfl, ?_⟩) (by assumption) ?_
  rotate_left
  · (intro w hSw; (try dsimp only at hSw); go_simp; (try with_reducible rfl))
  simp only [Act.put, List.getElem_toArray, List.getElem_cons_succ, List.getElem_cons_zero, List.setIfInBounds_toArray, List.set_cons_zero, List.set_cons_succ]
  refine wpAnyH_take (i := 1) (v := .agg (List.toArray (r.key.map vb))) rfl (by kernel_rfl) (by kernel_rfl) (by kernel_rfl) (fun _ _ _ h => h) (yieldsIf_load_mid (by kernel_rfl) _ (.tmp 4) (by kernel_rfl) W.heap.size 0 (by kernel_rfl) (r.key.map vb) _ (fun W hW => hW.1.1) und27 rfl hiK) (by assumption) ?_
  simp only [Act.put, List.getElem_toArray, List.getElem_cons_succ, List.getElem_cons_zero, List.setIfInBounds_toArray, List.set_cons_zero, List.set_cons_succ]
  refine wpAnyH_take (i := 2) (v := ?_) rfl (by kernel_rfl) (by kernel_rfl) (by kernel_rfl) (fun _ _ _ h => h) (Or.inl ⟨by kernel_rfl, ?_⟩) (by assumption) ?_
  rotate_left
  · (intro w hSw; (try dsimp only at hSw); go_simp; (try with_reducible rfl))
  simp only [Act.put, List.getElem_toArray, List.getElem_cons_succ, List.getElem_cons_zero, List.setIfInBounds_toArray, List.set_cons_zero, List.set_cons_succ]
  refine wpAnyH_take (i := 3) (v := ?_) rfl (by kernel_rfl) (by kernel_rfl) (by kernel_rfl) (fun _ _ _ h => h) (Or.inl ⟨by kernel_rfl, ?_⟩) (by assumption) ?_
  rotate_left
  · (intro w hSw; (try dsimp only at hSw); go_simp; (try with_reducible rfl))
  simp only [Act.put, List.getElem_toArray, List.getElem_cons_succ, List.getElem_cons_zero, List.setIfInBounds_toArray, List.set_cons_zero, List.set_cons_succ]
  refine wpAnyH_take (i := 4) (v := ?_) rfl (by kernel_rfl) (by kernel_rfl) (by kernel_rfl) (fun _ _ _ h => h) (Or.inl ⟨by kernel_rfl, ?_⟩) (by assumption) ?_
  rotate_left
  · (intro w hSw; have hcv := HCK.out w hSw.1.1; go_simp; (try with_reducible rfl))
  simp only [Act.put, List.getElem_toArray, List.getElem_cons_succ, List.getElem_cons_zero, List.setIfInBounds_toArray, List.set_cons_zero, List.set_cons_succ]
  refine wpAnyH_take (i := 5) (v := ?_) rfl (by kernel_rfl) (by kernel_rfl) (by kernel_rfl) (fun _ _ _ h => h) (Or.inl ⟨by kernel_rfl, ?_⟩) (by assumption) ?_
  rotate_left
  · (intro w hSw; (try dsimp only at hSw); go_simp; (try with_reducible rfl))
  simp only [Act.put, List.getElem_toArray, List.getElem_cons_succ, List.getElem_cons_zero, List.setIfInBounds_toArray, List.set_cons_zero, List.set_cons_succ]
  refine wpAnyH_take (i := 6) (v := ?_) rfl (by kernel_rfl) (by kernel_rfl) (by kernel_rfl) (fun _ _ _ h => h) (Or.inl ⟨by kernel_rfl, ?_⟩) (by assumption) ?_
  rotate_left
  · (intro w hSw; obtain ⟨_, hcc⟩ := hSw; go_simp; (try with_reducible rfl))
  simp only [Act.put, List.getElem_toArray, List.getElem_cons_succ, List.getElem_cons_zero, List.setIfInBounds_toArray, List.set_cons_zero, List.set_cons_succ]
  refine wpAnyH_take (i := 8) (v := ?_) rfl (by kernel_rfl) (by kernel_rfl) (by kernel_rfl) (fun _ _ _ h => h) (Or.inl ⟨by kernel_rfl, ?_⟩) (by assumption) ?_
  rotate_left
  · (intro w hSw; (try dsimp only at hSw); go_simp; (try with_reducible rfl))
  simp only [Act.put, List.getElem_toArray, List.getElem_cons_succ, List.getElem_cons_zero, List.setIfInBounds_toArray, List.set_cons_zero, List.set_cons_succ]
  refine wpAnyH_take (i := 9) (v := ?_) rfl (by kernel_rfl) (by kernel_rfl) (by kernel_rfl) (fun _ _ _ h => h) (Or.inl ⟨by kernel_rfl, ?_⟩) (by assumption) ?_
  rotate_left
  · (intro w hSw; (try dsimp only at hSw); go_simp; (try with_reducible rfl))
  simp only [Act.put, List.getElem_toArray, List.getElem_cons_succ, List.getElem_cons_zero, List.setIfInBounds_toArray, List.set_cons_zero, List.set_cons_succ]
  refine wpAnyH_take (i := 10) (v := ?_) rfl (by kernel_rfl) (by kernel_rfl) (by kernel_rfl) (fun _ _ _ h => h) (Or.inl ⟨by kernel_rfl, ?_⟩) (by assumption) ?_
  rotate_left
  · (intro w hSw; have hcv := HCO.out w hSw.1.2; go_simp; (try with_reducible rfl))
  simp only [Act.put, List.getElem_toArray, List.getElem_cons_succ, List.getElem_cons_zero, List.setIfInBounds_toArray, List.set_cons_zero, List.set_cons_succ]
  refine wpAnyH_ready (rs := [7]) (by kernel_rfl) (by simp) ?_
  refine AllReadyH.cons (o := _) rfl (fun K hK => ?_) AllReadyH.nil
  go_simp
  refine (CN.out _ HX0).mono ?_; rintro e' w11 ⟨rfl, HB11⟩
  refine hK.out _ _ (HKP.out HB11) (fun hHeld => ?_)
  clear hK K
  (try simp only [Act.put, List.getElem_toArray, List.getElem_cons_succ, List.getElem_cons_zero, List.setIfInBounds_toArray, List.set_cons_zero, List.set_cons_succ])
  refine wpAnyH_ready (rs := [11]) (by kernel_rfl) (by simp) ?_
  refine AllReadyH.cons (o := _) rfl (fun K hK => ?_) AllReadyH.nil
  go_simp
  refine hK.out _ _ (HKP.out (HB11.alloc _)) (fun hHeld => ?_)
  clear hK K
  (try simp only [Act.put, List.getElem_toArray, List.getElem_cons_succ, List.getElem_cons_zero, List.setIfInBounds_toArray, List.set_cons_zero, List.set_cons_succ])
  refine wpAnyH_ready (rs := [12]) (by kernel_rfl) (by simp) ?_
  refine AllReadyH.cons (o := _) rfl (fun K hK => ?_) AllReadyH.nil
  go_simp
  refine (CS.out _ _ HB11).mono ?_; rintro e' w13 ⟨rfl, HB13⟩
  refine hK.out _ _ (HKP.out HB13) (fun hHeld => ?_)
  clear hK K
  (try simp only [Act.put, List.getElem_toArray, List.getElem_cons_succ, List.getElem_cons_zero, List.setIfInBounds_toArray, List.set_cons_zero, List.set_cons_succ])
  refine wpAnyH_take (i := 13) (v := ?_) rfl (by kernel_rfl) (by kernel_rfl) (by kernel_rfl) (fun _ _ _ h => h) (Or.inl ⟨by kernel_rfl, ?_⟩) (by assumption) ?_
  rotate_left
  · (intro w hSw; (try dsimp only at hSw); go_simp; (try with_reducible rfl))
  simp only [Act.put, List.getElem_toArray, List.getElem_cons_succ, List.getElem_cons_zero, List.setIfInBounds_toArray, List.set_cons_zero, List.set_cons_succ]
  refine wpAnyH_take (i := 14) (v := ?_) rfl (by kernel_rfl) (by kernel_rfl) (by kernel_rfl) (fun _ _ _ h => h) (Or.inl ⟨by kernel_rfl, ?_⟩) (by assumption) ?_
  rotate_left
  · (intro w hSw; (try dsimp only at hSw); go_simp; (try with_reducible rfl))
  simp only [Act.put, List.getElem_toArray, List.getElem_cons_succ, List.getElem_cons_zero, List.setIfInBounds_toArray, List.set_cons_zero, List.set_cons_succ]
  refine wpAnyH_ready (rs := [15]) (by kernel_rfl) (by simp) ?_
  refine AllReadyH.cons (o := _) rfl (fun K hK => ?_) AllReadyH.nil
  refine stepv_store_row rfl 74 _ _ rfl (W.heap.size + 1) EE (by rfl) (by rfl) 74 (ev [] V.zd V.zd) HB13.c (by rw [hes]; exact info75) (by rw [he0, hes]) he1 (hK.out _ _ (HKP.out (HB13.put hz EE)) (fun hHeld => ?_))
  clear hK K
  (try simp only [Act.put, List.getElem_toArray, List.getElem_cons_succ, List.getElem_cons_zero, List.setIfInBounds_toArray, List.set_cons_zero, List.set_cons_succ])
  refine wpAnyH_take (i := 16) rfl (by kernel_rfl) (by kernel_rfl) (by kernel_rfl) (fun _ _ _ h => h) (yi_assign (by kernel_rfl) rfl rfl) (by assumption) ?_
  simp only [Act.put, List.getElem_toArray, List.getElem_cons_succ, List.getElem_cons_zero, List.setIfInBounds_toArray, List.set_cons_zero, List.set_cons_succ]
  refine wpAnyH_done (by kernel_rfl) ?_ _
  refine NoPanic.normal ?_
  go_wp2_with fail
  (try simp only [Exit.inBlock, Exit.then])
  refine bodyPost_ret (results2_rowV rfl _ _ _ 74 EE (0, 0) _ rfl (setRow_heap _ _ _ _ _ _ HB13.c) hum5 rfl (by rw [hes]; exact info75)) rfl ?_
  exact ⟨rfl, (HB13.put hz EE).o⟩
theorem PutRec_nil (r : V.Rc) (W : World) : Calls Tryz.prog 13 #[.pointer none, .agg (rv r)] W fun e w' => e = .returned (.int .i64 2) ∧ Below W.heap.size W w' := by
  have HB : Hid (Below W.heap.size W (W.alloc (.cells (rv r) 41))) := (Below.refl _ W).alloc (Nat.le_refl _) _
  go_enter Tryz.func13, Tryz.ntmps13
  go_wp2_with (go_at_call 29; refine (reach_nilH _).mono ?_; rintro e w' ⟨rfl, rfl⟩)
  go_ret
  exact ⟨rfl, HB.out⟩
set_option maxRecDepth 8000 in
set_option maxHeartbeats 2000000 in
theorem PutRec_arg {w W : World} {b : HB} {h : Hv} {st : H.Sh} (x : HW w b h st W) (ho : st.off = false) (hli : st.life = h.life) (r : V.Rc) (hr : Rc32 r) (hc : V.canB r = false) :
    Calls Tryz.prog 13 #[.pointer (some ⟨b.hv, 0, none⟩), .agg (rv r)] W fun e' w' => e' = .returned (.int .i64 1) ∧ HW w b h st w' := by
  have hrs := rv_size hr
  have hmW : ¬ b.mem W.heap.size := fun hm => by have := HX.lt x hm; omega
  have LX : LK w b h h.es st 41 (rv r) W.heap.size (W.alloc (.cells (rv r) 41)) := ⟨HX.alloc x _, heap_alloc_new _ _, hmW, x.o.size, x.g.z⟩
  have CR : Hid (∀ W', LK w b h h.es st 41 (rv r) W.heap.size W' → Calls Tryz.prog 29 #[.pointer (some ⟨b.hv, 0, none⟩)] W' fun e' w' => e' = .returned (.int .i64 0) ∧ LK w b h h.es st 41 (rv r) W.heap.size w') := fun W' l => by
    have hh := reach_x (h := h) (st := st) (b := b) (w := w) (W := W') l.x
    rw [show rchE h st = 0 by unfold rchE; rw [if_neg (by simp [ho, hli])]] at hh
    refine hh.mono ?_
    rintro e' w' ⟨rfl, n, rfl⟩
    exact ⟨rfl, l.step (below_drewN (Below.refl _ _) n)⟩
  have CC : Hid (∀ W', LK w b h h.es st 41 (rv r) W.heap.size W' → Calls Tryz.prog 33 #[.agg (rv r)] W' fun e' w' => e' = .returned (.bool false) ∧ LK w b h h.es st 41 (rv r) W.heap.size w') := fun W' l => by
    have hh := canBe_at r hr W'
    rw [hc] at hh
    refine hh.mono ?_
    rintro e' w' ⟨rfl, hb⟩
    exact ⟨rfl, l.step hb⟩
  obtain ⟨fs35, hum35⟩ := und35
  clear x hmW ho hli hc hr
  generalize rv r = RR at *
  go_enter Tryz.func13, Tryz.ntmps13
  go_wp2_with (first
    | (go_at_call 29; refine (CR.out _ LX).mono ?_; clear CR LX; rintro e' w1 ⟨rfl, LX⟩)
    | (refine wpList_load_row rfl 41 _ rfl W.heap.size rfl 41 RR (0, 0) _ LX.c hum35 rfl (by rw [hrs]; exact info35) ?_)
    | (go_at_call 33; refine (CC.out _ LX).mono ?_; clear CC LX; rintro e' w2 ⟨rfl, LX⟩))
  go_ret
  exact ⟨rfl, LX.x⟩
set_option maxRecDepth 8000 in
set_option maxHeartbeats 4000000 in
/-- another record of its key is there -/
theorem PutRec_twice {w W : World} {b : HB} {h : Hv} {st : H.Sh} (x : HW w b h st W) (ho : st.off = false) (hli : st.life = h.life) (r : V.Rc) (hr : Rc32 r) (hc : V.canB r = true) (c : V.Ct) (hcl : c.dig.length = 32 ∧ c.ck.length = 32 ∧ Rc32 c.rc) (hne : ¬ (c.rc.key = r.key ∧ c.rc.code = r.code ∧ c.rc.out = r.out)) {i : Nat}
    (CL0 : ∀ W', HW W' b h st W' → Calls Tryz.prog 34 #[.pointer (some ⟨b.hv, 0, none⟩), .agg (nmv V.kr r.key)] W' fun e' w' => e' = .returned (.tuple #[.int .i64 (i : Int), .agg (cv c), .bool true]) ∧ HW W' b h st w') :
    Calls Tryz.prog 13 #[.pointer (some ⟨b.hv, 0, none⟩), .agg (rv r)] W fun e' w' => e' = .returned (.int .i64 21) ∧ HW w b h st w' := by
  have hrs := rv_size hr
  have hmW : ¬ b.mem W.heap.size := fun hm => by have := HX.lt x hm; omega
  have LX : LK w b h h.es st 41 (rv r) W.heap.size (W.alloc (.cells (rv r) 41)) := ⟨HX.alloc x _, heap_alloc_new _ _, hmW, x.o.size, x.g.z⟩
  have CR : Hid (∀ W', LK w b h h.es st 41 (rv r) W.heap.size W' → Calls Tryz.prog 29 #[.pointer (some ⟨b.hv, 0, none⟩)] W' fun e' w' => e' = .returned (.int .i64 0) ∧ LK w b h h.es st 41 (rv r) W.heap.size w') := fun W' l => by
    have hh := reach_x (h := h) (st := st) (b := b) (w := w) (W := W') l.x
    rw [show rchE h st = 0 by unfold rchE; rw [if_neg (by simp [ho, hli])]] at hh
    refine hh.mono ?_
    rintro e' w' ⟨rfl, n, rfl⟩
    exact ⟨rfl, l.step (below_drewN (Below.refl _ _) n)⟩
  have CC : Hid (∀ W', LK w b h h.es st 41 (rv r) W.heap.size W' → Calls Tryz.prog 33 #[.agg (rv r)] W' fun e' w' => e' = .returned (.bool true) ∧ LK w b h h.es st 41 (rv r) W.heap.size w') := fun W' l => by
    have hh := canBe_at r hr W'
    rw [hc] at hh
    refine hh.mono ?_
    rintro e' w' ⟨rfl, hb⟩
    exact ⟨rfl, l.step hb⟩
  obtain ⟨fs35, hum35⟩ := und35
  have hk32 := hr.k
  have hiK : (Tryz.prog.info? 39).map (·.size) = some (r.key.map vb).length := by rw [List.length_map, hr.k]; exact info27
  have HRK : Hid (∀ {h' : Hv} {em : List V.En} {st' : H.Sh} {W' : World}, LK w b h' em st' 41 (rv r) W.heap.size W' → W'.rangeAt W.heap.size 0 (r.key.map vb)) := fun l => (rv_parts hr l.c).1.1
  have HB73 : Hid (∀ w, (Instr.build 72 #[(0, .string ⟨#[114]⟩), (1, .agg (r.key.map vb).toArray)]).run Tryz.prog w = .ok (.agg (nmv V.kr r.key)) w) := build73 V.kr r.key hr.k
  have HS7 : Hid (∀ W : World, (W.alloc (.cells (cv zc) 76)).heap[W.heap.size]? = some (.cells (cv zc) 76 (0, 0))) := hst77'
  have hzs := zc_size
  have CL : Hid (∀ W', LK w b h h.es st 41 (rv r) W.heap.size W' → Calls Tryz.prog 34 #[.pointer (some ⟨b.hv, 0, none⟩), .agg (nmv V.kr r.key)] W' fun e' w' => e' = .returned (.tuple #[.int .i64 (i : Int), .agg (cv c), .bool true]) ∧ LK w b h h.es st 41 (rv r) W.heap.size w') := fun W' l => by
    refine (CL0 W' l.x.base).mono ?_
    rintro e' w' ⟨rfl, y⟩; exact ⟨rfl, l.turn y⟩
  have hcs := cv_size hcl.1 hcl.2.1 hcl.2.2
  have hc1 := cv_one c
  have hi35c : (Tryz.prog.info? 41).map (·.size) = some (rvL c.rc).length := by rw [rvL_length hcl.2.2]; exact info35
  have hEQ : ∀ W', (Op.equalIn 10000 41 (.agg (rvL c.rc).toArray) (.agg (rv r))).run Tryz.prog W' = .ok false W' := fun W' => by
    have := eqRc c.rc r hcl.2.2 hr W'
    rw [decide_eq_false hne] at this
    exact this
  have HR9 : Hid (∀ W3 : World, (W3.alloc (.cells (cv c) 76)).rangeAt W3.heap.size 66 (rvL c.rc)) := fun W3 => range_part (heap_alloc_new _ _) (evL c.kind c.dig c.ck ++ [.string (M.bs c.blob)]) (rvL c.rc) [] 66 (by simp [cv, cvL]) (by simp [evL_length hcl.1 hcl.2.1])
  clear x hmW ho hli hc hr hcl hne CL0
  generalize rv r = RR at *
  generalize nmv V.kr r.key = NM at *
  generalize hKL : r.key.map vb = KL at *
  generalize cv c = CT at *
  go_enter Tryz.func13, Tryz.ntmps13
  go_wp2_with (first
    | (go_at_call 29; refine (CR.out _ LX).mono ?_; clear CR LX; rintro e' w1 ⟨rfl, LX⟩)
    | (refine wpList_load_row rfl 41 _ rfl W.heap.size rfl 41 RR (0, 0) _ LX.c hum35 rfl (by rw [hrs]; exact info35) ?_)
    | (go_at_call 33; refine (CC.out _ LX).mono ?_; clear CC LX; rintro e' w2 ⟨rfl, LX⟩)
    | (refine wl_mid (by rfl) 39 _ rfl W.heap.size 0 rfl KL _ (HRK.out LX) und27 rfl hiK ?_; clear HRK)
    | (refine wl_build rfl 72 _ rfl _ (by rfl) _ HB73.out ?_; clear HB73)
    | (go_at_call 34; refine (CL.out _ LX).mono ?_; clear CL LX; rintro e' w3 ⟨rfl, LX⟩)
    | (refine wpList_store_row rfl 76 _ _ rfl w3.heap.size CT rfl rfl 76 (cv zc) (HS7.out w3) (by rw [hcs]; exact info77) (by rw [hzs, hcs]) hc1 ?_; clear HS7; rw [World.setRow_alloc_new]; replace LX := LX.alloc (.cells CT 76); have hR9 := HR9.out w3; clear HR9)
    | (refine wl_mid (by rfl) 41 _ rfl w3.heap.size 66 rfl (rvL c.rc) _ hR9 hum35 rfl hi35c ?_; clear hR9))
  go_ret
  exact ⟨rfl, LX.x⟩
set_option maxRecDepth 8000 in
set_option maxHeartbeats 4000000 in
/-- it is there -/
theorem PutRec_is {w W : World} {b : HB} {h : Hv} {st : H.Sh} (x : HW w b h st W) (ho : st.off = false) (hli : st.life = h.life) (r : V.Rc) (hr : Rc32 r) (hc : V.canB r = true) (c : V.Ct) (hcl : c.dig.length = 32 ∧ c.ck.length = 32 ∧ Rc32 c.rc) (heq : c.rc.key = r.key ∧ c.rc.code = r.code ∧ c.rc.out = r.out) {i : Nat} {e : V.En} (he : h.es[i]? = some e) (hn : h.es.length ≤ 128) (hu : h.uses ≤ 1000000)
    (CL0 : ∀ W', HW W' b h st W' → Calls Tryz.prog 34 #[.pointer (some ⟨b.hv, 0, none⟩), .agg (nmv V.kr r.key)] W' fun e' w' => e' = .returned (.tuple #[.int .i64 (i : Int), .agg (cv c), .bool true]) ∧ HW W' b h st w') :
    Calls Tryz.prog 13 #[.pointer (some ⟨b.hv, 0, none⟩), .agg (rv r)] W fun e' w' => e' = .returned (.int .i64 0) ∧ HW w b (useV h i e) st w' := by
  have hrs := rv_size hr
  have hmW : ¬ b.mem W.heap.size := fun hm => by have := HX.lt x hm; omega
  have LX : LK w b h h.es st 41 (rv r) W.heap.size (W.alloc (.cells (rv r) 41)) := ⟨HX.alloc x _, heap_alloc_new _ _, hmW, x.o.size, x.g.z⟩
  have CR : Hid (∀ W', LK w b h h.es st 41 (rv r) W.heap.size W' → Calls Tryz.prog 29 #[.pointer (some ⟨b.hv, 0, none⟩)] W' fun e' w' => e' = .returned (.int .i64 0) ∧ LK w b h h.es st 41 (rv r) W.heap.size w') := fun W' l => by
    have hh := reach_x (h := h) (st := st) (b := b) (w := w) (W := W') l.x
    rw [show rchE h st = 0 by unfold rchE; rw [if_neg (by simp [ho, hli])]] at hh
    refine hh.mono ?_
    rintro e' w' ⟨rfl, n, rfl⟩
    exact ⟨rfl, l.step (below_drewN (Below.refl _ _) n)⟩
  have CC : Hid (∀ W', LK w b h h.es st 41 (rv r) W.heap.size W' → Calls Tryz.prog 33 #[.agg (rv r)] W' fun e' w' => e' = .returned (.bool true) ∧ LK w b h h.es st 41 (rv r) W.heap.size w') := fun W' l => by
    have hh := canBe_at r hr W'
    rw [hc] at hh
    refine hh.mono ?_
    rintro e' w' ⟨rfl, hb⟩
    exact ⟨rfl, l.step hb⟩
  obtain ⟨fs35, hum35⟩ := und35
  have hk32 := hr.k
  have hiK : (Tryz.prog.info? 39).map (·.size) = some (r.key.map vb).length := by rw [List.length_map, hr.k]; exact info27
  have HRK : Hid (∀ {h' : Hv} {em : List V.En} {st' : H.Sh} {W' : World}, LK w b h' em st' 41 (rv r) W.heap.size W' → W'.rangeAt W.heap.size 0 (r.key.map vb)) := fun l => (rv_parts hr l.c).1.1
  have HB73 : Hid (∀ w, (Instr.build 72 #[(0, .string ⟨#[114]⟩), (1, .agg (r.key.map vb).toArray)]).run Tryz.prog w = .ok (.agg (nmv V.kr r.key)) w) := build73 V.kr r.key hr.k
  have HS7 : Hid (∀ W : World, (W.alloc (.cells (cv zc) 76)).heap[W.heap.size]? = some (.cells (cv zc) 76 (0, 0))) := hst77'
  have hzs := zc_size
  have CL : Hid (∀ W', LK w b h h.es st 41 (rv r) W.heap.size W' → Calls Tryz.prog 34 #[.pointer (some ⟨b.hv, 0, none⟩), .agg (nmv V.kr r.key)] W' fun e' w' => e' = .returned (.tuple #[.int .i64 (i : Int), .agg (cv c), .bool true]) ∧ LK w b h h.es st 41 (rv r) W.heap.size w') := fun W' l => by
    refine (CL0 W' l.x.base).mono ?_
    rintro e' w' ⟨rfl, y⟩; exact ⟨rfl, l.turn y⟩
  have CU : Hid (∀ W', LK w b h h.es st 41 (rv r) W.heap.size W' → Calls Tryz.prog 36 #[.pointer (some ⟨b.hv, 0, none⟩), .int .i64 (i : Int)] W' fun e' w' => e' = .returned (.tuple #[]) ∧ HW w b (useV h i e) st w') := fun W' l => use_x l.x he hu hn
  have hcs := cv_size hcl.1 hcl.2.1 hcl.2.2
  have hc1 := cv_one c
  have hi35c : (Tryz.prog.info? 41).map (·.size) = some (rvL c.rc).length := by rw [rvL_length hcl.2.2]; exact info35
  have hEQ : ∀ W', (Op.equalIn 10000 41 (.agg (rvL c.rc).toArray) (.agg (rv r))).run Tryz.prog W' = .ok true W' := fun W' => by
    have := eqRc c.rc r hcl.2.2 hr W'
    rw [decide_eq_true heq] at this
    exact this
  have HR9 : Hid (∀ W3 : World, (W3.alloc (.cells (cv c) 76)).rangeAt W3.heap.size 66 (rvL c.rc)) := fun W3 => range_part (heap_alloc_new _ _) (evL c.kind c.dig c.ck ++ [.string (M.bs c.blob)]) (rvL c.rc) [] 66 (by simp [cv, cvL]) (by simp [evL_length hcl.1 hcl.2.1])
  clear x hmW ho hli hc hr hcl heq CL0 he hn hu
  generalize rv r = RR at *
  generalize nmv V.kr r.key = NM at *
  generalize hKL : r.key.map vb = KL at *
  generalize cv c = CT at *
  go_enter Tryz.func13, Tryz.ntmps13
  go_wp2_with (first
    | (go_at_call 29; refine (CR.out _ LX).mono ?_; clear CR LX; rintro e' w1 ⟨rfl, LX⟩)
    | (refine wpList_load_row rfl 41 _ rfl W.heap.size rfl 41 RR (0, 0) _ LX.c hum35 rfl (by rw [hrs]; exact info35) ?_)
    | (go_at_call 33; refine (CC.out _ LX).mono ?_; clear CC LX; rintro e' w2 ⟨rfl, LX⟩)
    | (refine wl_mid (by rfl) 39 _ rfl W.heap.size 0 rfl KL _ (HRK.out LX) und27 rfl hiK ?_; clear HRK)
    | (refine wl_build rfl 72 _ rfl _ (by rfl) _ HB73.out ?_; clear HB73)
    | (go_at_call 34; refine (CL.out _ LX).mono ?_; clear CL LX; rintro e' w3 ⟨rfl, LX⟩)
    | (refine wpList_store_row rfl 76 _ _ rfl w3.heap.size CT rfl rfl 76 (cv zc) (HS7.out w3) (by rw [hcs]; exact info77) (by rw [hzs, hcs]) hc1 ?_; clear HS7; rw [World.setRow_alloc_new]; replace LX := LX.alloc (.cells CT 76); have hR9 := HR9.out w3; clear HR9)
    | (refine wl_mid (by rfl) 41 _ rfl w3.heap.size 66 rfl (rvL c.rc) _ hR9 hum35 rfl hi35c ?_; clear hR9)
    | (go_at_call 36; refine (CU.out _ LX).mono ?_; clear CU LX; rintro e' w5 ⟨rfl, LX⟩))
  go_ret
  exact ⟨rfl, LX⟩
set_option maxRecDepth 8000 in
set_option maxHeartbeats 4000000 in
/-- none of its key is there: it is put -/
theorem PutRec_put {w W : World} {b : HB} {h h1 h2 : Hv} {st st2 : H.Sh} (x : HW w b h st W) (ho : st.off = false) (hli : st.life = h.life) (r : V.Rc) (hr : Rc32 r) (hc : V.canB r = true) (er : Int)
    (CL0 : ∀ W', HW W' b h st W' → Calls Tryz.prog 34 #[.pointer (some ⟨b.hv, 0, none⟩), .agg (nmv V.kr r.key)] W' fun e' w' => e' = .returned (.tuple #[.int .i64 0, .agg (cv zc), .bool false]) ∧ HW W' b h1 st w')
    (CP0 : ∀ W', HW W' b h1 st W' → Calls Tryz.prog 31 #[.pointer (some ⟨b.hv, 0, none⟩), .agg (ev V.kr r.key (S.sha (M.rowB (V.recL r)))), .string (M.bs (V.sealB (V.recL r)))] W' fun e' w' => e' = .returned (.int .i64 er) ∧ HW W' b h2 st2 w') :
    Calls Tryz.prog 13 #[.pointer (some ⟨b.hv, 0, none⟩), .agg (rv r)] W fun e' w' => e' = .returned (.int .i64 er) ∧ HW w b h2 st2 w' := by
  have hrs := rv_size hr
  have hmW : ¬ b.mem W.heap.size := fun hm => by have := HX.lt x hm; omega
  have LX : LK w b h h.es st 41 (rv r) W.heap.size (W.alloc (.cells (rv r) 41)) := ⟨HX.alloc x _, heap_alloc_new _ _, hmW, x.o.size, x.g.z⟩
  have CR : Hid (∀ W', LK w b h h.es st 41 (rv r) W.heap.size W' → Calls Tryz.prog 29 #[.pointer (some ⟨b.hv, 0, none⟩)] W' fun e' w' => e' = .returned (.int .i64 0) ∧ LK w b h h.es st 41 (rv r) W.heap.size w') := fun W' l => by
    have hh := reach_x (h := h) (st := st) (b := b) (w := w) (W := W') l.x
    rw [show rchE h st = 0 by unfold rchE; rw [if_neg (by simp [ho, hli])]] at hh
    refine hh.mono ?_
    rintro e' w' ⟨rfl, n, rfl⟩
    exact ⟨rfl, l.step (below_drewN (Below.refl _ _) n)⟩
  have CC : Hid (∀ W', LK w b h h.es st 41 (rv r) W.heap.size W' → Calls Tryz.prog 33 #[.agg (rv r)] W' fun e' w' => e' = .returned (.bool true) ∧ LK w b h h.es st 41 (rv r) W.heap.size w') := fun W' l => by
    have hh := canBe_at r hr W'
    rw [hc] at hh
    refine hh.mono ?_
    rintro e' w' ⟨rfl, hb⟩
    exact ⟨rfl, l.step hb⟩
  obtain ⟨fs35, hum35⟩ := und35
  have hk32 := hr.k
  have hiK : (Tryz.prog.info? 39).map (·.size) = some (r.key.map vb).length := by rw [List.length_map, hr.k]; exact info27
  have HRK : Hid (∀ {h' : Hv} {em : List V.En} {st' : H.Sh} {W' : World}, LK w b h' em st' 41 (rv r) W.heap.size W' → W'.rangeAt W.heap.size 0 (r.key.map vb)) := fun l => (rv_parts hr l.c).1.1
  have HB73 : Hid (∀ w, (Instr.build 72 #[(0, .string ⟨#[114]⟩), (1, .agg (r.key.map vb).toArray)]).run Tryz.prog w = .ok (.agg (nmv V.kr r.key)) w) := build73 V.kr r.key hr.k
  have HS7 : Hid (∀ W : World, (W.alloc (.cells (cv zc) 76)).heap[W.heap.size]? = some (.cells (cv zc) 76 (0, 0))) := hst77'
  have hzs := zc_size
  have CL : Hid (∀ W', LK w b h h.es st 41 (rv r) W.heap.size W' → Calls Tryz.prog 34 #[.pointer (some ⟨b.hv, 0, none⟩), .agg (nmv V.kr r.key)] W' fun e' w' => e' = .returned (.tuple #[.int .i64 0, .agg (cv zc), .bool false]) ∧ LK w b h1 h1.es st 41 (rv r) W.heap.size w') := fun W' l => by
    refine (CL0 W' l.x.base).mono ?_
    rintro e' w' ⟨rfl, y⟩; exact ⟨rfl, l.turn y⟩
  have CE : Hid (∀ W', LK w b h1 h1.es st 41 (rv r) W.heap.size W' → Calls Tryz.prog 35 #[.agg (rv r)] W' fun e' w' => e' = .returned (.tuple #[.agg (ev V.kr r.key (S.sha (M.rowB (V.recL r)))), .string (M.bs (V.sealB (V.recL r)))]) ∧ LK w b h1 h1.es st 41 (rv r) W.heap.size w') := fun W' l => by
    refine (recordEntry_at r hr hc W' l.x.g).mono ?_
    rintro e' w' ⟨rfl, hb⟩; exact ⟨rfl, l.step hb⟩
  have CP : Hid (∀ W', LK w b h1 h1.es st 41 (rv r) W.heap.size W' → Calls Tryz.prog 31 #[.pointer (some ⟨b.hv, 0, none⟩), .agg (ev V.kr r.key (S.sha (M.rowB (V.recL r)))), .string (M.bs (V.sealB (V.recL r)))] W' fun e' w' => e' = .returned (.int .i64 er) ∧ HW w b h2 st2 w') := fun W' l => by
    refine (CP0 W' l.x.base).mono ?_
    rintro e' w' ⟨rfl, y⟩; exact ⟨rfl, l.x.trans y⟩
  have hcs := zc_size
  have hc1 := cv_one zc
  have CT0 : cv zc = cv zc := rfl
  clear x hmW ho hli hc hr CL0 CP0 CT0
  generalize rv r = RR at *
  generalize nmv V.kr r.key = NM at *
  generalize ev V.kr r.key (S.sha (M.rowB (V.recL r))) = EE at *
  generalize V.sealB (V.recL r) = TT at *
  generalize hKL : r.key.map vb = KL at *
  go_enter Tryz.func13, Tryz.ntmps13
  go_wp2_with (first
    | (go_at_call 29; refine (CR.out _ LX).mono ?_; clear CR LX; rintro e' w1 ⟨rfl, LX⟩)
    | (refine wpList_load_row rfl 41 _ rfl W.heap.size rfl 41 RR (0, 0) _ LX.c hum35 rfl (by rw [hrs]; exact info35) ?_)
    | (go_at_call 33; refine (CC.out _ LX).mono ?_; clear CC LX; rintro e' w2 ⟨rfl, LX⟩)
    | (refine wl_mid (by rfl) 39 _ rfl W.heap.size 0 rfl KL _ (HRK.out LX) und27 rfl hiK ?_; clear HRK)
    | (refine wl_build rfl 72 _ rfl _ (by rfl) _ HB73.out ?_; clear HB73)
    | (go_at_call 34; refine (CL.out _ LX).mono ?_; clear CL LX; rintro e' w3 ⟨rfl, LX⟩)
    | (refine wpList_store_row rfl 76 _ _ rfl w3.heap.size (cv zc) rfl rfl 76 (cv zc) (HS7.out w3) (by rw [hcs]; exact info77) rfl hc1 ?_; clear HS7; rw [World.setRow_alloc_new]; replace LX := LX.alloc (.cells (cv zc) 76))
    | (go_at_call 35; refine (CE.out _ LX).mono ?_; clear CE LX; rintro e' w4 ⟨rfl, LX⟩)
    | (go_at_call 31; refine (CP.out _ LX).mono ?_; clear CP LX; rintro e' w5 ⟨rfl, LX⟩))
  go_ret
  exact ⟨rfl, LX⟩
theorem Record_nil (d : List UInt8) (hd : d.length = 32) (W : World) : Calls Tryz.prog 12 #[.pointer none, .agg (dg d)] W fun e w' => e = .returned (.tuple #[.agg (rv V.zr), .bool false]) ∧ Below W.heap.size W w' := by
  obtain ⟨fs35, hum35⟩ := und35
  have hrs := rv_size zr32
  have hr1 := rv_one V.zr
  have HN : Hid (((W.alloc (.cells (dg d) 39)).alloc (.cells (rv V.zr) 41)).heap[W.heap.size + 1]? = some (.cells (rv V.zr) 41 (0, 0))) := new2 _ _ _
  have HB : Hid (Below W.heap.size W ((W.alloc (.cells (dg d) 39)).alloc (.cells (rv V.zr) 41))) := ((Below.refl _ W).alloc (Nat.le_refl _) _).alloc (by simp) _
  have HBU : Hid (∀ w, (Instr.build 41 #[]).run Tryz.prog w = .ok (.agg (rv V.zr)) w) := fun w => by kernel_rfl
  go_enter Tryz.func12, Tryz.ntmps12
  go_wp2_with (first
    | (refine wl_build rfl 41 _ rfl _ (by rfl) _ HBU.out ?_)
    | (refine wpList_store_row rfl 41 _ _ rfl (W.heap.size + 1) (rv V.zr) rfl rfl 41 (rv V.zr) HN.out (by rw [hrs]; exact info35) rfl hr1 ?_))
  (try simp only [Exit.inBlock, Exit.then])
  refine bodyPost_ret (results2_rowV rfl _ _ _ 41 (rv V.zr) (0, 0) _ rfl (setRow_heap _ _ _ _ _ _ HN.out) hum35 rfl (by rw [hrs]; exact info35)) rfl ?_
  exact ⟨rfl, below_setRow HB.out (by omega) _⟩
set_option maxRecDepth 8000 in
set_option maxHeartbeats 4000000 in
/-- Record, given what ask answers -/
theorem Record_x {w W : World} {b : HB} {h h' : Hv} {st : H.Sh} (x : HW w b h st W) (d : List UInt8) (hd : d.length = 32) (c : V.Ct) (q : Bool) (hcl : c.dig.length = 32 ∧ c.ck.length = 32 ∧ Rc32 c.rc)
    (CA0 : ∀ W', HW W' b h st W' → Calls Tryz.prog 30 #[.pointer (some ⟨b.hv, 0, none⟩), .agg (nmv V.kr d)] W' fun e' w' => e' = .returned (.tuple #[.agg (cv c), .bool q]) ∧ HW W' b h' st w') :
    Calls Tryz.prog 12 #[.pointer (some ⟨b.hv, 0, none⟩), .agg (dg d)] W fun e' w' => e' = .returned (.tuple #[.agg (rv c.rc), .bool q]) ∧ HW w b h' st w' := by
  obtain ⟨fs35, hum35⟩ := und35
  have hDs : (dg d).size = 32 := by rw [dg_size, hd]
  have hmW : ¬ b.mem (W.heap.size + 1) := fun hm => by have := HX.lt x hm; omega
  have hwW : w.heap.size ≤ W.heap.size + 1 := by have := x.o.size; omega
  have hzr := rv_size zr32
  have hrs := rv_size hcl.2.2
  have hr1 := rv_one c.rc
  have LX : LK w b h h.es st 41 (rv V.zr) (W.heap.size + 1) ((W.alloc (.cells (dg d) 39)).alloc (.cells (rv V.zr) 41)) := ⟨((HX.alloc x _).alloc _), new2 _ _ _, hmW, hwW, by have := x.g.z; omega⟩
  have HN : Hid (((W.alloc (.cells (dg d) 39)).alloc (.cells (rv V.zr) 41)).heap[W.heap.size]? = some (.cells (dg d) 39 (0, 0))) := by show _ = _; rw [Below.heap_alloc _ _ _ (by simp)]; exact heap_alloc_new _ _
  have CA : Hid (∀ W', LK w b h h.es st 41 (rv V.zr) (W.heap.size + 1) W' → Calls Tryz.prog 30 #[.pointer (some ⟨b.hv, 0, none⟩), .agg (nmv V.kr d)] W' fun e' w' => e' = .returned (.tuple #[.agg (cv c), .bool q]) ∧ LK w b h' h'.es st 41 (rv V.zr) (W.heap.size + 1) w') := fun W' l => by
    refine (CA0 W' l.x.base).mono ?_
    rintro e' w' ⟨rfl, y⟩; exact ⟨rfl, l.turn y⟩
  have HB73 : Hid (∀ w, (Instr.build 72 #[(0, .string ⟨#[114]⟩), (1, .agg (dg d))]).run Tryz.prog w = .ok (.agg (nmv V.kr d)) w) := build73 V.kr d hd
  have HS7 : Hid (∀ W : World, (W.alloc (.cells (cv zc) 76)).heap[W.heap.size]? = some (.cells (cv zc) 76 (0, 0))) := hst77'
  have hzs := zc_size
  have hcs := cv_size hcl.1 hcl.2.1 hcl.2.2
  have hc1 := cv_one c
  have hi35 : (Tryz.prog.info? 41).map (·.size) = some (rvL c.rc).length := by rw [rvL_length hcl.2.2]; exact info35
  have HR : Hid (∀ W3 : World, (W3.alloc (.cells (cv c) 76)).rangeAt W3.heap.size 66 (rvL c.rc)) := fun W3 => range_part (heap_alloc_new _ _) (evL c.kind c.dig c.ck ++ [.string (M.bs c.blob)]) (rvL c.rc) [] 66 (by simp [cv, cvL]) (by simp [evL_length hcl.1 hcl.2.1])
  clear x CA0 hmW hwW hcl
  generalize dg d = DD at *
  generalize nmv V.kr d = NM at *
  generalize cv c = CT at *
  go_enter Tryz.func12, Tryz.ntmps12
  go_wp2_with (first
    | (refine wpList_load_row rfl 39 _ rfl W.heap.size rfl 39 DD (0, 0) _ HN.out und27 rfl (by rw [hDs]; exact info27) ?_; clear HN)
    | (refine wl_build rfl 72 _ rfl _ (by rfl) _ HB73.out ?_; clear HB73)
    | (go_at_call 30; refine (CA.out _ LX).mono ?_; clear CA LX; rintro e' w2 ⟨rfl, LX⟩)
    | (refine wpList_store_row rfl 76 _ _ rfl w2.heap.size CT rfl rfl 76 (cv zc) (HS7.out w2) (by rw [hcs]; exact info77) (by rw [hzs, hcs]) hc1 ?_; clear HS7; rw [World.setRow_alloc_new]; replace LX := LX.alloc (.cells CT 76); have hR := HR.out w2; clear HR)
    | (refine wl_mid (by rfl) 41 _ rfl w2.heap.size 66 rfl (rvL c.rc) _ hR hum35 rfl hi35 ?_; clear hR)
    | (refine wpList_store_row rfl 41 _ _ rfl (W.heap.size + 1) (rv c.rc) rfl rfl 41 (rv V.zr) LX.c (by rw [hrs]; exact info35) (by rw [hzr, hrs]) hr1 ?_))
  (try simp only [Exit.inBlock, Exit.then])
  refine bodyPost_ret (results2_rowV rfl _ _ _ 41 (rv c.rc) (0, 0) _ rfl (setRow_heap _ _ _ _ _ _ LX.c) hum35 rfl (by rw [hrs]; exact info35)) rfl ?_
  exact ⟨rfl, (LX.put (rv c.rc)).x⟩
end Go.Proofs.YtlkllcnnnndllaaGreatDoor
