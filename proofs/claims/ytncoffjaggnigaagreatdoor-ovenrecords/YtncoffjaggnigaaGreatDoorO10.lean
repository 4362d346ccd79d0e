/- What oven.Record, oven.Fits answer. -/
import Derived.Test.YtncoffjaggnigaaGreatDoorOC
import Derived.Deep.RegionHeld3
import Derived.Test.YtncoffjaggnigaaGreatDoorRegT
namespace Go.Proofs.YtncoffjaggnigaaGreatDoor
open Go.RowKit
set_option linter.unusedVariables false
set_option linter.unusedSimpArgs false
attribute [local go_sem ↓] zero27

/-- what is told on of a key's result -/
def recO (k : List UInt8) (r : O.Re) : V.Rc := if r.1 = 0 then ⟨k, 0, S.sha r.2⟩ else ⟨k, r.1, V.zd⟩
theorem recO_ok {k : List UInt8} {r : O.Re} (hk : k.length = 32) (hr : ReOk r) : Rc32 (recO k r) := by
  unfold recO
  split
  · exact ⟨hk, S.sha_length _, by simp, by simp⟩
  · exact ⟨hk, zd_length, hr.c1, hr.c2⟩
theorem info35 : (Tryz.prog.info? 64).map (·.size) = some 65 := by kernel_rfl
theorem und35 : ∃ fs, Tryz.prog.underlying 64 = some (.struct fs) := ⟨_, Tryz.underlying64⟩
theorem yi_build9 {P : Program} {ops : Array Oper} {S : World → Prop} {o : Oper} {a : Act} {t : TypeId} {ps : Array (Nat × Operand)} {v : Value} (hw : Region.wanted o (yielded ops a.tmps) = true) (ho : o.op = .build t ps) (parts : Array (Nat × Value)) (hp : ps.toList.map (fun p => (p.1, a.eval p.2)) = parts.toList) (hr : ∀ w, (Instr.build t parts).run P w = .ok v w) : YieldsIf P ops S o v a :=
  .inl ⟨hw, fun w _ => by
    have hp' : (ps.map fun (i, x) => (i, a.eval x)) = parts := by rw [← Array.toList_inj, Array.toList_map]; exact hp
    unfold execOp; simp only [ho, hp', Sem.run_bind, hr, Result.andThen_ok, Sem.run_pure]⟩
theorem wl_build9 {P : Program} {ops : Array Oper} {rest : List Oper} {o : Oper} {a : Act} {w : World} {Q : Exit → Act → World → Prop} (hg : o.guard = none) (t : TypeId) (ps : Array (Nat × Operand)) (ho : o.op = .build t ps) (parts : Array (Nat × Value)) (hp : ps.toList.map (fun p => (p.1, a.eval p.2)) = parts.toList) (v : Value) (hr : ∀ w, (Instr.build t parts).run P w = .ok v w)
    (h : wpList P ops Q rest (a.put o.dst v) w) : wpList P ops Q (o :: rest) a w :=
  wpList_plain hg fun _ hK => by
    have hp' : (ps.map fun (i, x) => (i, a.eval x)) = parts := by rw [← Array.toList_inj, Array.toList_map]; exact hp
    unfold Oper.wp execOp; simp only [ho, hp', Sem.run_bind, hr, Result.andThen_ok, Sem.run_pure]; exact hK _ _ h
attribute [local go_sem ↓] zero35
set_option maxRecDepth 8000 in
set_option maxHeartbeats 2000000 in
theorem Record_x (k : List UInt8) (r : O.Re) {w W : World} (hG : GW w) (HB : Bl w W) (hk : k.length = 32) (hr : ReOk r) :
    Calls Tryz.prog 21 #[.agg (dg k), .agg (resV r)] W fun e w' => e = .returned (.agg (rv (recO k r))) ∧ Bl W w' := by
  have hGW : GW W := hG.below HB hG.z
  have CF : Hid (∀ U, Calls Tryz.prog 42 #[.agg (resV r)] U fun e w' => e = .returned (.bool (O.isBad r)) ∧ Bl U w') := fun U => failed_at r U
  have hrl := rv_size (recO_ok hk hr)
  have hzl := rv_size zr32
  have hks : (dg k).size = 32 := by rw [dg_size, hk]
  have hi : (Tryz.prog.info? 51).map (·.size) = some (k.map vb).length := by rw [List.length_map, hk]; exact info27
  obtain ⟨fs, hum⟩ := und35
  by_cases h : r.1 = 0
  · have e : recO k r = ⟨k, 0, S.sha r.2⟩ := by unfold recO; rw [if_pos h]
    have eb : O.isBad r = false := by unfold O.isBad; simp [h]
    rw [e]
    rw [e] at hrl
    rw [eb] at CF
    obtain ⟨c, t⟩ := r
    simp only at *
    unfold resV at *
    simp only at *
    subst h
    have HFA : Hid (∀ U, Bl (((W.alloc (.cells (dg k) 51)).alloc (.cells #[.int .i64 0, .string (M.bs t)] 47)).alloc (.cells (rv V.zr) 64)) U → U.rangeAt W.heap.size 0 (k.map vb) ∧ U.cell? ⟨W.heap.size + 1, 0, none⟩ = some (.int .i64 0) ∧ U.cell? ⟨W.heap.size + 1, 1, none⟩ = some (.string (M.bs t)) ∧ U.heap[W.heap.size + 1 + 1]? = some (.cells (rv V.zr) 64 (0, 0))) := fun U hU => by
      have s1 : (W.alloc (.cells (dg k) 51)).heap.size = W.heap.size + 1 := by simp
      have s2 : ((W.alloc (.cells (dg k) 51)).alloc (.cells #[.int .i64 0, .string (M.bs t)] 47)).heap.size = W.heap.size + 1 + 1 := by simp
      have b2 := heap_alloc_new ((W.alloc (.cells (dg k) 51)).alloc (.cells #[.int .i64 0, .string (M.bs t)] 47)) (.cells (rv V.zr) 64)
      have b1 := heap_alloc_new (W.alloc (.cells (dg k) 51)) (.cells #[.int .i64 0, .string (M.bs t)] 47)
      have b0 := heap_alloc_new W (.cells (dg k) 51)
      rw [s2] at b2
      rw [s1] at b1
      have u2 := Below.block hU _ (TA.lt_heap b2)
      have u1 := Below.block (((Bl.refl ((W.alloc (.cells (dg k) 51)).alloc (.cells #[.int .i64 0, .string (M.bs t)] 47))).alloc _).step hU) _ (TA.lt_heap b1)
      have u0 := Below.block ((((Bl.refl (W.alloc (.cells (dg k) 51))).alloc _).alloc _).step hU) _ (TA.lt_heap b0)
      rw [b2] at u2
      rw [b1] at u1
      rw [b0] at u0
      exact ⟨range_part u0 [] (k.map vb) [] 0 (by simp [dg]) rfl, by rw [Lib.cell_of_heap u1]; rfl, by rw [Lib.cell_of_heap u1]; rfl, u2⟩
    have HWZ : Hid (Bl W (((W.alloc (.cells (dg k) 51)).alloc (.cells #[.int .i64 0, .string (M.bs t)] 47)).alloc (.cells (rv V.zr) 64))) := (((Bl.refl W).alloc _).alloc _).alloc _
    have hl := hr.l
    simp only at hl
    have hsl : (S.sha t).length = 32 := S.sha_length t
    have CO : Hid (∀ w1, Bl W w1 → ∀ U, Bl w1 U → Calls Tryz.prog 19 #[.slice (some ⟨U.heap.size, 0, none⟩) 1 1] (U.alloc (.cells #[.string (M.bs t)] 9)) fun e w' => e = .returned (.agg (dg (S.sha t))) ∧ Bl w1 w') := fun w1 h1 U hU => by
      refine (Of_g t 9 (GB.refl (hGW.below (h1.step hU) hGW.z)) (by omega)).mono ?_
      rintro e w' ⟨rfl, h⟩
      exact ⟨rfl, hU.step h.b⟩
    have HW0 : Hid (Bl w W) := HB
    have hBD : ∀ U, (Instr.build 64 #[(0, .agg (k.map vb).toArray), (2, .agg (dg (S.sha t)))]).run Tryz.prog U = .ok (.agg (rv ⟨k, 0, S.sha t⟩)) U := fun U => build35o k (S.sha t) hk hsl U
    clear hG HB hGW hr e eb
    generalize S.sha t = D at *
    go_enter Tryz.func21, Tryz.ntmps21
    go_wp2_with (go_at_call 42; refine (CF.out _).mono ?_; clear CF; rintro e w1 ⟨rfl, H1⟩)
    have HW1 : Hid (Bl W w1) := HWZ.out.step H1
    have CO1 : Hid (∀ U, Bl w1 U → Calls Tryz.prog 19 #[.slice (some ⟨U.heap.size, 0, none⟩) 1 1] (U.alloc (.cells #[.string (M.bs t)] 9)) fun e w' => e = .returned (.agg (dg D)) ∧ Bl w1 w') := CO.out w1 HW1.out
    have KP : Hid (∀ U, Bl w1 U → U.rangeAt W.heap.size 0 (k.map vb) ∧ U.cell? ⟨W.heap.size + 1, 1, none⟩ = some (.string (M.bs t))) := fun U hU => ⟨(HFA.out U (H1.step hU)).1, (HFA.out U (H1.step hU)).2.2.1⟩
    have HRO : Hid (∀ U, Bl w1 U → U.heap[W.heap.size + 1 + 1]? = some (.cells (rv V.zr) 64 (0, 0))) := fun U hU => (HFA.out U (H1.step hU)).2.2.2
    have KPS : Hid (∀ U C, Bl w1 U → (U.setRow (W.heap.size + 1 + 1) C).rangeAt W.heap.size 0 (k.map vb) ∧ (U.setRow (W.heap.size + 1 + 1) C).cell? ⟨W.heap.size + 1, 1, none⟩ = some (.string (M.bs t))) := fun U C hU => by
      obtain ⟨e1, e2⟩ := KP.out U hU
      have hb := below_setRow (Below.refl (W.heap.size + 1 + 1) U) (Nat.le_refl _) C
      exact ⟨fun j v hv => by rw [hb.cell (p := ⟨W.heap.size, 0 + j, none⟩) (by show W.heap.size < _; omega)]; exact e1 j v hv, by rw [hb.cell (p := ⟨W.heap.size + 1, 1, none⟩) (Nat.lt_succ_self _)]; exact e2⟩
    clear CO HFA H1
    refine wp_region_noPanic ?_
    refine wp_region_held_drew (S := fun U => U.rangeAt W.heap.size 0 (k.map vb) ∧ U.cell? ⟨W.heap.size + 1, 1, none⟩ = some (.string (M.bs t))) (by kernel_rfl) (KP.out _ ((Bl.refl w1).drewN 1)) (fun hHeld => ?_)
    refine wpAnyH_take (i := 0) (v := .agg (List.toArray (k.map vb))) rfl (by kernel_rfl) (by kernel_rfl) (by kernel_rfl) (fun _ _ _ h => h) (yieldsIf_load_mid (by kernel_rfl) _ (.tmp 2) (by kernel_rfl) W.heap.size 0 (by kernel_rfl) (k.map vb) _ (fun W hW => hW.1) und27 rfl hi) (by assumption) ?_
    simp only [Act.put, List.getElem_toArray, List.getElem_cons_succ, List.getElem_cons_zero, List.setIfInBounds_toArray, List.set_cons_zero, List.set_cons_succ]
    refine wpAnyH_take (i := 1) (v := ?_) rfl (by kernel_rfl) (by kernel_rfl) (by kernel_rfl) (fun _ _ _ h => h) (Or.inl ⟨by kernel_rfl, ?_⟩) (by assumption) ?_
    rotate_left
    · (intro w hSw; (try dsimp only at hSw); go_simp; (try with_reducible rfl))
    simp only [Act.put, List.getElem_toArray, List.getElem_cons_succ, List.getElem_cons_zero, List.setIfInBounds_toArray, List.set_cons_zero, List.set_cons_succ]
    refine wpAnyH_take (i := 2) (v := ?_) rfl (by kernel_rfl) (by kernel_rfl) (by kernel_rfl) (fun _ _ _ h => h) (Or.inl ⟨by kernel_rfl, ?_⟩) (by assumption) ?_
    rotate_left
    · (intro w hSw; (try dsimp only at hSw); go_simp; (try with_reducible rfl))
    simp only [Act.put, List.getElem_toArray, List.getElem_cons_succ, List.getElem_cons_zero, List.setIfInBounds_toArray, List.set_cons_zero, List.set_cons_succ]
    refine wpAnyH_ready (rs := [3]) (by kernel_rfl) (by simp) ?_
    refine AllReadyH.cons (o := _) rfl (fun K hK => ?_) AllReadyH.nil
    go_simp
    refine hK.out _ _ (KP.out _ (((Bl.refl w1).drewN 1).alloc _)) (fun hHeld => ?_)
    clear hK K
    (try simp only [Act.put, List.getElem_toArray, List.getElem_cons_succ, List.getElem_cons_zero, List.setIfInBounds_toArray, List.set_cons_zero, List.set_cons_succ])
    refine wpAnyH_ready (rs := [4]) (by kernel_rfl) (by simp) ?_
    refine AllReadyH.cons (o := _) rfl (fun K hK => ?_) AllReadyH.nil
    go_simp
    go_at_call 19; refine (CO1.out _ ((Bl.refl w1).drewN 1)).mono ?_; rintro e w5 ⟨rfl, HB5⟩
    refine hK.out _ _ (KP.out _ HB5) (fun hHeld => ?_)
    clear hK K
    (try simp only [Act.put, List.getElem_toArray, List.getElem_cons_succ, List.getElem_cons_zero, List.setIfInBounds_toArray, List.set_cons_zero, List.set_cons_succ])
    refine wpAnyH_take (i := 5) (v := .agg (rv ⟨k, 0, D⟩)) rfl (by kernel_rfl) (by kernel_rfl) (by kernel_rfl) (fun _ _ _ h => h) (yi_build9 (by kernel_rfl) rfl _ (by rfl) (fun w => hBD w)) (by assumption) ?_
    simp only [Act.put, List.getElem_toArray, List.getElem_cons_succ, List.getElem_cons_zero, List.setIfInBounds_toArray, List.set_cons_zero, List.set_cons_succ]
    refine wpAnyH_ready (rs := [6]) (by kernel_rfl) (by simp) ?_
    refine AllReadyH.cons (o := _) rfl (fun K hK => ?_) AllReadyH.nil
    refine stepo_store_row rfl 64 _ _ rfl (W.heap.size + 1 + 1) (rv ⟨k, 0, D⟩) (by rfl) (by rfl) 64 (rv V.zr) (HRO.out _ HB5) (by rw [hrl]; exact info35) (by rw [hzl, hrl]) (rv_one _) (hK.out _ _ (KPS.out _ _ HB5) (fun hHeld => ?_))
    clear hK K
    (try simp only [Act.put, List.getElem_toArray, List.getElem_cons_succ, List.getElem_cons_zero, List.setIfInBounds_toArray, List.set_cons_zero, List.set_cons_succ])
    refine wpAnyH_done (by kernel_rfl) ?_ _
    refine NoPanic.normal ?_
    go_wp2_with fail
    (try simp only [Exit.inBlock, Exit.then])
    refine bodyPost_ret (results_cell_row rfl _ _ _ 64 (rv ⟨k, 0, D⟩) (0, 0) _ rfl (setRow_heap _ _ _ _ _ _ (HRO.out _ HB5)) hum rfl (by rw [hrl]; exact info35)) rfl ?_
    exact ⟨rfl, below_setRow (HW1.out.step HB5) (by omega) _⟩
  · have e : recO k r = ⟨k, r.1, V.zd⟩ := by unfold recO; rw [if_neg h]
    have eb : O.isBad r = true := by unfold O.isBad; simp [h]
    rw [e]
    rw [e] at hrl
    rw [eb] at CF
    obtain ⟨c, t⟩ := r
    simp only at *
    unfold resV at *
    simp only at *
    have HFA : Hid (∀ U, Bl (((W.alloc (.cells (dg k) 51)).alloc (.cells #[.int .i64 c, .string (M.bs t)] 47)).alloc (.cells (rv V.zr) 64)) U → U.rangeAt W.heap.size 0 (k.map vb) ∧ U.cell? ⟨W.heap.size + 1, 0, none⟩ = some (.int .i64 c) ∧ U.cell? ⟨W.heap.size + 1, 1, none⟩ = some (.string (M.bs t)) ∧ U.heap[W.heap.size + 1 + 1]? = some (.cells (rv V.zr) 64 (0, 0))) := fun U hU => by
      have s1 : (W.alloc (.cells (dg k) 51)).heap.size = W.heap.size + 1 := by simp
      have s2 : ((W.alloc (.cells (dg k) 51)).alloc (.cells #[.int .i64 c, .string (M.bs t)] 47)).heap.size = W.heap.size + 1 + 1 := by simp
      have b2 := heap_alloc_new ((W.alloc (.cells (dg k) 51)).alloc (.cells #[.int .i64 c, .string (M.bs t)] 47)) (.cells (rv V.zr) 64)
      have b1 := heap_alloc_new (W.alloc (.cells (dg k) 51)) (.cells #[.int .i64 c, .string (M.bs t)] 47)
      have b0 := heap_alloc_new W (.cells (dg k) 51)
      rw [s2] at b2
      rw [s1] at b1
      have u2 := Below.block hU _ (TA.lt_heap b2)
      have u1 := Below.block (((Bl.refl ((W.alloc (.cells (dg k) 51)).alloc (.cells #[.int .i64 c, .string (M.bs t)] 47))).alloc _).step hU) _ (TA.lt_heap b1)
      have u0 := Below.block ((((Bl.refl (W.alloc (.cells (dg k) 51))).alloc _).alloc _).step hU) _ (TA.lt_heap b0)
      rw [b2] at u2
      rw [b1] at u1
      rw [b0] at u0
      exact ⟨range_part u0 [] (k.map vb) [] 0 (by simp [dg]) rfl, by rw [Lib.cell_of_heap u1]; rfl, by rw [Lib.cell_of_heap u1]; rfl, u2⟩
    have HWZ : Hid (Bl W (((W.alloc (.cells (dg k) 51)).alloc (.cells #[.int .i64 c, .string (M.bs t)] 47)).alloc (.cells (rv V.zr) 64))) := (((Bl.refl W).alloc _).alloc _).alloc _
    have hBD : ∀ U, (Instr.build 64 #[(0, .agg (k.map vb).toArray), (1, .int .i64 c)]).run Tryz.prog U = .ok (.agg (rv ⟨k, c, V.zd⟩)) U := fun U => build35c k c hk U
    have HW0 : Hid (Bl w W) := HB
    clear hG HB hGW hr e eb
    go_enter Tryz.func21, Tryz.ntmps21
    go_wp2_with (first
      | (go_at_call 42; refine (CF.out _).mono ?_; clear CF; rintro e w1 ⟨rfl, H1⟩; obtain ⟨f1, f2, f3, f4⟩ := HFA.out w1 H1; have FR : Hid _ := f1; have FH : Hid _ := f4; clear f1 f4)
      | (refine wpList_load_mid rfl 51 _ rfl W.heap.size 0 rfl (k.map vb) _ FR.out und27 rfl hi ?_)
      | (refine wl_build9 rfl 64 _ rfl #[(0, .agg (k.map vb).toArray), (1, .int .i64 c)] (by rfl) _ hBD ?_)
      | (refine wpList_store_row rfl 64 _ _ rfl (W.heap.size + 1 + 1) (rv ⟨k, c, V.zd⟩) rfl rfl 64 (rv V.zr) FH.out (by rw [hrl]; exact info35) (by rw [hzl, hrl]) (rv_one _) ?_))
    (try simp only [Exit.inBlock, Exit.then])
    refine bodyPost_ret (results_cell_row rfl _ _ _ 64 (rv ⟨k, c, V.zd⟩) (0, 0) _ rfl (setRow_heap _ _ _ _ _ _ FH.out) hum rfl (by rw [hrl]; exact info35)) rfl ?_
    exact ⟨rfl, below_setRow (HWZ.out.step H1) (by omega) _⟩
/-- whether a record tells a result -/
def fitB (x : V.Rc) (r : O.Re) : Bool := decide (x.key = (recO x.key r).key ∧ x.code = (recO x.key r).code ∧ x.out = (recO x.key r).out)
set_option maxRecDepth 8000 in
set_option maxHeartbeats 2000000 in
theorem Fits_x (x : V.Rc) (r : O.Re) {w W : World} (hG : GW w) (HB : Bl w W) (hx : Rc32 x) (hr : ReOk r) :
    Calls Tryz.prog 22 #[.agg (rv x), .agg (resV r)] W fun e w' => e = .returned (.bool (fitB x r)) ∧ Bl W w' := by
  have hGW : GW W := hG.below HB hG.z
  have HRC := recO_ok hx.k hr
  have hi42 : (Tryz.prog.info? 51).map (·.size) = some (x.key.map vb).length := by rw [List.length_map, hx.k]; exact info27
  have hi44 : (Tryz.prog.info? 64).map (·.size) = some (rvL x).length := by rw [rvL_length hx]; exact info35
  obtain ⟨fs, hum⟩ := und35
  obtain ⟨fr, hur⟩ := undRes
  obtain ⟨q, hq⟩ : ∃ q, fitB x r = q := ⟨_, rfl⟩
  have hEQ : ∀ U, (Op.equalIn 10000 64 (.agg (rvL x).toArray) (.agg (rv (recO x.key r)))).run Tryz.prog U = .ok q U := fun U => by
    have := eqRc x (recO x.key r) hx HRC U
    rw [← hq]; exact this
  rw [hq]
  obtain ⟨c, t⟩ := r
  unfold resV
  simp only
  have HZ : Hid (Bl W ((W.alloc (.cells (rv x) 64)).alloc (.cells #[.int .i64 c, .string (M.bs t)] 47))) := ((Bl.refl W).alloc _).alloc _
  have CR : Hid (∀ U, Bl ((W.alloc (.cells (rv x) 64)).alloc (.cells #[.int .i64 c, .string (M.bs t)] 47)) U → Calls Tryz.prog 21 #[.agg (x.key.map vb).toArray, .agg #[.int .i64 c, .string (M.bs t)]] U fun e w' => e = .returned (.agg (rv (recO x.key (c, t)))) ∧ Bl ((W.alloc (.cells (rv x) 64)).alloc (.cells #[.int .i64 c, .string (M.bs t)] 47)) w') := fun U hU => by
    refine (Record_x x.key (c, t) hGW (HZ.out.step hU) hx.k hr).mono ?_
    rintro e w' ⟨rfl, h⟩
    exact ⟨rfl, hU.step h⟩
  have KP : Hid (∀ U, Bl ((W.alloc (.cells (rv x) 64)).alloc (.cells #[.int .i64 c, .string (M.bs t)] 47)) U → U.rangeAt W.heap.size 0 (rvL x) ∧ U.rangeAt W.heap.size 0 (x.key.map vb) ∧ U.rangeAt (W.heap.size + 1) 0 [.int .i64 c, .string (M.bs t)]) := fun U hU => by
    have s1 : (W.alloc (.cells (rv x) 64)).heap.size = W.heap.size + 1 := by simp
    have b1 := heap_alloc_new (W.alloc (.cells (rv x) 64)) (.cells #[.int .i64 c, .string (M.bs t)] 47)
    have b0 := heap_alloc_new W (.cells (rv x) 64)
    rw [s1] at b1
    have u1 := Below.block hU _ (TA.lt_heap b1)
    have u0 := Below.block (((Bl.refl (W.alloc (.cells (rv x) 64))).alloc _).step hU) _ (TA.lt_heap b0)
    rw [b1] at u1
    rw [b0] at u0
    exact ⟨range_part u0 [] (rvL x) [] 0 (by simp [rv]) rfl, range_part u0 [] (x.key.map vb) (.int .i64 x.code :: x.out.map vb) 0 (by simp [rv, rvL]) rfl, range_part u1 [] [.int .i64 c, .string (M.bs t)] [] 0 (by simp) rfl⟩
  generalize recO x.key (c, t) = R at *
  clear hG HB hGW HRC hq hr
  go_enter Tryz.func22, Tryz.ntmps22
  go_wp2_with fail
  generalize ((W.alloc (.cells (rv x) 64)).alloc (.cells #[.int .i64 c, .string (M.bs t)] 47)) = Z at *
  refine wp_region_noPanic ?_
  refine wp_region_held_drew (S := fun U => U.rangeAt W.heap.size 0 (rvL x) ∧ U.rangeAt W.heap.size 0 (x.key.map vb) ∧ U.rangeAt (W.heap.size + 1) 0 [.int .i64 c, .string (M.bs t)]) (by kernel_rfl) (KP.out _ ((Bl.refl Z).drewN 1)) (fun hHeld => ?_)
  refine wpAnyH_take (i := 0) (v := .agg (List.toArray (rvL x))) rfl (by kernel_rfl) (by kernel_rfl) (by kernel_rfl) (fun _ _ _ h => h) (yieldsIf_load_mid (by kernel_rfl) _ (.tmp 2) (by kernel_rfl) W.heap.size 0 (by kernel_rfl) (rvL x) _ (fun W hW => hW.1) hum rfl hi44) (by assumption) ?_
  simp only [Act.put, List.getElem_toArray, List.getElem_cons_succ, List.getElem_cons_zero, List.setIfInBounds_toArray, List.set_cons_zero, List.set_cons_succ]
  refine wpAnyH_take (i := 1) (v := ?_) rfl (by kernel_rfl) (by kernel_rfl) (by kernel_rfl) (fun _ _ _ h => h) (Or.inl ⟨by kernel_rfl, ?_⟩) (by assumption) ?_
  rotate_left
  · (intro w hSw; (try dsimp only at hSw); go_simp; (try with_reducible rfl))
  simp only [Act.put, List.getElem_toArray, List.getElem_cons_succ, List.getElem_cons_zero, List.setIfInBounds_toArray, List.set_cons_zero, List.set_cons_succ]
  refine wpAnyH_take (i := 2) (v := .agg (List.toArray (x.key.map vb))) rfl (by kernel_rfl) (by kernel_rfl) (by kernel_rfl) (fun _ _ _ h => h) (yieldsIf_load_mid (by kernel_rfl) _ (.tmp 6) (by kernel_rfl) W.heap.size 0 (by kernel_rfl) (x.key.map vb) _ (fun W hW => hW.2.1) und27 rfl hi42) (by assumption) ?_
  simp only [Act.put, List.getElem_toArray, List.getElem_cons_succ, List.getElem_cons_zero, List.setIfInBounds_toArray, List.set_cons_zero, List.set_cons_succ]
  refine wpAnyH_take (i := 3) (v := .agg (List.toArray [.int .i64 c, .string (M.bs t)])) rfl (by kernel_rfl) (by kernel_rfl) (by kernel_rfl) (fun _ _ _ h => h) (yieldsIf_load_mid (by kernel_rfl) _ (.tmp 3) (by kernel_rfl) (W.heap.size + 1) 0 (by kernel_rfl) [.int .i64 c, .string (M.bs t)] _ (fun W hW => hW.2.2) hur rfl infoRes) (by assumption) ?_
  simp only [Act.put, List.getElem_toArray, List.getElem_cons_succ, List.getElem_cons_zero, List.setIfInBounds_toArray, List.set_cons_zero, List.set_cons_succ]
  refine wpAnyH_ready (rs := [4]) (by kernel_rfl) (by simp) ?_
  refine AllReadyH.cons (o := _) rfl (fun K hK => ?_) AllReadyH.nil
  go_simp
  go_at_call 21; refine (CR.out _ ((Bl.refl Z).drewN 1)).mono ?_; rintro e w5 ⟨rfl, HB5⟩
  refine hK.out _ _ (KP.out _ HB5) (fun hHeld => ?_)
  clear hK K
  (try simp only [Act.put, List.getElem_toArray, List.getElem_cons_succ, List.getElem_cons_zero, List.setIfInBounds_toArray, List.set_cons_zero, List.set_cons_succ])
  refine wpAnyH_take (i := 5) (v := ?_) rfl (by kernel_rfl) (by kernel_rfl) (by kernel_rfl) (fun _ _ _ h => h) (Or.inl ⟨by kernel_rfl, ?_⟩) (by assumption) ?_
  rotate_left
  · (intro w hSw; (try dsimp only at hSw); go_simp; (try with_reducible rfl))
  simp only [Act.put, List.getElem_toArray, List.getElem_cons_succ, List.getElem_cons_zero, List.setIfInBounds_toArray, List.set_cons_zero, List.set_cons_succ]
  refine wpAnyH_take (i := 6) rfl (by kernel_rfl) (by kernel_rfl) (by kernel_rfl) (fun _ _ _ h => h) (yi_assign (by kernel_rfl) rfl rfl) (by assumption) ?_
  simp only [Act.put, List.getElem_toArray, List.getElem_cons_succ, List.getElem_cons_zero, List.setIfInBounds_toArray, List.set_cons_zero, List.set_cons_succ]
  refine wpAnyH_done (by kernel_rfl) ?_ _
  refine NoPanic.normal ?_
  go_wp2_with fail
  go_ret
  exact ⟨rfl, HZ.out.step HB5⟩
end Go.Proofs.YtncoffjaggnigaaGreatDoor
