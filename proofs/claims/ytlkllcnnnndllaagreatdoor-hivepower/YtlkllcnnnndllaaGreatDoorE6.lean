/- What hive.readRecord answers of a record's texts. -/
import Derived.Test.YtlkllcnnnndllaaGreatDoorGE
import Derived.Test.YtlkllcnnnndllaaGreatDoorRegT
namespace Go.Proofs.YtlkllcnnnndllaaGreatDoor
open Go.RowKit
set_option linter.unusedVariables false
set_option linter.unusedSimpArgs false
attribute [local go_sem ↓] zero35

theorem stepv_load_row {P : Program} {ops : Array Oper} {o : Oper} {a : Act} {w : World} {K : Act → World → Prop} {Q : Exit → Act → World → Prop} {E : Prop} (hgd : o.guard = none) (ty : TypeId) (x : Operand) (ho : o.op = .load ty x)
    (g : Nat) (hx : a.eval x = .pointer (some ⟨g, 0, none⟩)) (t : TypeId) (cs : Array Value) (fr : Nat × Nat) (d : TypeDesc) (hg : w.heap[g]? = some (.cells cs t fr))
    (hu : P.underlying ty = some d) (hd : (match d with | .struct _ | .array _ _ => true | _ => false) = true) (hi : (P.info? ty).map (·.size) = some cs.size)
    (h : K (a.put o.dst (.agg cs)) w) : if Region.wanted o (yielded ops a.tmps) = true then Oper.wp P o a w K Q else E := by
  have hw : Region.wanted o (yielded ops a.tmps) = true := by simp [Region.wanted, hgd]
  rw [if_pos hw]
  exact wp_load_row ty x ho g hx t cs fr d hg hu hd hi h
theorem stepv_store_row {P : Program} {ops : Array Oper} {o : Oper} {a : Act} {w : World} {K : Act → World → Prop} {Q : Exit → Act → World → Prop} {E : Prop} (hgd : o.guard = none) (ty : TypeId) (x y : Operand) (ho : o.op = .store ty x y)
    (g : Nat) (cells : Array Value) (hx : a.eval x = .pointer (some ⟨g, 0, none⟩)) (hy : a.eval y = .agg cells)
    (t : TypeId) (old : Array Value) (hg : w.heap[g]? = some (.cells old t (0, 0))) (hi : (P.info? ty).map (·.size) = some cells.size)
    (hold : old.size = cells.size) (h1 : cells.all (·.oneCell') = true)
    (h : K (a.put o.dst undef) (w.setRow g cells)) : if Region.wanted o (yielded ops a.tmps) = true then Oper.wp P o a w K Q else E := by
  have hw : Region.wanted o (yielded ops a.tmps) = true := by simp [Region.wanted, hgd]
  rw [if_pos hw]
  exact wp_store_row ty x y ho g cells hx hy t old hg hi hold h1 h
theorem yi_build {P : Program} {ops : Array Oper} {S : World → Prop} {o : Oper} {a : Act} {t : TypeId} {ps : Array (Nat × Operand)} {v : Value} (hw : Region.wanted o (yielded ops a.tmps) = true) (ho : o.op = .build t ps) (parts : Array (Nat × Value)) (hp : ps.toList.map (fun p => (p.1, a.eval p.2)) = parts.toList) (hr : ∀ w, (Instr.build t parts).run P w = .ok v w) : YieldsIf P ops S o v a :=
  .inl ⟨hw, fun w _ => by
    have hp' : (ps.map fun (i, x) => (i, a.eval x)) = parts := by rw [← Array.toList_inj, Array.toList_map]; exact hp
    unfold execOp; simp only [ho, hp', Sem.run_bind, hr, Result.andThen_ok, Sem.run_pure]⟩
theorem wl_build {P : Program} {ops : Array Oper} {rest : List Oper} {o : Oper} {a : Act} {w : World} {Q : Exit → Act → World → Prop} (hg : o.guard = none) (t : TypeId) (ps : Array (Nat × Operand)) (ho : o.op = .build t ps) (parts : Array (Nat × Value)) (hp : ps.toList.map (fun p => (p.1, a.eval p.2)) = parts.toList) (v : Value) (hr : ∀ w, (Instr.build t parts).run P w = .ok v w)
    (h : wpList P ops Q rest (a.put o.dst v) w) : wpList P ops Q (o :: rest) a w :=
  wpList_plain hg fun _ hK => by
    have hp' : (ps.map fun (i, x) => (i, a.eval x)) = parts := by rw [← Array.toList_inj, Array.toList_map]; exact hp
    unfold Oper.wp execOp; simp only [ho, hp', Sem.run_bind, hr, Result.andThen_ok, Sem.run_pure]; exact hK _ _ h
/-- a struct's cells in a block of the call's own -/
structure GA (W0 : World) (C : Array Value) (g : Nat) (W : World) : Prop where
  b : Bl W0 W
  c : W.heap[g]? = some (.cells C 41 (0, 0))
  l : W0.heap.size ≤ g
theorem GA.lt {W0 W : World} {C : Array Value} {g : Nat} (h : GA W0 C g W) : g < W.heap.size := by
  rcases Nat.lt_or_ge g W.heap.size with h' | h'
  · exact h'
  · have := h.c; rw [Array.getElem?_eq_none h'] at this; simp at this
theorem GA.step {W0 W w' : World} {C : Array Value} {g : Nat} (h : GA W0 C g W) (hb : Below W.heap.size W w') : GA W0 C g w' := ⟨Bl.step h.b hb, by rw [hb.block _ h.lt]; exact h.c, h.l⟩
theorem GA.put {W0 W : World} {C : Array Value} {g : Nat} (h : GA W0 C g W) (D : Array Value) : GA W0 D g (W.setRow g D) := ⟨below_setRow h.b h.l _, setRow_heap _ _ _ _ _ _ h.c, h.l⟩

set_option maxRecDepth 8000 in
set_option maxHeartbeats 4000000 in
theorem rr_yes (a n o : List UInt8) (x : Int) (sa : Option Addr) (c : Nat) (w : World) (ha : a.length = 32) (ho : o.length = 32) (hnl : n.length ≤ 9223372036854775807) (hv : Strs w.heap.size w (.slice sa 4 c) [V.kr, a, n, o]) (hN : M.readNum n = some (x, [])) (hcan : V.canB ⟨a, x, o⟩ = true) :
    Calls Tryz.prog 71 #[.slice sa 4 c] w fun e w' => e = .returned (rrYes ⟨a, x, o⟩) ∧ Below w.heap.size w w' := by
  obtain ⟨sb, off, rfl, hsb, hc⟩ := sc_of (l := [V.kr, a, n, o]) hv (by simp)
  have hx := (M.readNum_some _ _ _ hN).2
  have hr32 : Rc32 ⟨a, x, o⟩ := ⟨ha, ho, hx.1, by have := hx.2; simp only; omega⟩
  have hB0 : Below w.heap.size w (w.alloc (.cells (rv V.zr) 41)) := (Below.refl _ w).alloc (Nat.le_refl _) _
  have hc0 : w.cell? ⟨sb, off, none⟩ = some (.string (M.bs V.kr)) := hc 0 V.kr rfl
  have hc1 : w.cell? ⟨sb, off + 1, none⟩ = some (.string (M.bs a)) := hc 1 a rfl
  have hc2 : w.cell? ⟨sb, off + 2, none⟩ = some (.string (M.bs n)) := hc 2 n rfl
  have hc3 : w.cell? ⟨sb, off + 3, none⟩ = some (.string (M.bs o)) := hc 3 o rfl
  have hq : ((M.bs V.kr).toList == [114]) = true := by rw [bs_eqC]; decide
  have hza := M.bs_size a
  have hzo := M.bs_size o
  rw [ha] at hza
  rw [ho] at hzo
  have hzs := rv_size zr32
  have hne := bs_nil
  have hrs := rv_size hr32
  obtain ⟨fs, hum⟩ := und35
  have H0 : Bl (w.alloc (.cells (rv V.zr) 41)) (w.alloc (.cells (rv V.zr) 41)) := Below.refl _ _
  have HE : Hid (∀ W, Bl (w.alloc (.cells (rv V.zr) 41)) W → Below w.heap.size w W ∧ W.heap[w.heap.size]? = some (.cells (rv V.zr) 41 (0, 0))) := fun W hW => ⟨hB0.trans (Below.mono hW (by simp)), by rw [Below.block hW _ (by simp)]; exact hst35 w⟩
  have CN1 := fun W hW => readNum_b (w0 := w.alloc (.cells (rv V.zr) 41)) (w := W) n (by unfold maxLen; omega) hW
  have CN : Hid (∀ W, Bl (w.alloc (.cells (rv V.zr) 41)) W → Calls Tryz.prog 87 #[.string (M.bs n)] W fun e w' => e = .returned (.tuple #[.int .i64 x, .string (M.bs []), .bool true]) ∧ Bl (w.alloc (.cells (rv V.zr) 41)) w') := fun W hW => by
    have h := CN1 W hW
    rw [hN] at h
    exact h
  have CG : Hid (∀ d : List UInt8, d.length = 32 → ∀ W, Bl (w.alloc (.cells (rv V.zr) 41)) W → Calls Tryz.prog 85 #[.string (M.bs d)] W fun e w' => e = .returned (.agg (dg d)) ∧ Bl (w.alloc (.cells (rv V.zr) 41)) w' ∧ Below W.heap.size W w') := fun d hd W hW => by
    refine (digestOf_at d hd W).mono ?_
    rintro e w' ⟨rfl, hb⟩; exact ⟨rfl, Bl.step hW hb, hb⟩
  have CC : Hid (∀ W, Calls Tryz.prog 33 #[.agg (rv ⟨a, x, o⟩)] W fun e w' => e = .returned (.bool true) ∧ Below W.heap.size W w') := fun W => by
    have h := canBe_at ⟨a, x, o⟩ hr32 W
    rw [hcan] at h
    exact h
  have KP : Hid (∀ W, Bl (w.alloc (.cells (rv V.zr) 41)) W → Bl (w.alloc (.cells (rv V.zr) 41)) W ∧ W.cell? ⟨sb, off + 1, none⟩ = some (.string (M.bs a)) ∧ W.cell? ⟨sb, off + 3, none⟩ = some (.string (M.bs o))) := fun W hW =>
    ⟨hW, by rw [Below.cell hW (p := ⟨sb, off + 1, none⟩) (by simp; omega), hB0.cell (p := ⟨sb, off + 1, none⟩) hsb]; exact hc1, by rw [Below.cell hW (p := ⟨sb, off + 3, none⟩) (by simp; omega), hB0.cell (p := ⟨sb, off + 3, none⟩) hsb]; exact hc3⟩
  have HAL : Hid (∀ W, Bl (w.alloc (.cells (rv V.zr) 41)) W → Bl (w.alloc (.cells (rv V.zr) 41)) (W.alloc (.cells (rv V.zr) 41))) := fun W hW => Bl.alloc hW _
  have HNEW : Hid (∀ W, Bl (w.alloc (.cells (rv V.zr) 41)) W → GA (w.alloc (.cells (rv V.zr) 41)) (rv V.zr) W.heap.size (W.alloc (.cells (rv V.zr) 41))) := fun W hW => ⟨Bl.alloc hW _, heap_alloc_new _ _, Below.size hW⟩
  obtain ⟨CR, hCR⟩ : ∃ CR, CR = rv ⟨a, x, o⟩ := ⟨_, rfl⟩
  have hST : CR = CR := rfl
  have hCRs : CR.size = 65 := by rw [hCR]; first | exact hrs | exact hzs
  have hCR1 : CR.all (·.oneCell') = true := by rw [hCR]; exact rv_one _
  have HV : Hid (Ending.returned (.tuple #[.agg CR, .bool true]) = .returned (rrYes ⟨a, x, o⟩)) := by rw [hCR]; rfl
  have HCR : Hid (CR = _) := hCR
  clear hCR hST
  generalize V.kr = KR at *
  clear hc hv hB0 hnl CN1 hcan hx hr32 hN
  go_enter Tryz.func71, Tryz.ntmps71
  go_wp2_with (go_at_call 87; refine (CN.out _ H0).mono ?_; clear CN H0; rintro e w2 ⟨rfl, HB2⟩)
  have HB2d : Bl (w.alloc (.cells (rv V.zr) 41)) w2.drew := Bl.drewN HB2 1
  refine wp_region_noPanic ?_
  refine wp_region_held_drew (S := (fun W => Bl (w.alloc (.cells (rv V.zr) 41)) W ∧ W.cell? ⟨sb, off + 1, none⟩ = some (.string (M.bs a)) ∧ W.cell? ⟨sb, off + 3, none⟩ = some (.string (M.bs o)))) (by kernel_rfl) (KP.out _ HB2d) (fun hHeld => ?_)
  refine wpAnyH_take (i := 0) rfl (by kernel_rfl) (by kernel_rfl) (by kernel_rfl) (fun _ _ _ h => h) (yi_move (by kernel_rfl) rfl rfl) (by assumption) ?_
  simp only [Act.put, List.getElem_toArray, List.getElem_cons_succ, List.getElem_cons_zero, List.setIfInBounds_toArray, List.set_cons_zero, List.set_cons_succ]
  refine wpAnyH_take (i := 1) (v := ?_) rfl (by kernel_rfl) (by kernel_rfl) (by kernel_rfl) (fun _ _ _ h => h) (Or.inl ⟨by kernel_rfl, ?_⟩) (by assumption) ?_
  rotate_left
  · (intro w hSw; (try dsimp only at hSw); go_simp; (try with_reducible rfl))
  simp only [Act.put, List.getElem_toArray, List.getElem_cons_succ, List.getElem_cons_zero, List.setIfInBounds_toArray, List.set_cons_zero, List.set_cons_succ]
  refine wpAnyH_take (i := 2) (v := ?_) rfl (by kernel_rfl) (by kernel_rfl) (by kernel_rfl) (fun _ _ _ h => h) (Or.inl ⟨by kernel_rfl, ?_⟩) (by assumption) ?_
  rotate_left
  · (intro w hSw; (try dsimp only at hSw); go_simp; (try with_reducible rfl))
  simp only [Act.put, List.getElem_toArray, List.getElem_cons_succ, List.getElem_cons_zero, List.setIfInBounds_toArray, List.set_cons_zero, List.set_cons_succ]
  refine wpAnyH_take (i := 4) rfl (by kernel_rfl) (by kernel_rfl) (by kernel_rfl) (fun _ _ _ h => h) (yi_move (by kernel_rfl) rfl rfl) (by assumption) ?_
  simp only [Act.put, List.getElem_toArray, List.getElem_cons_succ, List.getElem_cons_zero, List.setIfInBounds_toArray, List.set_cons_zero, List.set_cons_succ]
  refine wpAnyH_take (i := 5) rfl (by kernel_rfl) (by kernel_rfl) (by kernel_rfl) (fun _ _ _ h => h) (yi_move (by kernel_rfl) rfl rfl) (by assumption) ?_
  simp only [Act.put, List.getElem_toArray, List.getElem_cons_succ, List.getElem_cons_zero, List.setIfInBounds_toArray, List.set_cons_zero, List.set_cons_succ]
  refine wpAnyH_take (i := 6) (v := ?_) rfl (by kernel_rfl) (by kernel_rfl) (by kernel_rfl) (fun _ _ _ h => h) (Or.inl ⟨by kernel_rfl, ?_⟩) (by assumption) ?_
  rotate_left
  · (intro w hSw; (try dsimp only at hSw); go_simp; (try with_reducible rfl))
  simp only [Act.put, List.getElem_toArray, List.getElem_cons_succ, List.getElem_cons_zero, List.setIfInBounds_toArray, List.set_cons_zero, List.set_cons_succ]
  refine wpAnyH_take (i := 7) (v := ?_) rfl (by kernel_rfl) (by kernel_rfl) (by kernel_rfl) (fun _ _ _ h => h) (Or.inl ⟨by kernel_rfl, ?_⟩) (by assumption) ?_
  rotate_left
  · (intro w hSw; (try dsimp only at hSw); go_simp; (try with_reducible rfl))
  simp only [Act.put, List.getElem_toArray, List.getElem_cons_succ, List.getElem_cons_zero, List.setIfInBounds_toArray, List.set_cons_zero, List.set_cons_succ]
  refine wpAnyH_ready (rs := [3, 10]) (by kernel_rfl) (by simp) ?_
  refine AllReadyH.cons (o := _) rfl (fun K hK => ?_) ?_
  · go_simp
    (go_at_call 85; refine (CG.out _ (by assumption) _ HB2d).mono ?_; rintro e w8 ⟨rfl, HB8, HBB8⟩; (try have HG := HG.step HBB8); dsimp only)
    refine hK.out _ _ (KP.out _ HB8) (fun hHeld => ?_)
    clear hK K
    (try simp only [Act.put, List.getElem_toArray, List.getElem_cons_succ, List.getElem_cons_zero, List.setIfInBounds_toArray, List.set_cons_zero, List.set_cons_succ])
    refine wpAnyH_ready (rs := [8, 10]) (by kernel_rfl) (by simp) ?_
    refine AllReadyH.cons (o := _) rfl (fun K hK => ?_) ?_
    · go_simp
      (go_at_call 85; refine (CG.out _ (by assumption) _ HB8).mono ?_; rintro e w9 ⟨rfl, HB9, HBB9⟩; (try have HG := HG.step HBB9); dsimp only)
      refine hK.out _ _ (KP.out _ HB9) (fun hHeld => ?_)
      clear hK K
      (try simp only [Act.put, List.getElem_toArray, List.getElem_cons_succ, List.getElem_cons_zero, List.setIfInBounds_toArray, List.set_cons_zero, List.set_cons_succ])
      refine wpAnyH_take (i := 9) (v := .agg (rv ⟨a, x, o⟩)) rfl (by kernel_rfl) (by kernel_rfl) (by kernel_rfl) (fun _ _ _ h => h) (yi_build (by kernel_rfl) rfl _ (by rfl) (fun w => build35 a o x ha ho w)) (by assumption) ?_
      simp only [Act.put, List.getElem_toArray, List.getElem_cons_succ, List.getElem_cons_zero, List.setIfInBounds_toArray, List.set_cons_zero, List.set_cons_succ]
      refine wpAnyH_ready (rs := [10]) (by kernel_rfl) (by simp) ?_
      refine AllReadyH.cons (o := _) rfl (fun K hK => ?_) AllReadyH.nil
      go_simp
      have HG := HNEW.out _ HB9
      refine hK.out _ _ (KP.out _ (HAL.out _ HB9)) (fun hHeld => ?_)
      clear hK K
      (try simp only [Act.put, List.getElem_toArray, List.getElem_cons_succ, List.getElem_cons_zero, List.setIfInBounds_toArray, List.set_cons_zero, List.set_cons_succ])
      refine wpAnyH_ready (rs := [11]) (by kernel_rfl) (by simp) ?_
      refine AllReadyH.cons (o := _) rfl (fun K hK => ?_) AllReadyH.nil
      refine stepv_store_row rfl 41 _ _ rfl _ (rv ⟨a, x, o⟩) (by rfl) (by rfl) 41 (rv V.zr) HG.c (by rw [hrs]; exact info35) (by rw [hzs, hrs]) (rv_one _) (hK.out _ _ (KP.out _ (HG.put _).b) (fun hHeld => ?_))
      have HG := HG.put (rv ⟨a, x, o⟩)
      clear hK K
      (try simp only [Act.put, List.getElem_toArray, List.getElem_cons_succ, List.getElem_cons_zero, List.setIfInBounds_toArray, List.set_cons_zero, List.set_cons_succ])
      refine wpAnyH_done (by kernel_rfl) ?_ _
      refine NoPanic.normal ?_
      go_wp2_with (first
        | (refine wpList_load_row rfl 41 _ rfl _ rfl 41 (rv ⟨a, x, o⟩) (0, 0) _ HG.c hum rfl (by rw [hrs]; exact info35) ?_)
        | (go_at_call 33; refine (CC.out _).mono ?_; clear CC; rintro e w30 ⟨rfl, HB30⟩; have HG := HG.step HB30; have HN : Hid _ := (HE.out _ HG.b).2; have HF : Hid _ := (HE.out _ HG.b).1)
        | (refine wpList_store_row rfl 41 _ _ rfl w.heap.size CR rfl (congrArg Value.agg HCR.out.symm) 41 (rv V.zr) HN.out (by rw [hCRs]; exact info35) (by rw [hzs, hCRs]) hCR1 ?_))
      (try simp only [Exit.inBlock, Exit.then])
      refine bodyPost_ret (results2_rowV rfl _ _ _ 41 CR (0, 0) _ rfl (setRow_heap _ _ _ _ _ _ HN.out) hum rfl (by rw [hCRs]; exact info35)) rfl ?_
      exact ⟨HV.out, below_setRow HF.out (Nat.le_refl _) _⟩
    refine AllReadyH.cons (o := _) rfl (fun K hK => ?_) ?_
    · go_simp
      have HG := HNEW.out _ HB8
      refine hK.out _ _ (KP.out _ (HAL.out _ HB8)) (fun hHeld => ?_)
      clear hK K
      (try simp only [Act.put, List.getElem_toArray, List.getElem_cons_succ, List.getElem_cons_zero, List.setIfInBounds_toArray, List.set_cons_zero, List.set_cons_succ])
      refine wpAnyH_ready (rs := [8]) (by kernel_rfl) (by simp) ?_
      refine AllReadyH.cons (o := _) rfl (fun K hK => ?_) AllReadyH.nil
      go_simp
      (go_at_call 85; refine (CG.out _ (by assumption) _ (HAL.out _ HB8)).mono ?_; rintro e w13 ⟨rfl, HB13, HBB13⟩; (try have HG := HG.step HBB13); dsimp only)
      refine hK.out _ _ (KP.out _ HB13) (fun hHeld => ?_)
      clear hK K
      (try simp only [Act.put, List.getElem_toArray, List.getElem_cons_succ, List.getElem_cons_zero, List.setIfInBounds_toArray, List.set_cons_zero, List.set_cons_succ])
      refine wpAnyH_take (i := 9) (v := .agg (rv ⟨a, x, o⟩)) rfl (by kernel_rfl) (by kernel_rfl) (by kernel_rfl) (fun _ _ _ h => h) (yi_build (by kernel_rfl) rfl _ (by rfl) (fun w => build35 a o x ha ho w)) (by assumption) ?_
      simp only [Act.put, List.getElem_toArray, List.getElem_cons_succ, List.getElem_cons_zero, List.setIfInBounds_toArray, List.set_cons_zero, List.set_cons_succ]
      refine wpAnyH_ready (rs := [11]) (by kernel_rfl) (by simp) ?_
      refine AllReadyH.cons (o := _) rfl (fun K hK => ?_) AllReadyH.nil
      refine stepv_store_row rfl 41 _ _ rfl _ (rv ⟨a, x, o⟩) (by rfl) (by rfl) 41 (rv V.zr) HG.c (by rw [hrs]; exact info35) (by rw [hzs, hrs]) (rv_one _) (hK.out _ _ (KP.out _ (HG.put _).b) (fun hHeld => ?_))
      have HG := HG.put (rv ⟨a, x, o⟩)
      clear hK K
      (try simp only [Act.put, List.getElem_toArray, List.getElem_cons_succ, List.getElem_cons_zero, List.setIfInBounds_toArray, List.set_cons_zero, List.set_cons_succ])
      refine wpAnyH_done (by kernel_rfl) ?_ _
      refine NoPanic.normal ?_
      go_wp2_with (first
        | (refine wpList_load_row rfl 41 _ rfl _ rfl 41 (rv ⟨a, x, o⟩) (0, 0) _ HG.c hum rfl (by rw [hrs]; exact info35) ?_)
        | (go_at_call 33; refine (CC.out _).mono ?_; clear CC; rintro e w30 ⟨rfl, HB30⟩; have HG := HG.step HB30; have HN : Hid _ := (HE.out _ HG.b).2; have HF : Hid _ := (HE.out _ HG.b).1)
        | (refine wpList_store_row rfl 41 _ _ rfl w.heap.size CR rfl (congrArg Value.agg HCR.out.symm) 41 (rv V.zr) HN.out (by rw [hCRs]; exact info35) (by rw [hzs, hCRs]) hCR1 ?_))
      (try simp only [Exit.inBlock, Exit.then])
      refine bodyPost_ret (results2_rowV rfl _ _ _ 41 CR (0, 0) _ rfl (setRow_heap _ _ _ _ _ _ HN.out) hum rfl (by rw [hCRs]; exact info35)) rfl ?_
      exact ⟨HV.out, below_setRow HF.out (Nat.le_refl _) _⟩
    exact AllReadyH.nil
  refine AllReadyH.cons (o := _) rfl (fun K hK => ?_) ?_
  · go_simp
    have HG := HNEW.out _ HB2d
    refine hK.out _ _ (KP.out _ (HAL.out _ HB2d)) (fun hHeld => ?_)
    clear hK K
    (try simp only [Act.put, List.getElem_toArray, List.getElem_cons_succ, List.getElem_cons_zero, List.setIfInBounds_toArray, List.set_cons_zero, List.set_cons_succ])
    refine wpAnyH_ready (rs := [3]) (by kernel_rfl) (by simp) ?_
    refine AllReadyH.cons (o := _) rfl (fun K hK => ?_) AllReadyH.nil
    go_simp
    (go_at_call 85; refine (CG.out _ (by assumption) _ (HAL.out _ HB2d)).mono ?_; rintro e w16 ⟨rfl, HB16, HBB16⟩; (try have HG := HG.step HBB16); dsimp only)
    refine hK.out _ _ (KP.out _ HB16) (fun hHeld => ?_)
    clear hK K
    (try simp only [Act.put, List.getElem_toArray, List.getElem_cons_succ, List.getElem_cons_zero, List.setIfInBounds_toArray, List.set_cons_zero, List.set_cons_succ])
    refine wpAnyH_ready (rs := [8]) (by kernel_rfl) (by simp) ?_
    refine AllReadyH.cons (o := _) rfl (fun K hK => ?_) AllReadyH.nil
    go_simp
    (go_at_call 85; refine (CG.out _ (by assumption) _ HB16).mono ?_; rintro e w17 ⟨rfl, HB17, HBB17⟩; (try have HG := HG.step HBB17); dsimp only)
    refine hK.out _ _ (KP.out _ HB17) (fun hHeld => ?_)
    clear hK K
    (try simp only [Act.put, List.getElem_toArray, List.getElem_cons_succ, List.getElem_cons_zero, List.setIfInBounds_toArray, List.set_cons_zero, List.set_cons_succ])
    refine wpAnyH_take (i := 9) (v := .agg (rv ⟨a, x, o⟩)) rfl (by kernel_rfl) (by kernel_rfl) (by kernel_rfl) (fun _ _ _ h => h) (yi_build (by kernel_rfl) rfl _ (by rfl) (fun w => build35 a o x ha ho w)) (by assumption) ?_
    simp only [Act.put, List.getElem_toArray, List.getElem_cons_succ, List.getElem_cons_zero, List.setIfInBounds_toArray, List.set_cons_zero, List.set_cons_succ]
    refine wpAnyH_ready (rs := [11]) (by kernel_rfl) (by simp) ?_
    refine AllReadyH.cons (o := _) rfl (fun K hK => ?_) AllReadyH.nil
    refine stepv_store_row rfl 41 _ _ rfl _ (rv ⟨a, x, o⟩) (by rfl) (by rfl) 41 (rv V.zr) HG.c (by rw [hrs]; exact info35) (by rw [hzs, hrs]) (rv_one _) (hK.out _ _ (KP.out _ (HG.put _).b) (fun hHeld => ?_))
    have HG := HG.put (rv ⟨a, x, o⟩)
    clear hK K
    (try simp only [Act.put, List.getElem_toArray, List.getElem_cons_succ, List.getElem_cons_zero, List.setIfInBounds_toArray, List.set_cons_zero, List.set_cons_succ])
    refine wpAnyH_done (by kernel_rfl) ?_ _
    refine NoPanic.normal ?_
    go_wp2_with (first
      | (refine wpList_load_row rfl 41 _ rfl _ rfl 41 (rv ⟨a, x, o⟩) (0, 0) _ HG.c hum rfl (by rw [hrs]; exact info35) ?_)
      | (go_at_call 33; refine (CC.out _).mono ?_; clear CC; rintro e w30 ⟨rfl, HB30⟩; have HG := HG.step HB30; have HN : Hid _ := (HE.out _ HG.b).2; have HF : Hid _ := (HE.out _ HG.b).1)
      | (refine wpList_store_row rfl 41 _ _ rfl w.heap.size CR rfl (congrArg Value.agg HCR.out.symm) 41 (rv V.zr) HN.out (by rw [hCRs]; exact info35) (by rw [hzs, hCRs]) hCR1 ?_))
    (try simp only [Exit.inBlock, Exit.then])
    refine bodyPost_ret (results2_rowV rfl _ _ _ 41 CR (0, 0) _ rfl (setRow_heap _ _ _ _ _ _ HN.out) hum rfl (by rw [hCRs]; exact info35)) rfl ?_
    exact ⟨HV.out, below_setRow HF.out (Nat.le_refl _) _⟩
  exact AllReadyH.nil

set_option maxRecDepth 8000 in
set_option maxHeartbeats 4000000 in
theorem rr_cant (a n o : List UInt8) (x : Int) (sa : Option Addr) (c : Nat) (w : World) (ha : a.length = 32) (ho : o.length = 32) (hnl : n.length ≤ 9223372036854775807) (hv : Strs w.heap.size w (.slice sa 4 c) [V.kr, a, n, o]) (hN : M.readNum n = some (x, [])) (hcan : V.canB ⟨a, x, o⟩ = false) :
    Calls Tryz.prog 71 #[.slice sa 4 c] w fun e w' => e = .returned rrNo ∧ Below w.heap.size w w' := by
  obtain ⟨sb, off, rfl, hsb, hc⟩ := sc_of (l := [V.kr, a, n, o]) hv (by simp)
  have hx := (M.readNum_some _ _ _ hN).2
  have hr32 : Rc32 ⟨a, x, o⟩ := ⟨ha, ho, hx.1, by have := hx.2; simp only; omega⟩
  have hB0 : Below w.heap.size w (w.alloc (.cells (rv V.zr) 41)) := (Below.refl _ w).alloc (Nat.le_refl _) _
  have hc0 : w.cell? ⟨sb, off, none⟩ = some (.string (M.bs V.kr)) := hc 0 V.kr rfl
  have hc1 : w.cell? ⟨sb, off + 1, none⟩ = some (.string (M.bs a)) := hc 1 a rfl
  have hc2 : w.cell? ⟨sb, off + 2, none⟩ = some (.string (M.bs n)) := hc 2 n rfl
  have hc3 : w.cell? ⟨sb, off + 3, none⟩ = some (.string (M.bs o)) := hc 3 o rfl
  have hq : ((M.bs V.kr).toList == [114]) = true := by rw [bs_eqC]; decide
  have hza := M.bs_size a
  have hzo := M.bs_size o
  rw [ha] at hza
  rw [ho] at hzo
  have hzs := rv_size zr32
  have hne := bs_nil
  have hrs := rv_size hr32
  obtain ⟨fs, hum⟩ := und35
  have H0 : Bl (w.alloc (.cells (rv V.zr) 41)) (w.alloc (.cells (rv V.zr) 41)) := Below.refl _ _
  have HE : Hid (∀ W, Bl (w.alloc (.cells (rv V.zr) 41)) W → Below w.heap.size w W ∧ W.heap[w.heap.size]? = some (.cells (rv V.zr) 41 (0, 0))) := fun W hW => ⟨hB0.trans (Below.mono hW (by simp)), by rw [Below.block hW _ (by simp)]; exact hst35 w⟩
  have CN1 := fun W hW => readNum_b (w0 := w.alloc (.cells (rv V.zr) 41)) (w := W) n (by unfold maxLen; omega) hW
  have CN : Hid (∀ W, Bl (w.alloc (.cells (rv V.zr) 41)) W → Calls Tryz.prog 87 #[.string (M.bs n)] W fun e w' => e = .returned (.tuple #[.int .i64 x, .string (M.bs []), .bool true]) ∧ Bl (w.alloc (.cells (rv V.zr) 41)) w') := fun W hW => by
    have h := CN1 W hW
    rw [hN] at h
    exact h
  have CG : Hid (∀ d : List UInt8, d.length = 32 → ∀ W, Bl (w.alloc (.cells (rv V.zr) 41)) W → Calls Tryz.prog 85 #[.string (M.bs d)] W fun e w' => e = .returned (.agg (dg d)) ∧ Bl (w.alloc (.cells (rv V.zr) 41)) w' ∧ Below W.heap.size W w') := fun d hd W hW => by
    refine (digestOf_at d hd W).mono ?_
    rintro e w' ⟨rfl, hb⟩; exact ⟨rfl, Bl.step hW hb, hb⟩
  have CC : Hid (∀ W, Calls Tryz.prog 33 #[.agg (rv ⟨a, x, o⟩)] W fun e w' => e = .returned (.bool false) ∧ Below W.heap.size W w') := fun W => by
    have h := canBe_at ⟨a, x, o⟩ hr32 W
    rw [hcan] at h
    exact h
  have KP : Hid (∀ W, Bl (w.alloc (.cells (rv V.zr) 41)) W → Bl (w.alloc (.cells (rv V.zr) 41)) W ∧ W.cell? ⟨sb, off + 1, none⟩ = some (.string (M.bs a)) ∧ W.cell? ⟨sb, off + 3, none⟩ = some (.string (M.bs o))) := fun W hW =>
    ⟨hW, by rw [Below.cell hW (p := ⟨sb, off + 1, none⟩) (by simp; omega), hB0.cell (p := ⟨sb, off + 1, none⟩) hsb]; exact hc1, by rw [Below.cell hW (p := ⟨sb, off + 3, none⟩) (by simp; omega), hB0.cell (p := ⟨sb, off + 3, none⟩) hsb]; exact hc3⟩
  have HAL : Hid (∀ W, Bl (w.alloc (.cells (rv V.zr) 41)) W → Bl (w.alloc (.cells (rv V.zr) 41)) (W.alloc (.cells (rv V.zr) 41))) := fun W hW => Bl.alloc hW _
  have HNEW : Hid (∀ W, Bl (w.alloc (.cells (rv V.zr) 41)) W → GA (w.alloc (.cells (rv V.zr) 41)) (rv V.zr) W.heap.size (W.alloc (.cells (rv V.zr) 41))) := fun W hW => ⟨Bl.alloc hW _, heap_alloc_new _ _, Below.size hW⟩
  obtain ⟨CR, hCR⟩ : ∃ CR, CR = rv V.zr := ⟨_, rfl⟩
  have hST : CR = CR := rfl
  have hCRs : CR.size = 65 := by rw [hCR]; first | exact hrs | exact hzs
  have hCR1 : CR.all (·.oneCell') = true := by rw [hCR]; exact rv_one _
  have HV : Hid (Ending.returned (.tuple #[.agg CR, .bool false]) = .returned rrNo) := by rw [hCR]; rfl
  have HCR : Hid (CR = _) := hCR
  clear hCR hST
  generalize V.kr = KR at *
  clear hc hv hB0 hnl CN1 hcan hx hr32 hN
  go_enter Tryz.func71, Tryz.ntmps71
  go_wp2_with (go_at_call 87; refine (CN.out _ H0).mono ?_; clear CN H0; rintro e w2 ⟨rfl, HB2⟩)
  have HB2d : Bl (w.alloc (.cells (rv V.zr) 41)) w2.drew := Bl.drewN HB2 1
  refine wp_region_noPanic ?_
  refine wp_region_held_drew (S := (fun W => Bl (w.alloc (.cells (rv V.zr) 41)) W ∧ W.cell? ⟨sb, off + 1, none⟩ = some (.string (M.bs a)) ∧ W.cell? ⟨sb, off + 3, none⟩ = some (.string (M.bs o)))) (by kernel_rfl) (KP.out _ HB2d) (fun hHeld => ?_)
  refine wpAnyH_take (i := 0) rfl (by kernel_rfl) (by kernel_rfl) (by kernel_rfl) (fun _ _ _ h => h) (yi_move (by kernel_rfl) rfl rfl) (by assumption) ?_
  simp only [Act.put, List.getElem_toArray, List.getElem_cons_succ, List.getElem_cons_zero, List.setIfInBounds_toArray, List.set_cons_zero, List.set_cons_succ]
  refine wpAnyH_take (i := 1) (v := ?_) rfl (by kernel_rfl) (by kernel_rfl) (by kernel_rfl) (fun _ _ _ h => h) (Or.inl ⟨by kernel_rfl, ?_⟩) (by assumption) ?_
  rotate_left
  · (intro w hSw; (try dsimp only at hSw); go_simp; (try with_reducible rfl))
  simp only [Act.put, List.getElem_toArray, List.getElem_cons_succ, List.getElem_cons_zero, List.setIfInBounds_toArray, List.set_cons_zero, List.set_cons_succ]
  refine wpAnyH_take (i := 2) (v := ?_) rfl (by kernel_rfl) (by kernel_rfl) (by kernel_rfl) (fun _ _ _ h => h) (Or.inl ⟨by kernel_rfl, ?_⟩) (by assumption) ?_
  rotate_left
  · (intro w hSw; (try dsimp only at hSw); go_simp; (try with_reducible rfl))
  simp only [Act.put, List.getElem_toArray, List.getElem_cons_succ, List.getElem_cons_zero, List.setIfInBounds_toArray, List.set_cons_zero, List.set_cons_succ]
  refine wpAnyH_take (i := 4) rfl (by kernel_rfl) (by kernel_rfl) (by kernel_rfl) (fun _ _ _ h => h) (yi_move (by kernel_rfl) rfl rfl) (by assumption) ?_
  simp only [Act.put, List.getElem_toArray, List.getElem_cons_succ, List.getElem_cons_zero, List.setIfInBounds_toArray, List.set_cons_zero, List.set_cons_succ]
  refine wpAnyH_take (i := 5) rfl (by kernel_rfl) (by kernel_rfl) (by kernel_rfl) (fun _ _ _ h => h) (yi_move (by kernel_rfl) rfl rfl) (by assumption) ?_
  simp only [Act.put, List.getElem_toArray, List.getElem_cons_succ, List.getElem_cons_zero, List.setIfInBounds_toArray, List.set_cons_zero, List.set_cons_succ]
  refine wpAnyH_take (i := 6) (v := ?_) rfl (by kernel_rfl) (by kernel_rfl) (by kernel_rfl) (fun _ _ _ h => h) (Or.inl ⟨by kernel_rfl, ?_⟩) (by assumption) ?_
  rotate_left
  · (intro w hSw; (try dsimp only at hSw); go_simp; (try with_reducible rfl))
  simp only [Act.put, List.getElem_toArray, List.getElem_cons_succ, List.getElem_cons_zero, List.setIfInBounds_toArray, List.set_cons_zero, List.set_cons_succ]
  refine wpAnyH_take (i := 7) (v := ?_) rfl (by kernel_rfl) (by kernel_rfl) (by kernel_rfl) (fun _ _ _ h => h) (Or.inl ⟨by kernel_rfl, ?_⟩) (by assumption) ?_
  rotate_left
  · (intro w hSw; (try dsimp only at hSw); go_simp; (try with_reducible rfl))
  simp only [Act.put, List.getElem_toArray, List.getElem_cons_succ, List.getElem_cons_zero, List.setIfInBounds_toArray, List.set_cons_zero, List.set_cons_succ]
  refine wpAnyH_ready (rs := [3, 10]) (by kernel_rfl) (by simp) ?_
  refine AllReadyH.cons (o := _) rfl (fun K hK => ?_) ?_
  · go_simp
    (go_at_call 85; refine (CG.out _ (by assumption) _ HB2d).mono ?_; rintro e w8 ⟨rfl, HB8, HBB8⟩; (try have HG := HG.step HBB8); dsimp only)
    refine hK.out _ _ (KP.out _ HB8) (fun hHeld => ?_)
    clear hK K
    (try simp only [Act.put, List.getElem_toArray, List.getElem_cons_succ, List.getElem_cons_zero, List.setIfInBounds_toArray, List.set_cons_zero, List.set_cons_succ])
    refine wpAnyH_ready (rs := [8, 10]) (by kernel_rfl) (by simp) ?_
    refine AllReadyH.cons (o := _) rfl (fun K hK => ?_) ?_
    · go_simp
      (go_at_call 85; refine (CG.out _ (by assumption) _ HB8).mono ?_; rintro e w9 ⟨rfl, HB9, HBB9⟩; (try have HG := HG.step HBB9); dsimp only)
      refine hK.out _ _ (KP.out _ HB9) (fun hHeld => ?_)
      clear hK K
      (try simp only [Act.put, List.getElem_toArray, List.getElem_cons_succ, List.getElem_cons_zero, List.setIfInBounds_toArray, List.set_cons_zero, List.set_cons_succ])
      refine wpAnyH_take (i := 9) (v := .agg (rv ⟨a, x, o⟩)) rfl (by kernel_rfl) (by kernel_rfl) (by kernel_rfl) (fun _ _ _ h => h) (yi_build (by kernel_rfl) rfl _ (by rfl) (fun w => build35 a o x ha ho w)) (by assumption) ?_
      simp only [Act.put, List.getElem_toArray, List.getElem_cons_succ, List.getElem_cons_zero, List.setIfInBounds_toArray, List.set_cons_zero, List.set_cons_succ]
      refine wpAnyH_ready (rs := [10]) (by kernel_rfl) (by simp) ?_
      refine AllReadyH.cons (o := _) rfl (fun K hK => ?_) AllReadyH.nil
      go_simp
      have HG := HNEW.out _ HB9
      refine hK.out _ _ (KP.out _ (HAL.out _ HB9)) (fun hHeld => ?_)
      clear hK K
      (try simp only [Act.put, List.getElem_toArray, List.getElem_cons_succ, List.getElem_cons_zero, List.setIfInBounds_toArray, List.set_cons_zero, List.set_cons_succ])
      refine wpAnyH_ready (rs := [11]) (by kernel_rfl) (by simp) ?_
      refine AllReadyH.cons (o := _) rfl (fun K hK => ?_) AllReadyH.nil
      refine stepv_store_row rfl 41 _ _ rfl _ (rv ⟨a, x, o⟩) (by rfl) (by rfl) 41 (rv V.zr) HG.c (by rw [hrs]; exact info35) (by rw [hzs, hrs]) (rv_one _) (hK.out _ _ (KP.out _ (HG.put _).b) (fun hHeld => ?_))
      have HG := HG.put (rv ⟨a, x, o⟩)
      clear hK K
      (try simp only [Act.put, List.getElem_toArray, List.getElem_cons_succ, List.getElem_cons_zero, List.setIfInBounds_toArray, List.set_cons_zero, List.set_cons_succ])
      refine wpAnyH_done (by kernel_rfl) ?_ _
      refine NoPanic.normal ?_
      go_wp2_with (first
        | (refine wpList_load_row rfl 41 _ rfl _ rfl 41 (rv ⟨a, x, o⟩) (0, 0) _ HG.c hum rfl (by rw [hrs]; exact info35) ?_)
        | (go_at_call 33; refine (CC.out _).mono ?_; clear CC; rintro e w30 ⟨rfl, HB30⟩; have HG := HG.step HB30; have HN : Hid _ := (HE.out _ HG.b).2; have HF : Hid _ := (HE.out _ HG.b).1)
        | (refine wpList_store_row rfl 41 _ _ rfl w.heap.size CR rfl (congrArg Value.agg HCR.out.symm) 41 (rv V.zr) HN.out (by rw [hCRs]; exact info35) (by rw [hzs, hCRs]) hCR1 ?_))
      (try simp only [Exit.inBlock, Exit.then])
      refine bodyPost_ret (results2_rowV rfl _ _ _ 41 CR (0, 0) _ rfl (setRow_heap _ _ _ _ _ _ HN.out) hum rfl (by rw [hCRs]; exact info35)) rfl ?_
      exact ⟨HV.out, below_setRow HF.out (Nat.le_refl _) _⟩
    refine AllReadyH.cons (o := _) rfl (fun K hK => ?_) ?_
    · go_simp
      have HG := HNEW.out _ HB8
      refine hK.out _ _ (KP.out _ (HAL.out _ HB8)) (fun hHeld => ?_)
      clear hK K
      (try simp only [Act.put, List.getElem_toArray, List.getElem_cons_succ, List.getElem_cons_zero, List.setIfInBounds_toArray, List.set_cons_zero, List.set_cons_succ])
      refine wpAnyH_ready (rs := [8]) (by kernel_rfl) (by simp) ?_
      refine AllReadyH.cons (o := _) rfl (fun K hK => ?_) AllReadyH.nil
      go_simp
      (go_at_call 85; refine (CG.out _ (by assumption) _ (HAL.out _ HB8)).mono ?_; rintro e w13 ⟨rfl, HB13, HBB13⟩; (try have HG := HG.step HBB13); dsimp only)
      refine hK.out _ _ (KP.out _ HB13) (fun hHeld => ?_)
      clear hK K
      (try simp only [Act.put, List.getElem_toArray, List.getElem_cons_succ, List.getElem_cons_zero, List.setIfInBounds_toArray, List.set_cons_zero, List.set_cons_succ])
      refine wpAnyH_take (i := 9) (v := .agg (rv ⟨a, x, o⟩)) rfl (by kernel_rfl) (by kernel_rfl) (by kernel_rfl) (fun _ _ _ h => h) (yi_build (by kernel_rfl) rfl _ (by rfl) (fun w => build35 a o x ha ho w)) (by assumption) ?_
      simp only [Act.put, List.getElem_toArray, List.getElem_cons_succ, List.getElem_cons_zero, List.setIfInBounds_toArray, List.set_cons_zero, List.set_cons_succ]
      refine wpAnyH_ready (rs := [11]) (by kernel_rfl) (by simp) ?_
      refine AllReadyH.cons (o := _) rfl (fun K hK => ?_) AllReadyH.nil
      refine stepv_store_row rfl 41 _ _ rfl _ (rv ⟨a, x, o⟩) (by rfl) (by rfl) 41 (rv V.zr) HG.c (by rw [hrs]; exact info35) (by rw [hzs, hrs]) (rv_one _) (hK.out _ _ (KP.out _ (HG.put _).b) (fun hHeld => ?_))
      have HG := HG.put (rv ⟨a, x, o⟩)
      clear hK K
      (try simp only [Act.put, List.getElem_toArray, List.getElem_cons_succ, List.getElem_cons_zero, List.setIfInBounds_toArray, List.set_cons_zero, List.set_cons_succ])
      refine wpAnyH_done (by kernel_rfl) ?_ _
      refine NoPanic.normal ?_
      go_wp2_with (first
        | (refine wpList_load_row rfl 41 _ rfl _ rfl 41 (rv ⟨a, x, o⟩) (0, 0) _ HG.c hum rfl (by rw [hrs]; exact info35) ?_)
        | (go_at_call 33; refine (CC.out _).mono ?_; clear CC; rintro e w30 ⟨rfl, HB30⟩; have HG := HG.step HB30; have HN : Hid _ := (HE.out _ HG.b).2; have HF : Hid _ := (HE.out _ HG.b).1)
        | (refine wpList_store_row rfl 41 _ _ rfl w.heap.size CR rfl (congrArg Value.agg HCR.out.symm) 41 (rv V.zr) HN.out (by rw [hCRs]; exact info35) (by rw [hzs, hCRs]) hCR1 ?_))
      (try simp only [Exit.inBlock, Exit.then])
      refine bodyPost_ret (results2_rowV rfl _ _ _ 41 CR (0, 0) _ rfl (setRow_heap _ _ _ _ _ _ HN.out) hum rfl (by rw [hCRs]; exact info35)) rfl ?_
      exact ⟨HV.out, below_setRow HF.out (Nat.le_refl _) _⟩
    exact AllReadyH.nil
  refine AllReadyH.cons (o := _) rfl (fun K hK => ?_) ?_
  · go_simp
    have HG := HNEW.out _ HB2d
    refine hK.out _ _ (KP.out _ (HAL.out _ HB2d)) (fun hHeld => ?_)
    clear hK K
    (try simp only [Act.put, List.getElem_toArray, List.getElem_cons_succ, List.getElem_cons_zero, List.setIfInBounds_toArray, List.set_cons_zero, List.set_cons_succ])
    refine wpAnyH_ready (rs := [3]) (by kernel_rfl) (by simp) ?_
    refine AllReadyH.cons (o := _) rfl (fun K hK => ?_) AllReadyH.nil
    go_simp
    (go_at_call 85; refine (CG.out _ (by assumption) _ (HAL.out _ HB2d)).mono ?_; rintro e w16 ⟨rfl, HB16, HBB16⟩; (try have HG := HG.step HBB16); dsimp only)
    refine hK.out _ _ (KP.out _ HB16) (fun hHeld => ?_)
    clear hK K
    (try simp only [Act.put, List.getElem_toArray, List.getElem_cons_succ, List.getElem_cons_zero, List.setIfInBounds_toArray, List.set_cons_zero, List.set_cons_succ])
    refine wpAnyH_ready (rs := [8]) (by kernel_rfl) (by simp) ?_
    refine AllReadyH.cons (o := _) rfl (fun K hK => ?_) AllReadyH.nil
    go_simp
    (go_at_call 85; refine (CG.out _ (by assumption) _ HB16).mono ?_; rintro e w17 ⟨rfl, HB17, HBB17⟩; (try have HG := HG.step HBB17); dsimp only)
    refine hK.out _ _ (KP.out _ HB17) (fun hHeld => ?_)
    clear hK K
    (try simp only [Act.put, List.getElem_toArray, List.getElem_cons_succ, List.getElem_cons_zero, List.setIfInBounds_toArray, List.set_cons_zero, List.set_cons_succ])
    refine wpAnyH_take (i := 9) (v := .agg (rv ⟨a, x, o⟩)) rfl (by kernel_rfl) (by kernel_rfl) (by kernel_rfl) (fun _ _ _ h => h) (yi_build (by kernel_rfl) rfl _ (by rfl) (fun w => build35 a o x ha ho w)) (by assumption) ?_
    simp only [Act.put, List.getElem_toArray, List.getElem_cons_succ, List.getElem_cons_zero, List.setIfInBounds_toArray, List.set_cons_zero, List.set_cons_succ]
    refine wpAnyH_ready (rs := [11]) (by kernel_rfl) (by simp) ?_
    refine AllReadyH.cons (o := _) rfl (fun K hK => ?_) AllReadyH.nil
    refine stepv_store_row rfl 41 _ _ rfl _ (rv ⟨a, x, o⟩) (by rfl) (by rfl) 41 (rv V.zr) HG.c (by rw [hrs]; exact info35) (by rw [hzs, hrs]) (rv_one _) (hK.out _ _ (KP.out _ (HG.put _).b) (fun hHeld => ?_))
    have HG := HG.put (rv ⟨a, x, o⟩)
    clear hK K
    (try simp only [Act.put, List.getElem_toArray, List.getElem_cons_succ, List.getElem_cons_zero, List.setIfInBounds_toArray, List.set_cons_zero, List.set_cons_succ])
    refine wpAnyH_done (by kernel_rfl) ?_ _
    refine NoPanic.normal ?_
    go_wp2_with (first
      | (refine wpList_load_row rfl 41 _ rfl _ rfl 41 (rv ⟨a, x, o⟩) (0, 0) _ HG.c hum rfl (by rw [hrs]; exact info35) ?_)
      | (go_at_call 33; refine (CC.out _).mono ?_; clear CC; rintro e w30 ⟨rfl, HB30⟩; have HG := HG.step HB30; have HN : Hid _ := (HE.out _ HG.b).2; have HF : Hid _ := (HE.out _ HG.b).1)
      | (refine wpList_store_row rfl 41 _ _ rfl w.heap.size CR rfl (congrArg Value.agg HCR.out.symm) 41 (rv V.zr) HN.out (by rw [hCRs]; exact info35) (by rw [hzs, hCRs]) hCR1 ?_))
    (try simp only [Exit.inBlock, Exit.then])
    refine bodyPost_ret (results2_rowV rfl _ _ _ 41 CR (0, 0) _ rfl (setRow_heap _ _ _ _ _ _ HN.out) hum rfl (by rw [hCRs]; exact info35)) rfl ?_
    exact ⟨HV.out, below_setRow HF.out (Nat.le_refl _) _⟩
  exact AllReadyH.nil

end Go.Proofs.YtlkllcnnnndllaaGreatDoor
