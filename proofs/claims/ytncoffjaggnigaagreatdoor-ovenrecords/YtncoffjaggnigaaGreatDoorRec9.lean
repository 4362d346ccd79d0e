/- OvenRecords: the walk. -/
import Derived.Test.YtncoffjaggnigaaGreatDoorAw9
import Derived.Test.YtncoffjaggnigaaGreatDoorO10
namespace Go.Proofs.YtncoffjaggnigaaGreatDoor
open Go.RowKit
set_option linter.unusedVariables false
set_option linter.unusedSimpArgs false
attribute [local go_sem ↓] zero27 zero35

theorem wl_mid9 {P : Program} {ops : Array Oper} {rest : List Oper} {o : Oper} {a : Act} {w : World} {Q : Exit → Act → World → Prop} (hw : Region.wanted o (yielded ops a.tmps) = true) (ty : TypeId) (x : Operand) (ho : o.op = .load ty x)
    (b q : Nat) (hx : a.eval x = .pointer (some ⟨b, q, none⟩)) (cs : List Value) (d : TypeDesc) (hc : w.rangeAt b q cs)
    (hu : P.underlying ty = some d) (hd : d.isRow = true) (hi : (P.info? ty).map (·.size) = some cs.length)
    (h : wpList P ops Q rest (a.put o.dst (.agg cs.toArray)) w) : wpList P ops Q (o :: rest) a w :=
  wpList_step fun _ hK => by rw [if_pos hw]; exact wp_load_mid ty x ho b q hx cs d hc hu hd hi (hK _ _ h)
/-- texts in blocks of their own, one each -/
structure CX9 (W1 : World) (cs : List (Nat × List UInt8)) (W : World) : Prop where
  b : Bl W1 W
  c : ∀ p ∈ cs, p.1 < W.heap.size ∧ W.cell? ⟨p.1, 0, none⟩ = some (.string (M.bs p.2))
theorem CX9.step {W1 W W' : World} {cs : List (Nat × List UInt8)} (h : CX9 W1 cs W) (hb : Bl W W') : CX9 W1 cs W' := ⟨h.b.step hb, fun p hp => ⟨by have := (h.c p hp).1; have := Below.size hb; omega, by rw [Bl.cell hb (h.c p hp).1]; exact (h.c p hp).2⟩⟩
theorem CX9.new {W1 W : World} {cs : List (Nat × List UInt8)} {T : TypeId} (h : CX9 W1 cs W) (t : List UInt8) : CX9 W1 ((W.heap.size, t) :: cs) (W.alloc (.cells #[.string (M.bs t)] T)) := by
  have y := h.step ((Bl.refl W).alloc (.cells #[.string (M.bs t)] T))
  refine ⟨y.b, fun p hp => ?_⟩
  rcases List.mem_cons.1 hp with rfl | hp
  · exact ⟨by simp, cell_new1 _ _ _⟩
  · exact y.c p hp
theorem bs_eqR (a b : List UInt8) : ((M.bs a).toList == (M.bs b).toList) = decide (a = b) := by
  rw [Lib.toList_data, Lib.toList_data, M.bs_toList, M.bs_toList]
  by_cases h : a = b
  · subst h; simp
  · simp [h]
theorem rec_code (k : List UInt8) (r : O.Re) : (recO k r).code = r.1 := by
  unfold recO; split
  · rename_i h; rw [h]
  · rfl
theorem rec_key (k : List UInt8) (r : O.Re) : (recO k r).key = k := by unfold recO; split <;> rfl
theorem fit_self (k : List UInt8) (r : O.Re) : fitB (recO k r) r = true := by
  unfold fitB; rw [rec_key]; simp [rec_key]
theorem fit_of {k : List UInt8} {a b : O.Re} (h : recO k a = recO k b) : fitB (recO k a) b = true := by
  unfold fitB; rw [rec_key, h]; simp [rec_key]
theorem fit_code {k : List UInt8} {a b : O.Re} (h : a.1 ≠ b.1) : fitB (recO k a) b = false := by
  unfold fitB; rw [rec_key, rec_code, rec_code]; simp [h]
theorem fit_out {k : List UInt8} {a b : O.Re} (h : (recO k a).out ≠ (recO k b).out) : fitB (recO k a) b = false := by
  unfold fitB; rw [rec_key]; simp [h]
set_option maxRecDepth 8000 in
set_option maxHeartbeats 40000000 in
theorem records_walk (k : List UInt8) (a b : O.Re) {w W : World} (hG : GW w) (hT : Tab w) (HB : Bl w W) (hk : k.length = 32) (ha : -9223372036854775808 ≤ a.1 ∧ a.1 ≤ 9223372036854775807 ∧ a.2.length ≤ 9223372036854775807) (hb : -9223372036854775808 ≤ b.1 ∧ b.1 ≤ 9223372036854775807 ∧ b.2.length ≤ 9223372036854775807) :
    Calls Tryz.prog 7 #[.agg (dg k), .agg (resV a), .agg (resV b)] W fun e w' => e = .returned (.bool true) ∧ Bl w w' := by
  obtain ⟨ca, ta⟩ := a
  obtain ⟨cb, tb⟩ := b
  unfold resV
  simp only at *
  have HWZ : Hid (Bl W (((W.alloc (.cells (dg k) 51)).alloc (.cells #[.int .i64 ca, .string (M.bs ta)] 47)).alloc (.cells #[.int .i64 cb, .string (M.bs tb)] 47))) := (((Bl.refl W).alloc _).alloc _).alloc _
  have hz1 := M.bs_size ta
  have hz2 := M.bs_size tb
  have CA : Hid (Calls Tryz.prog 8 #[] (((W.alloc (.cells (dg k) 51)).alloc (.cells #[.int .i64 ca, .string (M.bs ta)] 47)).alloc (.cells #[.int .i64 cb, .string (M.bs tb)] 47)) fun e w' => e = .returned (.bool true) ∧ Bl (((W.alloc (.cells (dg k) 51)).alloc (.cells #[.int .i64 ca, .string (M.bs ta)] 47)).alloc (.cells #[.int .i64 cb, .string (M.bs tb)] 47)) w') := awake_9 (hG.below (HB.step HWZ.out) hG.z) (hT.below (HB.step HWZ.out)) (Bl.refl _)
  have HFA : Hid (∀ U, Bl (((W.alloc (.cells (dg k) 51)).alloc (.cells #[.int .i64 ca, .string (M.bs ta)] 47)).alloc (.cells #[.int .i64 cb, .string (M.bs tb)] 47)) U → U.rangeAt W.heap.size 0 (k.map vb) ∧ U.cell? ⟨W.heap.size + 1, 0, none⟩ = some (.int .i64 ca) ∧ U.cell? ⟨W.heap.size + 1, 1, none⟩ = some (.string (M.bs ta)) ∧ U.cell? ⟨W.heap.size + 1 + 1, 0, none⟩ = some (.int .i64 cb) ∧ U.cell? ⟨W.heap.size + 1 + 1, 1, none⟩ = some (.string (M.bs tb))) := fun U hU => by
    have s1 : (W.alloc (.cells (dg k) 51)).heap.size = W.heap.size + 1 := by simp
    have s2 : ((W.alloc (.cells (dg k) 51)).alloc (.cells #[.int .i64 ca, .string (M.bs ta)] 47)).heap.size = W.heap.size + 1 + 1 := by simp
    have b2 := heap_alloc_new ((W.alloc (.cells (dg k) 51)).alloc (.cells #[.int .i64 ca, .string (M.bs ta)] 47)) (.cells #[.int .i64 cb, .string (M.bs tb)] 47)
    have b1 := heap_alloc_new (W.alloc (.cells (dg k) 51)) (.cells #[.int .i64 ca, .string (M.bs ta)] 47)
    have b0 := heap_alloc_new W (.cells (dg k) 51)
    rw [s2] at b2
    rw [s1] at b1
    have u2 := Below.block hU _ (TA.lt_heap b2)
    have u1 := Below.block (((Bl.refl ((W.alloc (.cells (dg k) 51)).alloc (.cells #[.int .i64 ca, .string (M.bs ta)] 47))).alloc _).step hU) _ (TA.lt_heap b1)
    have u0 := Below.block ((((Bl.refl (W.alloc (.cells (dg k) 51))).alloc _).alloc _).step hU) _ (TA.lt_heap b0)
    rw [b2] at u2
    rw [b1] at u1
    rw [b0] at u0
    exact ⟨range_part u0 [] (k.map vb) [] 0 (by simp [dg]) rfl, by rw [Lib.cell_of_heap u1]; rfl, by rw [Lib.cell_of_heap u1]; rfl, by rw [Lib.cell_of_heap u2]; rfl, by rw [Lib.cell_of_heap u2]; rfl⟩
  have FIN : Hid (∀ U, Bl (((W.alloc (.cells (dg k) 51)).alloc (.cells #[.int .i64 ca, .string (M.bs ta)] 47)).alloc (.cells #[.int .i64 cb, .string (M.bs tb)] 47)) U → Bl w U) := fun U hU => (HB.step HWZ.out).step hU
  by_cases h1 : 1000 < ta.length
  · clear hG hT HB HWZ
    go_enter Tryz.func7, Tryz.ntmps7
    go_wp2_with (go_at_call 8; refine CA.out.mono ?_; clear CA; rintro e w1 ⟨rfl, H1⟩; obtain ⟨f0, f1, f2, f3, f4⟩ := HFA.out w1 H1; clear f0)
    go_ret
    exact ⟨rfl, FIN.out _ H1⟩
  by_cases h2 : 1000 < tb.length
  · clear hG hT HB HWZ
    go_enter Tryz.func7, Tryz.ntmps7
    go_wp2_with (go_at_call 8; refine CA.out.mono ?_; clear CA; rintro e w1 ⟨rfl, H1⟩; obtain ⟨f0, f1, f2, f3, f4⟩ := HFA.out w1 H1; clear f0)
    go_ret
    exact ⟨rfl, FIN.out _ H1⟩
  have hoa : ReOk (ca, ta) := ⟨ha.1, ha.2.1, by simp only; omega⟩
  have hob : ReOk (cb, tb) := ⟨hb.1, hb.2.1, by simp only; omega⟩
  have HR := recO_ok (k := k) hk hoa
  have hrl := rv_size HR
  have hzl := rv_size zr32
  have hrk := rec_key k (ca, ta)
  have hrc := rec_code k (ca, ta)
  obtain ⟨R, hR⟩ : ∃ R, recO k (ca, ta) = R := ⟨_, rfl⟩
  have CR : Hid (∀ U, Bl (((W.alloc (.cells (dg k) 51)).alloc (.cells #[.int .i64 ca, .string (M.bs ta)] 47)).alloc (.cells #[.int .i64 cb, .string (M.bs tb)] 47)) U → Calls Tryz.prog 21 #[.agg (k.map vb).toArray, .agg #[.int .i64 ca, .string (M.bs ta)]] U fun e w' => e = .returned (.agg (rv R)) ∧ Bl (((W.alloc (.cells (dg k) 51)).alloc (.cells #[.int .i64 ca, .string (M.bs ta)] 47)).alloc (.cells #[.int .i64 cb, .string (M.bs tb)] 47)) w') := fun U hU => by
    rw [← hR]
    refine (Record_x k (ca, ta) hG ((HB.step HWZ.out).step hU) hk hoa).mono ?_
    rintro e w' ⟨rfl, h⟩
    exact ⟨rfl, hU.step h⟩
  rw [hR] at HR hrl hrk hrc
  simp only at hrc
  have CF : Hid (∀ (q : Bool) (c : Int) (t : List UInt8), ReOk (c, t) → fitB R (c, t) = q → ∀ U, Bl (((W.alloc (.cells (dg k) 51)).alloc (.cells #[.int .i64 ca, .string (M.bs ta)] 47)).alloc (.cells #[.int .i64 cb, .string (M.bs tb)] 47)) U → Calls Tryz.prog 22 #[.agg (rvL R).toArray, .agg #[.int .i64 c, .string (M.bs t)]] U fun e w' => e = .returned (.bool q) ∧ Bl U w') := fun q c t ht hq U hU => by
    rw [← hq]
    exact Fits_x R (c, t) hG ((HB.step HWZ.out).step hU) HR ht
  have CF1 := CF.out true ca ta hoa (by rw [← hR]; exact fit_self k (ca, ta))
  have CF1 : Hid (∀ U, Bl (((W.alloc (.cells (dg k) 51)).alloc (.cells #[.int .i64 ca, .string (M.bs ta)] 47)).alloc (.cells #[.int .i64 cb, .string (M.bs tb)] 47)) U → Calls Tryz.prog 22 #[.agg (rvL R).toArray, .agg #[.int .i64 ca, .string (M.bs ta)]] U fun e w' => e = .returned (.bool true) ∧ Bl U w') := CF1
  have CO : Hid (∀ t : List UInt8, t.length ≤ 1000 → ∀ (V U : World) (cs : List (Nat × List UInt8)) (gb : Nat), Bl (((W.alloc (.cells (dg k) 51)).alloc (.cells #[.int .i64 ca, .string (M.bs ta)] 47)).alloc (.cells #[.int .i64 cb, .string (M.bs tb)] 47)) V → CX9 V cs U → (gb, t) ∈ cs → Calls Tryz.prog 19 #[.slice (some ⟨gb, 0, none⟩) 1 1] U fun e w' => e = .returned (.agg (dg (S.sha t))) ∧ CX9 V cs w') := fun t ht V U cs gb hV hU hm => by
    refine (Of_one t gb 1 U (hG.below ((HB.step HWZ.out).step (hV.step hU.b)) hG.z) (hU.c _ hm).1 (hU.c _ hm).2 (by omega)).mono ?_
    rintro e w' ⟨rfl, h⟩
    exact ⟨rfl, hU.step h⟩
  have hik : (Tryz.prog.info? 51).map (·.size) = some (k.map vb).length := by rw [List.length_map, hk]; exact info27
  have hio : (Tryz.prog.info? 51).map (·.size) = some (R.out.map vb).length := by rw [List.length_map, HR.o]; exact info27
  have hir : (Tryz.prog.info? 64).map (·.size) = some (rvL R).length := by rw [rvL_length HR]; exact info35
  obtain ⟨fs, hum⟩ := und35
  have hEK : ∀ U, (Op.equalIn 10000 51 (.agg (k.map vb).toArray) (.agg (k.map vb).toArray)).run Tryz.prog U = .ok true U := fun U => by
    have := eqDg k k hk hk U
    simpa [dg] using this
  have hzd : dg O.zd = zero32 := by unfold dg O.zd zero32; rw [List.map_replicate]; rfl
  have hEO : ca ≠ 0 → ∀ U, (Op.equalIn 10000 51 (.agg (R.out.map vb).toArray) (.agg zero32)).run Tryz.prog U = .ok true U := fun h0 U => by
    have e : R.out = O.zd := by rw [← hR]; unfold recO; rw [if_neg h0]; rfl
    have := eqDg O.zd O.zd (by simp [O.zd]) (by simp [O.zd]) U
    rw [e]
    rw [hzd] at this
    simpa [← hzd, dg] using this
  have XR : Hid (∀ (V U : World), Bl (V.alloc (.cells (rv R) 64)) U → U.rangeAt V.heap.size 0 (k.map vb) ∧ U.rangeAt V.heap.size 0 (rvL R) ∧ U.cell? ⟨V.heap.size, 32, none⟩ = some (.int .i64 ca) ∧ U.rangeAt V.heap.size 33 (R.out.map vb)) := fun V U hU => by
    have b0 := heap_alloc_new V (.cells (rv R) 64)
    have u0 := Below.block hU _ (TA.lt_heap b0)
    rw [b0] at u0
    refine ⟨range_part u0 [] (k.map vb) (.int .i64 R.code :: R.out.map vb) 0 (by rw [← hrk]; simp [rv, rvL]) rfl, range_part u0 [] (rvL R) [] 0 (by simp [rv]) rfl, ?_, range_part u0 (R.key.map vb ++ [.int .i64 R.code]) (R.out.map vb) [] 33 (by simp [rv, rvL]) (by simp [HR.k])⟩
    rw [Lib.cell_of_heap u0, rv_32 HR, hrc]
  have HST : Hid (∀ V : World, (V.alloc (.cells (rv Go.Proofs.YtncoffjaggnigaaGreatDoor.V.zr) 64)).heap[V.heap.size]? = some (.cells (rv Go.Proofs.YtncoffjaggnigaaGreatDoor.V.zr) 64 (0, 0))) := fun V => heap_alloc_new _ _
  clear CF
  by_cases hab : ca = cb
  · subst hab
    by_cases h0 : ca = 0
    · subst h0
      by_cases ht : ta = tb
      · subst ht
        have CF2 : Hid (∀ U, Bl (((W.alloc (.cells (dg k) 51)).alloc (.cells #[.int .i64 0, .string (M.bs ta)] 47)).alloc (.cells #[.int .i64 0, .string (M.bs ta)] 47)) U → Calls Tryz.prog 22 #[.agg (rvL R).toArray, .agg #[.int .i64 0, .string (M.bs ta)]] U fun e w' => e = .returned (.bool true) ∧ Bl U w') := fun U hU => by
          have := Fits_x R (0, ta) hG ((HB.step HWZ.out).step hU) HR hob
          rw [show fitB R (0, ta) = true from by rw [← hR]; exact fit_self k (0, ta)] at this
          exact this
        clear hG hT HB HWZ hoa hob HR hR hrk hrc ha hb CO
        clear hEO
        go_enter Tryz.func7, Tryz.ntmps7
        go_wp2_with (first
          | go_skip
          | (go_at_call 8; refine CA.out.mono ?_; clear CA; rintro e w1 ⟨rfl, H1⟩; obtain ⟨f0, f1, f2, f3, f4⟩ := HFA.out w1 H1; have F0 : Hid _ := f0; clear f0)
          | (refine wpList_load_mid rfl 51 _ rfl W.heap.size 0 rfl (k.map vb) _ F0.out und27 rfl hik ?_)
          | (go_at_call 21; refine (CR.out w1 H1).mono ?_; clear CR; rintro e w2 ⟨rfl, H2⟩; obtain ⟨g0, g1, g2, g3, g4⟩ := HFA.out (w2.alloc (.cells (rv R) 64)) (H2.alloc _); clear g0)
          | (refine wpList_store_row rfl 64 _ _ rfl w2.heap.size (rv R) rfl rfl 64 (rv Go.Proofs.YtncoffjaggnigaaGreatDoor.V.zr) (HST.out w2) (by rw [hrl]; exact info35) (by rw [hzl, hrl]) (rv_one _) ?_; clear HST; rw [World.setRow_alloc_new]))
        have X2 := fun U hU => XR.out w2 U hU
        have HV : Hid (Bl (((W.alloc (.cells (dg k) 51)).alloc (.cells #[.int .i64 0, .string (M.bs ta)] 47)).alloc (.cells #[.int .i64 0, .string (M.bs ta)] 47)) (w2.alloc (.cells (rv R) 64))) := H2.alloc _
        have X2 : Hid (∀ U, Bl (w2.alloc (.cells (rv R) 64)) U → U.rangeAt w2.heap.size 0 (k.map vb) ∧ U.rangeAt w2.heap.size 0 (rvL R) ∧ U.cell? ⟨w2.heap.size, 32, none⟩ = some (.int .i64 0) ∧ U.rangeAt w2.heap.size 33 (R.out.map vb)) := X2
        have KP : Hid (∀ U, Bl (w2.alloc (.cells (rv R) 64)) U → U.cell? ⟨W.heap.size + 1, 0, none⟩ = some (.int .i64 0) ∧ U.cell? ⟨W.heap.size + 1, 1, none⟩ = some (.string (M.bs ta)) ∧ U.cell? ⟨W.heap.size + 1 + 1, 0, none⟩ = some (.int .i64 0) ∧ U.cell? ⟨W.heap.size + 1 + 1, 1, none⟩ = some (.string (M.bs ta))) := fun U hU => (HFA.out U (HV.out.step hU)).2
        clear g1 g2 g3 g4 f1 f2 f3 f4 H1 H2 XR F0
        generalize (w2.alloc (.cells (rv R) 64)) = V at *
        refine wp_region_noPanic ?_
        refine wp_region_held_drew (S := fun U => U.cell? ⟨W.heap.size + 1, 0, none⟩ = some (.int .i64 0) ∧ U.cell? ⟨W.heap.size + 1, 1, none⟩ = some (.string (M.bs ta)) ∧ U.cell? ⟨W.heap.size + 1 + 1, 0, none⟩ = some (.int .i64 0) ∧ U.cell? ⟨W.heap.size + 1 + 1, 1, none⟩ = some (.string (M.bs ta))) (by kernel_rfl) (KP.out _ ((Bl.refl V).drewN 1)) (fun hHeld => ?_)
        refine wpAnyH_take (i := 0) rfl (by kernel_rfl) (by kernel_rfl) (by kernel_rfl) (fun _ _ _ h => h) (yi_move (by kernel_rfl) rfl rfl) (by assumption) ?_
        simp only [Act.put, List.getElem_toArray, List.getElem_cons_succ, List.getElem_cons_zero, List.setIfInBounds_toArray, List.set_cons_zero, List.set_cons_succ]
        refine wpAnyH_take (i := 1) (v := ?_) rfl (by kernel_rfl) (by kernel_rfl) (by kernel_rfl) (fun _ _ _ h => h) (Or.inl ⟨by kernel_rfl, ?_⟩) (by assumption) ?_
        rotate_left
        · (intro w hSw; (try dsimp only at hSw); go_simp; (try with_reducible rfl))
        simp only [Act.put, List.getElem_toArray, List.getElem_cons_succ, List.getElem_cons_zero, List.setIfInBounds_toArray, List.set_cons_zero, List.set_cons_succ]
        refine wpAnyH_take (i := 2) rfl (by kernel_rfl) (by kernel_rfl) (by kernel_rfl) (fun _ _ _ h => h) (yi_move (by kernel_rfl) rfl rfl) (by assumption) ?_
        simp only [Act.put, List.getElem_toArray, List.getElem_cons_succ, List.getElem_cons_zero, List.setIfInBounds_toArray, List.set_cons_zero, List.set_cons_succ]
        refine wpAnyH_take (i := 3) (v := undef) rfl (by kernel_rfl) (by kernel_rfl) (by kernel_rfl) (fun _ _ _ h => h) (Or.inr ⟨by kernel_rfl, rfl⟩) (by assumption) ?_
        simp only [Act.put, List.getElem_toArray, List.getElem_cons_succ, List.getElem_cons_zero, List.setIfInBounds_toArray, List.set_cons_zero, List.set_cons_succ]
        refine wpAnyH_take (i := 4) (v := undef) rfl (by kernel_rfl) (by kernel_rfl) (by kernel_rfl) (fun _ _ _ h => h) (Or.inr ⟨by kernel_rfl, rfl⟩) (by assumption) ?_
        simp only [Act.put, List.getElem_toArray, List.getElem_cons_succ, List.getElem_cons_zero, List.setIfInBounds_toArray, List.set_cons_zero, List.set_cons_succ]
        refine wpAnyH_take (i := 5) (v := undef) rfl (by kernel_rfl) (by kernel_rfl) (by kernel_rfl) (fun _ _ _ h => h) (Or.inr ⟨by kernel_rfl, rfl⟩) (by assumption) ?_
        simp only [Act.put, List.getElem_toArray, List.getElem_cons_succ, List.getElem_cons_zero, List.setIfInBounds_toArray, List.set_cons_zero, List.set_cons_succ]
        refine wpAnyH_take (i := 6) (v := undef) rfl (by kernel_rfl) (by kernel_rfl) (by kernel_rfl) (fun _ _ _ h => h) (Or.inr ⟨by kernel_rfl, rfl⟩) (by assumption) ?_
        simp only [Act.put, List.getElem_toArray, List.getElem_cons_succ, List.getElem_cons_zero, List.setIfInBounds_toArray, List.set_cons_zero, List.set_cons_succ]
        refine wpAnyH_take (i := 7) (v := undef) rfl (by kernel_rfl) (by kernel_rfl) (by kernel_rfl) (fun _ _ _ h => h) (Or.inr ⟨by kernel_rfl, rfl⟩) (by assumption) ?_
        simp only [Act.put, List.getElem_toArray, List.getElem_cons_succ, List.getElem_cons_zero, List.setIfInBounds_toArray, List.set_cons_zero, List.set_cons_succ]
        refine wpAnyH_take (i := 8) (v := ?_) rfl (by kernel_rfl) (by kernel_rfl) (by kernel_rfl) (fun _ _ _ h => h) (Or.inl ⟨by kernel_rfl, ?_⟩) (by assumption) ?_
        rotate_left
        · (intro w hSw; (try dsimp only at hSw); go_simp; (try with_reducible rfl))
        simp only [Act.put, List.getElem_toArray, List.getElem_cons_succ, List.getElem_cons_zero, List.setIfInBounds_toArray, List.set_cons_zero, List.set_cons_succ]
        refine wpAnyH_take (i := 9) rfl (by kernel_rfl) (by kernel_rfl) (by kernel_rfl) (fun _ _ _ h => h) (yi_move (by kernel_rfl) rfl rfl) (by assumption) ?_
        simp only [Act.put, List.getElem_toArray, List.getElem_cons_succ, List.getElem_cons_zero, List.setIfInBounds_toArray, List.set_cons_zero, List.set_cons_succ]
        refine wpAnyH_take (i := 10) (v := undef) rfl (by kernel_rfl) (by kernel_rfl) (by kernel_rfl) (fun _ _ _ h => h) (Or.inr ⟨by kernel_rfl, rfl⟩) (by assumption) ?_
        simp only [Act.put, List.getElem_toArray, List.getElem_cons_succ, List.getElem_cons_zero, List.setIfInBounds_toArray, List.set_cons_zero, List.set_cons_succ]
        refine wpAnyH_take (i := 11) (v := undef) rfl (by kernel_rfl) (by kernel_rfl) (by kernel_rfl) (fun _ _ _ h => h) (Or.inr ⟨by kernel_rfl, rfl⟩) (by assumption) ?_
        simp only [Act.put, List.getElem_toArray, List.getElem_cons_succ, List.getElem_cons_zero, List.setIfInBounds_toArray, List.set_cons_zero, List.set_cons_succ]
        refine wpAnyH_take (i := 12) (v := undef) rfl (by kernel_rfl) (by kernel_rfl) (by kernel_rfl) (fun _ _ _ h => h) (Or.inr ⟨by kernel_rfl, rfl⟩) (by assumption) ?_
        simp only [Act.put, List.getElem_toArray, List.getElem_cons_succ, List.getElem_cons_zero, List.setIfInBounds_toArray, List.set_cons_zero, List.set_cons_succ]
        refine wpAnyH_take (i := 13) (v := undef) rfl (by kernel_rfl) (by kernel_rfl) (by kernel_rfl) (fun _ _ _ h => h) (Or.inr ⟨by kernel_rfl, rfl⟩) (by assumption) ?_
        simp only [Act.put, List.getElem_toArray, List.getElem_cons_succ, List.getElem_cons_zero, List.setIfInBounds_toArray, List.set_cons_zero, List.set_cons_succ]
        refine wpAnyH_take (i := 14) (v := undef) rfl (by kernel_rfl) (by kernel_rfl) (by kernel_rfl) (fun _ _ _ h => h) (Or.inr ⟨by kernel_rfl, rfl⟩) (by assumption) ?_
        simp only [Act.put, List.getElem_toArray, List.getElem_cons_succ, List.getElem_cons_zero, List.setIfInBounds_toArray, List.set_cons_zero, List.set_cons_succ]
        refine wpAnyH_take (i := 15) (v := undef) rfl (by kernel_rfl) (by kernel_rfl) (by kernel_rfl) (fun _ _ _ h => h) (Or.inr ⟨by kernel_rfl, rfl⟩) (by assumption) ?_
        simp only [Act.put, List.getElem_toArray, List.getElem_cons_succ, List.getElem_cons_zero, List.setIfInBounds_toArray, List.set_cons_zero, List.set_cons_succ]
        refine wpAnyH_take (i := 16) (v := undef) rfl (by kernel_rfl) (by kernel_rfl) (by kernel_rfl) (fun _ _ _ h => h) (Or.inr ⟨by kernel_rfl, rfl⟩) (by assumption) ?_
        simp only [Act.put, List.getElem_toArray, List.getElem_cons_succ, List.getElem_cons_zero, List.setIfInBounds_toArray, List.set_cons_zero, List.set_cons_succ]
        refine wpAnyH_take (i := 17) (v := undef) rfl (by kernel_rfl) (by kernel_rfl) (by kernel_rfl) (fun _ _ _ h => h) (Or.inr ⟨by kernel_rfl, rfl⟩) (by assumption) ?_
        simp only [Act.put, List.getElem_toArray, List.getElem_cons_succ, List.getElem_cons_zero, List.setIfInBounds_toArray, List.set_cons_zero, List.set_cons_succ]
        refine wpAnyH_take (i := 18) (v := undef) rfl (by kernel_rfl) (by kernel_rfl) (by kernel_rfl) (fun _ _ _ h => h) (Or.inr ⟨by kernel_rfl, rfl⟩) (by assumption) ?_
        simp only [Act.put, List.getElem_toArray, List.getElem_cons_succ, List.getElem_cons_zero, List.setIfInBounds_toArray, List.set_cons_zero, List.set_cons_succ]
        refine wpAnyH_take (i := 19) (v := ?_) rfl (by kernel_rfl) (by kernel_rfl) (by kernel_rfl) (fun _ _ _ h => h) (Or.inl ⟨by kernel_rfl, ?_⟩) (by assumption) ?_
        rotate_left
        · (intro w hSw; (try dsimp only at hSw); go_simp; (try with_reducible rfl))
        simp only [Act.put, List.getElem_toArray, List.getElem_cons_succ, List.getElem_cons_zero, List.setIfInBounds_toArray, List.set_cons_zero, List.set_cons_succ]
        refine wpAnyH_done (by kernel_rfl) ?_ _
        refine NoPanic.normal ?_
        obtain ⟨x0, x1, x2, x3⟩ := X2.out V.drew ((Bl.refl V).drewN 1)
        obtain ⟨y0, y1, y2, y3, y4⟩ := HFA.out V.drew (HV.out.step ((Bl.refl V).drewN 1))
        have X0 : Hid _ := x0
        have X1 : Hid _ := x1
        have X3 : Hid _ := x3
        have Y0 : Hid _ := y0
        have HU : Hid (Bl V V.drew) := ((Bl.refl V).drewN 1)
        clear x0 x1 x3 y0 hHeld
        generalize V.drew = V1 at *
        go_wp2_with (first
          | go_skip
          | (refine wl_mid9 rfl 51 _ rfl w2.heap.size 0 rfl (k.map vb) _ X0.out und27 rfl hik ?_)
          | (refine wl_mid9 rfl 51 _ rfl W.heap.size 0 rfl (k.map vb) _ Y0.out und27 rfl hik ?_)
          | (refine wl_mid9 rfl 64 _ rfl w2.heap.size 0 rfl (rvL R) _ X1.out hum rfl hir ?_; clear X1)
          | (refine wl_mid9 rfl 64 _ rfl w2.heap.size 0 rfl (rvL R) _ X1b.out hum rfl hir ?_; clear X1b)
          | (go_at_call 22; refine (CF1.out _ (HV.out.step HU.out)).mono ?_; clear CF1; rintro e w5 ⟨rfl, H5⟩; obtain ⟨m0, m1, m2, m3⟩ := X2.out _ (HU.out.step H5); obtain ⟨n0, n1, n2, n3, n4⟩ := HFA.out _ (HV.out.step (HU.out.step H5)); have X1b : Hid _ := m1; clear m0 m1 m3 n0)
          | (go_at_call 22; refine (CF2.out _ (HV.out.step (HU.out.step H5))).mono ?_; clear CF2; rintro e w6 ⟨rfl, H6⟩; obtain ⟨l0, l1, l2, l3⟩ := X2.out _ ((HU.out.step H5).step H6); obtain ⟨r0, r1, r2, r3, r4⟩ := HFA.out _ (HV.out.step ((HU.out.step H5).step H6)); have X3b : Hid _ := l3; clear l0 l1 l3 r0)
          | (refine wl_mid9 rfl 51 _ rfl w2.heap.size 33 rfl (R.out.map vb) _ X3b.out und27 rfl hio ?_))
        go_ret
        exact ⟨rfl, FIN.out _ (HV.out.step ((HU.out.step H5).step H6))⟩

      · have hti : ((M.bs ta).toList == (M.bs tb).toList) = false := by rw [bs_eqR]; simp [ht]
        have hsa := S.sha_length ta
        have hsb := S.sha_length tb
        have hq0 := fun U => eqDg (S.sha ta) (S.sha tb) hsa hsb U
        by_cases hq : S.sha ta = S.sha tb
        · have hEQ : ∀ U, (Op.equalIn 10000 51 (.agg (dg (S.sha ta))) (.agg (dg (S.sha tb)))).run Tryz.prog U = .ok true U := fun U => by rw [hq0 U]; simp [hq]
          clear hq0
          have HTA : Hid (ta.length ≤ 1000) := by show _ ≤ _; omega
          have HTB : Hid (tb.length ≤ 1000) := by show _ ≤ _; omega
          clear hG hT HB HWZ hoa hob HR hR hrk hrc ha hb
          clear hEO hq ht
          go_enter Tryz.func7, Tryz.ntmps7
          go_wp2_with (first
            | go_skip
            | (go_at_call 8; refine CA.out.mono ?_; clear CA; rintro e w1 ⟨rfl, H1⟩; obtain ⟨f0, f1, f2, f3, f4⟩ := HFA.out w1 H1; have F0 : Hid _ := f0; clear f0)
            | (refine wpList_load_mid rfl 51 _ rfl W.heap.size 0 rfl (k.map vb) _ F0.out und27 rfl hik ?_)
            | (go_at_call 21; refine (CR.out w1 H1).mono ?_; clear CR; rintro e w2 ⟨rfl, H2⟩; obtain ⟨g0, g1, g2, g3, g4⟩ := HFA.out (w2.alloc (.cells (rv R) 64)) (H2.alloc _); clear g0)
            | (refine wpList_store_row rfl 64 _ _ rfl w2.heap.size (rv R) rfl rfl 64 (rv Go.Proofs.YtncoffjaggnigaaGreatDoor.V.zr) (HST.out w2) (by rw [hrl]; exact info35) (by rw [hzl, hrl]) (rv_one _) ?_; clear HST; rw [World.setRow_alloc_new]))
          have X2 := fun U hU => XR.out w2 U hU
          have HV : Hid (Bl (((W.alloc (.cells (dg k) 51)).alloc (.cells #[.int .i64 0, .string (M.bs ta)] 47)).alloc (.cells #[.int .i64 0, .string (M.bs tb)] 47)) (w2.alloc (.cells (rv R) 64))) := H2.alloc _
          have X2 : Hid (∀ U, Bl (w2.alloc (.cells (rv R) 64)) U → U.rangeAt w2.heap.size 0 (k.map vb) ∧ U.rangeAt w2.heap.size 0 (rvL R) ∧ U.cell? ⟨w2.heap.size, 32, none⟩ = some (.int .i64 0) ∧ U.rangeAt w2.heap.size 33 (R.out.map vb)) := X2
          have KP : Hid (∀ U, Bl (w2.alloc (.cells (rv R) 64)) U → U.cell? ⟨W.heap.size + 1, 0, none⟩ = some (.int .i64 0) ∧ U.cell? ⟨W.heap.size + 1, 1, none⟩ = some (.string (M.bs ta)) ∧ U.cell? ⟨W.heap.size + 1 + 1, 0, none⟩ = some (.int .i64 0) ∧ U.cell? ⟨W.heap.size + 1 + 1, 1, none⟩ = some (.string (M.bs tb))) := fun U hU => (HFA.out U (HV.out.step hU)).2
          clear g1 g2 g3 g4 f1 f2 f3 f4 H1 H2 XR F0
          generalize (w2.alloc (.cells (rv R) 64)) = V at *
          have CX0 : CX9 V [] V.drew := ⟨(Bl.refl V).drewN 1, fun p hp => by cases hp⟩
          have KPX : Hid (∀ U cs, CX9 V cs U → U.cell? ⟨W.heap.size + 1, 0, none⟩ = some (.int .i64 0) ∧ U.cell? ⟨W.heap.size + 1, 1, none⟩ = some (.string (M.bs ta)) ∧ U.cell? ⟨W.heap.size + 1 + 1, 0, none⟩ = some (.int .i64 0) ∧ U.cell? ⟨W.heap.size + 1 + 1, 1, none⟩ = some (.string (M.bs tb))) := fun U cs hU => KP.out U hU.b
          refine wp_region_noPanic ?_
          refine wp_region_held_drew (S := fun U => U.cell? ⟨W.heap.size + 1, 0, none⟩ = some (.int .i64 0) ∧ U.cell? ⟨W.heap.size + 1, 1, none⟩ = some (.string (M.bs ta)) ∧ U.cell? ⟨W.heap.size + 1 + 1, 0, none⟩ = some (.int .i64 0) ∧ U.cell? ⟨W.heap.size + 1 + 1, 1, none⟩ = some (.string (M.bs tb))) (by kernel_rfl) (KPX.out _ _ CX0) (fun hHeld => ?_)
          refine wpAnyH_take (i := 0) rfl (by kernel_rfl) (by kernel_rfl) (by kernel_rfl) (fun _ _ _ h => h) (yi_move (by kernel_rfl) rfl rfl) (by assumption) ?_
          simp only [Act.put, List.getElem_toArray, List.getElem_cons_succ, List.getElem_cons_zero, List.setIfInBounds_toArray, List.set_cons_zero, List.set_cons_succ]
          refine wpAnyH_take (i := 1) (v := ?_) rfl (by kernel_rfl) (by kernel_rfl) (by kernel_rfl) (fun _ _ _ h => h) (Or.inl ⟨by kernel_rfl, ?_⟩) (by assumption) ?_
          rotate_left
          · (intro w hSw; (try dsimp only at hSw); go_simp; (try with_reducible rfl))
          simp only [Act.put, List.getElem_toArray, List.getElem_cons_succ, List.getElem_cons_zero, List.setIfInBounds_toArray, List.set_cons_zero, List.set_cons_succ]
          refine wpAnyH_take (i := 2) rfl (by kernel_rfl) (by kernel_rfl) (by kernel_rfl) (fun _ _ _ h => h) (yi_move (by kernel_rfl) rfl rfl) (by assumption) ?_
          simp only [Act.put, List.getElem_toArray, List.getElem_cons_succ, List.getElem_cons_zero, List.setIfInBounds_toArray, List.set_cons_zero, List.set_cons_succ]
          refine wpAnyH_take (i := 3) (v := ?_) rfl (by kernel_rfl) (by kernel_rfl) (by kernel_rfl) (fun _ _ _ h => h) (Or.inl ⟨by kernel_rfl, ?_⟩) (by assumption) ?_
          rotate_left
          · (intro w hSw; (try dsimp only at hSw); go_simp; (try with_reducible rfl))
          simp only [Act.put, List.getElem_toArray, List.getElem_cons_succ, List.getElem_cons_zero, List.setIfInBounds_toArray, List.set_cons_zero, List.set_cons_succ]
          refine wpAnyH_take (i := 4) (v := ?_) rfl (by kernel_rfl) (by kernel_rfl) (by kernel_rfl) (fun _ _ _ h => h) (Or.inl ⟨by kernel_rfl, ?_⟩) (by assumption) ?_
          rotate_left
          · (intro w hSw; (try dsimp only at hSw); go_simp; (try with_reducible rfl))
          simp only [Act.put, List.getElem_toArray, List.getElem_cons_succ, List.getElem_cons_zero, List.setIfInBounds_toArray, List.set_cons_zero, List.set_cons_succ]
          refine wpAnyH_take (i := 5) (v := ?_) rfl (by kernel_rfl) (by kernel_rfl) (by kernel_rfl) (fun _ _ _ h => h) (Or.inl ⟨by kernel_rfl, ?_⟩) (by assumption) ?_
          rotate_left
          · (intro w hSw; (try dsimp only at hSw); go_simp; (try with_reducible rfl))
          simp only [Act.put, List.getElem_toArray, List.getElem_cons_succ, List.getElem_cons_zero, List.setIfInBounds_toArray, List.set_cons_zero, List.set_cons_succ]
          refine wpAnyH_take (i := 6) (v := ?_) rfl (by kernel_rfl) (by kernel_rfl) (by kernel_rfl) (fun _ _ _ h => h) (Or.inl ⟨by kernel_rfl, ?_⟩) (by assumption) ?_
          rotate_left
          · (intro w hSw; (try dsimp only at hSw); go_simp; (try with_reducible rfl))
          simp only [Act.put, List.getElem_toArray, List.getElem_cons_succ, List.getElem_cons_zero, List.setIfInBounds_toArray, List.set_cons_zero, List.set_cons_succ]
          refine wpAnyH_take (i := 7) (v := ?_) rfl (by kernel_rfl) (by kernel_rfl) (by kernel_rfl) (fun _ _ _ h => h) (Or.inl ⟨by kernel_rfl, ?_⟩) (by assumption) ?_
          rotate_left
          · (intro w hSw; (try dsimp only at hSw); go_simp; (try with_reducible rfl))
          simp only [Act.put, List.getElem_toArray, List.getElem_cons_succ, List.getElem_cons_zero, List.setIfInBounds_toArray, List.set_cons_zero, List.set_cons_succ]
          refine wpAnyH_take (i := 8) (v := ?_) rfl (by kernel_rfl) (by kernel_rfl) (by kernel_rfl) (fun _ _ _ h => h) (Or.inl ⟨by kernel_rfl, ?_⟩) (by assumption) ?_
          rotate_left
          · (intro w hSw; (try dsimp only at hSw); go_simp; (try with_reducible rfl))
          simp only [Act.put, List.getElem_toArray, List.getElem_cons_succ, List.getElem_cons_zero, List.setIfInBounds_toArray, List.set_cons_zero, List.set_cons_succ]
          refine wpAnyH_take (i := 9) rfl (by kernel_rfl) (by kernel_rfl) (by kernel_rfl) (fun _ _ _ h => h) (yi_move (by kernel_rfl) rfl rfl) (by assumption) ?_
          simp only [Act.put, List.getElem_toArray, List.getElem_cons_succ, List.getElem_cons_zero, List.setIfInBounds_toArray, List.set_cons_zero, List.set_cons_succ]
          refine wpAnyH_take (i := 10) (v := ?_) rfl (by kernel_rfl) (by kernel_rfl) (by kernel_rfl) (fun _ _ _ h => h) (Or.inl ⟨by kernel_rfl, ?_⟩) (by assumption) ?_
          rotate_left
          · (intro w hSw; (try dsimp only at hSw); go_simp; (try with_reducible rfl))
          simp only [Act.put, List.getElem_toArray, List.getElem_cons_succ, List.getElem_cons_zero, List.setIfInBounds_toArray, List.set_cons_zero, List.set_cons_succ]
          refine wpAnyH_take (i := 11) (v := ?_) rfl (by kernel_rfl) (by kernel_rfl) (by kernel_rfl) (fun _ _ _ h => h) (Or.inl ⟨by kernel_rfl, ?_⟩) (by assumption) ?_
          rotate_left
          · (intro w hSw; (try dsimp only at hSw); go_simp; (try with_reducible rfl))
          simp only [Act.put, List.getElem_toArray, List.getElem_cons_succ, List.getElem_cons_zero, List.setIfInBounds_toArray, List.set_cons_zero, List.set_cons_succ]
          refine wpAnyH_take (i := 14) (v := ?_) rfl (by kernel_rfl) (by kernel_rfl) (by kernel_rfl) (fun _ _ _ h => h) (Or.inl ⟨by kernel_rfl, ?_⟩) (by assumption) ?_
          rotate_left
          · (intro w hSw; (try dsimp only at hSw); go_simp; (try with_reducible rfl))
          simp only [Act.put, List.getElem_toArray, List.getElem_cons_succ, List.getElem_cons_zero, List.setIfInBounds_toArray, List.set_cons_zero, List.set_cons_succ]
          refine wpAnyH_take (i := 15) (v := ?_) rfl (by kernel_rfl) (by kernel_rfl) (by kernel_rfl) (fun _ _ _ h => h) (Or.inl ⟨by kernel_rfl, ?_⟩) (by assumption) ?_
          rotate_left
          · (intro w hSw; (try dsimp only at hSw); go_simp; (try with_reducible rfl))
          simp only [Act.put, List.getElem_toArray, List.getElem_cons_succ, List.getElem_cons_zero, List.setIfInBounds_toArray, List.set_cons_zero, List.set_cons_succ]
          refine wpAnyH_ready (rs := [12, 16]) (by kernel_rfl) (by simp) ?_
          refine AllReadyH.cons (o := _) rfl (fun K hK => ?_) ?_
          · go_simp
            refine hK.out _ _ (KPX.out _ _ (CX0.new ta)) (fun hHeld => ?_)
            clear hK K
            (try simp only [Act.put, List.getElem_toArray, List.getElem_cons_succ, List.getElem_cons_zero, List.setIfInBounds_toArray, List.set_cons_zero, List.set_cons_succ])
            refine wpAnyH_ready (rs := [13, 16]) (by kernel_rfl) (by simp) ?_
            refine AllReadyH.cons (o := _) rfl (fun K hK => ?_) ?_
            · go_simp
              (refine (CO.out ta HTA.out _ _ _ _ HV.out (CX0.new ta) (by simp)).mono ?_; rintro e x16 ⟨rfl, HB16⟩; dsimp only)
              refine hK.out _ _ (KPX.out _ _ HB16) (fun hHeld => ?_)
              clear hK K
              (try simp only [Act.put, List.getElem_toArray, List.getElem_cons_succ, List.getElem_cons_zero, List.setIfInBounds_toArray, List.set_cons_zero, List.set_cons_succ])
              refine wpAnyH_ready (rs := [16]) (by kernel_rfl) (by simp) ?_
              refine AllReadyH.cons (o := _) rfl (fun K hK => ?_) AllReadyH.nil
              go_simp
              refine hK.out _ _ (KPX.out _ _ (HB16.new tb)) (fun hHeld => ?_)
              clear hK K
              (try simp only [Act.put, List.getElem_toArray, List.getElem_cons_succ, List.getElem_cons_zero, List.setIfInBounds_toArray, List.set_cons_zero, List.set_cons_succ])
              refine wpAnyH_ready (rs := [17]) (by kernel_rfl) (by simp) ?_
              refine AllReadyH.cons (o := _) rfl (fun K hK => ?_) AllReadyH.nil
              go_simp
              (refine (CO.out tb HTB.out _ _ _ _ HV.out (HB16.new tb) (by simp)).mono ?_; rintro e x18 ⟨rfl, HB18⟩; dsimp only)
              refine hK.out _ _ (KPX.out _ _ HB18) (fun hHeld => ?_)
              clear hK K
              (try simp only [Act.put, List.getElem_toArray, List.getElem_cons_succ, List.getElem_cons_zero, List.setIfInBounds_toArray, List.set_cons_zero, List.set_cons_succ])
              refine wpAnyH_take (i := 18) (v := ?_) rfl (by kernel_rfl) (by kernel_rfl) (by kernel_rfl) (fun _ _ _ h => h) (Or.inl ⟨by kernel_rfl, ?_⟩) (by assumption) ?_
              rotate_left
              · (intro w hSw; (try dsimp only at hSw); go_simp; (try with_reducible rfl))
              simp only [Act.put, List.getElem_toArray, List.getElem_cons_succ, List.getElem_cons_zero, List.setIfInBounds_toArray, List.set_cons_zero, List.set_cons_succ]
              refine wpAnyH_take (i := 19) (v := ?_) rfl (by kernel_rfl) (by kernel_rfl) (by kernel_rfl) (fun _ _ _ h => h) (Or.inl ⟨by kernel_rfl, ?_⟩) (by assumption) ?_
              rotate_left
              · (intro w hSw; (try dsimp only at hSw); go_simp; (try with_reducible rfl))
              simp only [Act.put, List.getElem_toArray, List.getElem_cons_succ, List.getElem_cons_zero, List.setIfInBounds_toArray, List.set_cons_zero, List.set_cons_succ]
              refine wpAnyH_done (by kernel_rfl) ?_ _
              refine NoPanic.normal ?_
              go_wp2_with fail
              go_ret
              exact ⟨rfl, FIN.out _ (HV.out.step (HB18).b)⟩
            refine AllReadyH.cons (o := _) rfl (fun K hK => ?_) ?_
            · go_simp
              refine hK.out _ _ (KPX.out _ _ ((CX0.new ta).new tb)) (fun hHeld => ?_)
              clear hK K
              (try simp only [Act.put, List.getElem_toArray, List.getElem_cons_succ, List.getElem_cons_zero, List.setIfInBounds_toArray, List.set_cons_zero, List.set_cons_succ])
              refine wpAnyH_ready (rs := [13]) (by kernel_rfl) (by simp) ?_
              refine AllReadyH.cons (o := _) rfl (fun K hK => ?_) AllReadyH.nil
              go_simp
              (refine (CO.out ta HTA.out _ _ _ _ HV.out ((CX0.new ta).new tb) (by simp)).mono ?_; rintro e x21 ⟨rfl, HB21⟩; dsimp only)
              refine hK.out _ _ (KPX.out _ _ HB21) (fun hHeld => ?_)
              clear hK K
              (try simp only [Act.put, List.getElem_toArray, List.getElem_cons_succ, List.getElem_cons_zero, List.setIfInBounds_toArray, List.set_cons_zero, List.set_cons_succ])
              refine wpAnyH_ready (rs := [17]) (by kernel_rfl) (by simp) ?_
              refine AllReadyH.cons (o := _) rfl (fun K hK => ?_) AllReadyH.nil
              go_simp
              (refine (CO.out tb HTB.out _ _ _ _ HV.out HB21 (by simp)).mono ?_; rintro e x22 ⟨rfl, HB22⟩; dsimp only)
              refine hK.out _ _ (KPX.out _ _ HB22) (fun hHeld => ?_)
              clear hK K
              (try simp only [Act.put, List.getElem_toArray, List.getElem_cons_succ, List.getElem_cons_zero, List.setIfInBounds_toArray, List.set_cons_zero, List.set_cons_succ])
              refine wpAnyH_take (i := 18) (v := ?_) rfl (by kernel_rfl) (by kernel_rfl) (by kernel_rfl) (fun _ _ _ h => h) (Or.inl ⟨by kernel_rfl, ?_⟩) (by assumption) ?_
              rotate_left
              · (intro w hSw; (try dsimp only at hSw); go_simp; (try with_reducible rfl))
              simp only [Act.put, List.getElem_toArray, List.getElem_cons_succ, List.getElem_cons_zero, List.setIfInBounds_toArray, List.set_cons_zero, List.set_cons_succ]
              refine wpAnyH_take (i := 19) (v := ?_) rfl (by kernel_rfl) (by kernel_rfl) (by kernel_rfl) (fun _ _ _ h => h) (Or.inl ⟨by kernel_rfl, ?_⟩) (by assumption) ?_
              rotate_left
              · (intro w hSw; (try dsimp only at hSw); go_simp; (try with_reducible rfl))
              simp only [Act.put, List.getElem_toArray, List.getElem_cons_succ, List.getElem_cons_zero, List.setIfInBounds_toArray, List.set_cons_zero, List.set_cons_succ]
              refine wpAnyH_done (by kernel_rfl) ?_ _
              refine NoPanic.normal ?_
              go_wp2_with fail
              go_ret
              exact ⟨rfl, FIN.out _ (HV.out.step (HB22).b)⟩
            exact AllReadyH.nil
          refine AllReadyH.cons (o := _) rfl (fun K hK => ?_) ?_
          · go_simp
            refine hK.out _ _ (KPX.out _ _ (CX0.new tb)) (fun hHeld => ?_)
            clear hK K
            (try simp only [Act.put, List.getElem_toArray, List.getElem_cons_succ, List.getElem_cons_zero, List.setIfInBounds_toArray, List.set_cons_zero, List.set_cons_succ])
            refine wpAnyH_ready (rs := [12]) (by kernel_rfl) (by simp) ?_
            refine AllReadyH.cons (o := _) rfl (fun K hK => ?_) AllReadyH.nil
            go_simp
            refine hK.out _ _ (KPX.out _ _ ((CX0.new tb).new ta)) (fun hHeld => ?_)
            clear hK K
            (try simp only [Act.put, List.getElem_toArray, List.getElem_cons_succ, List.getElem_cons_zero, List.setIfInBounds_toArray, List.set_cons_zero, List.set_cons_succ])
            refine wpAnyH_ready (rs := [13]) (by kernel_rfl) (by simp) ?_
            refine AllReadyH.cons (o := _) rfl (fun K hK => ?_) AllReadyH.nil
            go_simp
            (refine (CO.out ta HTA.out _ _ _ _ HV.out ((CX0.new tb).new ta) (by simp)).mono ?_; rintro e x26 ⟨rfl, HB26⟩; dsimp only)
            refine hK.out _ _ (KPX.out _ _ HB26) (fun hHeld => ?_)
            clear hK K
            (try simp only [Act.put, List.getElem_toArray, List.getElem_cons_succ, List.getElem_cons_zero, List.setIfInBounds_toArray, List.set_cons_zero, List.set_cons_succ])
            refine wpAnyH_ready (rs := [17]) (by kernel_rfl) (by simp) ?_
            refine AllReadyH.cons (o := _) rfl (fun K hK => ?_) AllReadyH.nil
            go_simp
            (refine (CO.out tb HTB.out _ _ _ _ HV.out HB26 (by simp)).mono ?_; rintro e x27 ⟨rfl, HB27⟩; dsimp only)
            refine hK.out _ _ (KPX.out _ _ HB27) (fun hHeld => ?_)
            clear hK K
            (try simp only [Act.put, List.getElem_toArray, List.getElem_cons_succ, List.getElem_cons_zero, List.setIfInBounds_toArray, List.set_cons_zero, List.set_cons_succ])
            refine wpAnyH_take (i := 18) (v := ?_) rfl (by kernel_rfl) (by kernel_rfl) (by kernel_rfl) (fun _ _ _ h => h) (Or.inl ⟨by kernel_rfl, ?_⟩) (by assumption) ?_
            rotate_left
            · (intro w hSw; (try dsimp only at hSw); go_simp; (try with_reducible rfl))
            simp only [Act.put, List.getElem_toArray, List.getElem_cons_succ, List.getElem_cons_zero, List.setIfInBounds_toArray, List.set_cons_zero, List.set_cons_succ]
            refine wpAnyH_take (i := 19) (v := ?_) rfl (by kernel_rfl) (by kernel_rfl) (by kernel_rfl) (fun _ _ _ h => h) (Or.inl ⟨by kernel_rfl, ?_⟩) (by assumption) ?_
            rotate_left
            · (intro w hSw; (try dsimp only at hSw); go_simp; (try with_reducible rfl))
            simp only [Act.put, List.getElem_toArray, List.getElem_cons_succ, List.getElem_cons_zero, List.setIfInBounds_toArray, List.set_cons_zero, List.set_cons_succ]
            refine wpAnyH_done (by kernel_rfl) ?_ _
            refine NoPanic.normal ?_
            go_wp2_with fail
            go_ret
            exact ⟨rfl, FIN.out _ (HV.out.step (HB27).b)⟩
          exact AllReadyH.nil

        · have hEQ : ∀ U, (Op.equalIn 10000 51 (.agg (dg (S.sha ta))) (.agg (dg (S.sha tb)))).run Tryz.prog U = .ok false U := fun U => by rw [hq0 U]; simp [hq]
          clear hq0
          have CF2 : Hid (∀ U, Bl (((W.alloc (.cells (dg k) 51)).alloc (.cells #[.int .i64 0, .string (M.bs ta)] 47)).alloc (.cells #[.int .i64 0, .string (M.bs tb)] 47)) U → Calls Tryz.prog 22 #[.agg (rvL R).toArray, .agg #[.int .i64 0, .string (M.bs tb)]] U fun e w' => e = .returned (.bool false) ∧ Bl U w') := fun U hU => by
            have := Fits_x R (0, tb) hG ((HB.step HWZ.out).step hU) HR hob
            rw [show fitB R (0, tb) = false from by rw [← hR]; exact fit_out (by unfold recO; simpa using hq)] at this
            exact this
          have HTA : Hid (ta.length ≤ 1000) := by show _ ≤ _; omega
          have HTB : Hid (tb.length ≤ 1000) := by show _ ≤ _; omega
          clear hG hT HB HWZ hoa hob HR hR hrk hrc ha hb
          clear hEO hq ht
          go_enter Tryz.func7, Tryz.ntmps7
          go_wp2_with (first
            | go_skip
            | (go_at_call 8; refine CA.out.mono ?_; clear CA; rintro e w1 ⟨rfl, H1⟩; obtain ⟨f0, f1, f2, f3, f4⟩ := HFA.out w1 H1; have F0 : Hid _ := f0; clear f0)
            | (refine wpList_load_mid rfl 51 _ rfl W.heap.size 0 rfl (k.map vb) _ F0.out und27 rfl hik ?_)
            | (go_at_call 21; refine (CR.out w1 H1).mono ?_; clear CR; rintro e w2 ⟨rfl, H2⟩; obtain ⟨g0, g1, g2, g3, g4⟩ := HFA.out (w2.alloc (.cells (rv R) 64)) (H2.alloc _); clear g0)
            | (refine wpList_store_row rfl 64 _ _ rfl w2.heap.size (rv R) rfl rfl 64 (rv Go.Proofs.YtncoffjaggnigaaGreatDoor.V.zr) (HST.out w2) (by rw [hrl]; exact info35) (by rw [hzl, hrl]) (rv_one _) ?_; clear HST; rw [World.setRow_alloc_new]))
          have X2 := fun U hU => XR.out w2 U hU
          have HV : Hid (Bl (((W.alloc (.cells (dg k) 51)).alloc (.cells #[.int .i64 0, .string (M.bs ta)] 47)).alloc (.cells #[.int .i64 0, .string (M.bs tb)] 47)) (w2.alloc (.cells (rv R) 64))) := H2.alloc _
          have X2 : Hid (∀ U, Bl (w2.alloc (.cells (rv R) 64)) U → U.rangeAt w2.heap.size 0 (k.map vb) ∧ U.rangeAt w2.heap.size 0 (rvL R) ∧ U.cell? ⟨w2.heap.size, 32, none⟩ = some (.int .i64 0) ∧ U.rangeAt w2.heap.size 33 (R.out.map vb)) := X2
          have KP : Hid (∀ U, Bl (w2.alloc (.cells (rv R) 64)) U → U.cell? ⟨W.heap.size + 1, 0, none⟩ = some (.int .i64 0) ∧ U.cell? ⟨W.heap.size + 1, 1, none⟩ = some (.string (M.bs ta)) ∧ U.cell? ⟨W.heap.size + 1 + 1, 0, none⟩ = some (.int .i64 0) ∧ U.cell? ⟨W.heap.size + 1 + 1, 1, none⟩ = some (.string (M.bs tb))) := fun U hU => (HFA.out U (HV.out.step hU)).2
          clear g1 g2 g3 g4 f1 f2 f3 f4 H1 H2 XR F0
          generalize (w2.alloc (.cells (rv R) 64)) = V at *
          have CX0 : CX9 V [] V.drew := ⟨(Bl.refl V).drewN 1, fun p hp => by cases hp⟩
          have KPX : Hid (∀ U cs, CX9 V cs U → U.cell? ⟨W.heap.size + 1, 0, none⟩ = some (.int .i64 0) ∧ U.cell? ⟨W.heap.size + 1, 1, none⟩ = some (.string (M.bs ta)) ∧ U.cell? ⟨W.heap.size + 1 + 1, 0, none⟩ = some (.int .i64 0) ∧ U.cell? ⟨W.heap.size + 1 + 1, 1, none⟩ = some (.string (M.bs tb))) := fun U cs hU => KP.out U hU.b
          refine wp_region_noPanic ?_
          refine wp_region_held_drew (S := fun U => U.cell? ⟨W.heap.size + 1, 0, none⟩ = some (.int .i64 0) ∧ U.cell? ⟨W.heap.size + 1, 1, none⟩ = some (.string (M.bs ta)) ∧ U.cell? ⟨W.heap.size + 1 + 1, 0, none⟩ = some (.int .i64 0) ∧ U.cell? ⟨W.heap.size + 1 + 1, 1, none⟩ = some (.string (M.bs tb))) (by kernel_rfl) (KPX.out _ _ CX0) (fun hHeld => ?_)
          refine wpAnyH_take (i := 0) rfl (by kernel_rfl) (by kernel_rfl) (by kernel_rfl) (fun _ _ _ h => h) (yi_move (by kernel_rfl) rfl rfl) (by assumption) ?_
          simp only [Act.put, List.getElem_toArray, List.getElem_cons_succ, List.getElem_cons_zero, List.setIfInBounds_toArray, List.set_cons_zero, List.set_cons_succ]
          refine wpAnyH_take (i := 1) (v := ?_) rfl (by kernel_rfl) (by kernel_rfl) (by kernel_rfl) (fun _ _ _ h => h) (Or.inl ⟨by kernel_rfl, ?_⟩) (by assumption) ?_
          rotate_left
          · (intro w hSw; (try dsimp only at hSw); go_simp; (try with_reducible rfl))
          simp only [Act.put, List.getElem_toArray, List.getElem_cons_succ, List.getElem_cons_zero, List.setIfInBounds_toArray, List.set_cons_zero, List.set_cons_succ]
          refine wpAnyH_take (i := 2) rfl (by kernel_rfl) (by kernel_rfl) (by kernel_rfl) (fun _ _ _ h => h) (yi_move (by kernel_rfl) rfl rfl) (by assumption) ?_
          simp only [Act.put, List.getElem_toArray, List.getElem_cons_succ, List.getElem_cons_zero, List.setIfInBounds_toArray, List.set_cons_zero, List.set_cons_succ]
          refine wpAnyH_take (i := 3) (v := ?_) rfl (by kernel_rfl) (by kernel_rfl) (by kernel_rfl) (fun _ _ _ h => h) (Or.inl ⟨by kernel_rfl, ?_⟩) (by assumption) ?_
          rotate_left
          · (intro w hSw; (try dsimp only at hSw); go_simp; (try with_reducible rfl))
          simp only [Act.put, List.getElem_toArray, List.getElem_cons_succ, List.getElem_cons_zero, List.setIfInBounds_toArray, List.set_cons_zero, List.set_cons_succ]
          refine wpAnyH_take (i := 4) (v := ?_) rfl (by kernel_rfl) (by kernel_rfl) (by kernel_rfl) (fun _ _ _ h => h) (Or.inl ⟨by kernel_rfl, ?_⟩) (by assumption) ?_
          rotate_left
          · (intro w hSw; (try dsimp only at hSw); go_simp; (try with_reducible rfl))
          simp only [Act.put, List.getElem_toArray, List.getElem_cons_succ, List.getElem_cons_zero, List.setIfInBounds_toArray, List.set_cons_zero, List.set_cons_succ]
          refine wpAnyH_take (i := 5) (v := ?_) rfl (by kernel_rfl) (by kernel_rfl) (by kernel_rfl) (fun _ _ _ h => h) (Or.inl ⟨by kernel_rfl, ?_⟩) (by assumption) ?_
          rotate_left
          · (intro w hSw; (try dsimp only at hSw); go_simp; (try with_reducible rfl))
          simp only [Act.put, List.getElem_toArray, List.getElem_cons_succ, List.getElem_cons_zero, List.setIfInBounds_toArray, List.set_cons_zero, List.set_cons_succ]
          refine wpAnyH_take (i := 6) (v := ?_) rfl (by kernel_rfl) (by kernel_rfl) (by kernel_rfl) (fun _ _ _ h => h) (Or.inl ⟨by kernel_rfl, ?_⟩) (by assumption) ?_
          rotate_left
          · (intro w hSw; (try dsimp only at hSw); go_simp; (try with_reducible rfl))
          simp only [Act.put, List.getElem_toArray, List.getElem_cons_succ, List.getElem_cons_zero, List.setIfInBounds_toArray, List.set_cons_zero, List.set_cons_succ]
          refine wpAnyH_take (i := 7) (v := ?_) rfl (by kernel_rfl) (by kernel_rfl) (by kernel_rfl) (fun _ _ _ h => h) (Or.inl ⟨by kernel_rfl, ?_⟩) (by assumption) ?_
          rotate_left
          · (intro w hSw; (try dsimp only at hSw); go_simp; (try with_reducible rfl))
          simp only [Act.put, List.getElem_toArray, List.getElem_cons_succ, List.getElem_cons_zero, List.setIfInBounds_toArray, List.set_cons_zero, List.set_cons_succ]
          refine wpAnyH_take (i := 8) (v := ?_) rfl (by kernel_rfl) (by kernel_rfl) (by kernel_rfl) (fun _ _ _ h => h) (Or.inl ⟨by kernel_rfl, ?_⟩) (by assumption) ?_
          rotate_left
          · (intro w hSw; (try dsimp only at hSw); go_simp; (try with_reducible rfl))
          simp only [Act.put, List.getElem_toArray, List.getElem_cons_succ, List.getElem_cons_zero, List.setIfInBounds_toArray, List.set_cons_zero, List.set_cons_succ]
          refine wpAnyH_take (i := 9) rfl (by kernel_rfl) (by kernel_rfl) (by kernel_rfl) (fun _ _ _ h => h) (yi_move (by kernel_rfl) rfl rfl) (by assumption) ?_
          simp only [Act.put, List.getElem_toArray, List.getElem_cons_succ, List.getElem_cons_zero, List.setIfInBounds_toArray, List.set_cons_zero, List.set_cons_succ]
          refine wpAnyH_take (i := 10) (v := ?_) rfl (by kernel_rfl) (by kernel_rfl) (by kernel_rfl) (fun _ _ _ h => h) (Or.inl ⟨by kernel_rfl, ?_⟩) (by assumption) ?_
          rotate_left
          · (intro w hSw; (try dsimp only at hSw); go_simp; (try with_reducible rfl))
          simp only [Act.put, List.getElem_toArray, List.getElem_cons_succ, List.getElem_cons_zero, List.setIfInBounds_toArray, List.set_cons_zero, List.set_cons_succ]
          refine wpAnyH_take (i := 11) (v := ?_) rfl (by kernel_rfl) (by kernel_rfl) (by kernel_rfl) (fun _ _ _ h => h) (Or.inl ⟨by kernel_rfl, ?_⟩) (by assumption) ?_
          rotate_left
          · (intro w hSw; (try dsimp only at hSw); go_simp; (try with_reducible rfl))
          simp only [Act.put, List.getElem_toArray, List.getElem_cons_succ, List.getElem_cons_zero, List.setIfInBounds_toArray, List.set_cons_zero, List.set_cons_succ]
          refine wpAnyH_take (i := 14) (v := ?_) rfl (by kernel_rfl) (by kernel_rfl) (by kernel_rfl) (fun _ _ _ h => h) (Or.inl ⟨by kernel_rfl, ?_⟩) (by assumption) ?_
          rotate_left
          · (intro w hSw; (try dsimp only at hSw); go_simp; (try with_reducible rfl))
          simp only [Act.put, List.getElem_toArray, List.getElem_cons_succ, List.getElem_cons_zero, List.setIfInBounds_toArray, List.set_cons_zero, List.set_cons_succ]
          refine wpAnyH_take (i := 15) (v := ?_) rfl (by kernel_rfl) (by kernel_rfl) (by kernel_rfl) (fun _ _ _ h => h) (Or.inl ⟨by kernel_rfl, ?_⟩) (by assumption) ?_
          rotate_left
          · (intro w hSw; (try dsimp only at hSw); go_simp; (try with_reducible rfl))
          simp only [Act.put, List.getElem_toArray, List.getElem_cons_succ, List.getElem_cons_zero, List.setIfInBounds_toArray, List.set_cons_zero, List.set_cons_succ]
          refine wpAnyH_ready (rs := [12, 16]) (by kernel_rfl) (by simp) ?_
          refine AllReadyH.cons (o := _) rfl (fun K hK => ?_) ?_
          · go_simp
            refine hK.out _ _ (KPX.out _ _ (CX0.new ta)) (fun hHeld => ?_)
            clear hK K
            (try simp only [Act.put, List.getElem_toArray, List.getElem_cons_succ, List.getElem_cons_zero, List.setIfInBounds_toArray, List.set_cons_zero, List.set_cons_succ])
            refine wpAnyH_ready (rs := [13, 16]) (by kernel_rfl) (by simp) ?_
            refine AllReadyH.cons (o := _) rfl (fun K hK => ?_) ?_
            · go_simp
              (refine (CO.out ta HTA.out _ _ _ _ HV.out (CX0.new ta) (by simp)).mono ?_; rintro e x16 ⟨rfl, HB16⟩; dsimp only)
              refine hK.out _ _ (KPX.out _ _ HB16) (fun hHeld => ?_)
              clear hK K
              (try simp only [Act.put, List.getElem_toArray, List.getElem_cons_succ, List.getElem_cons_zero, List.setIfInBounds_toArray, List.set_cons_zero, List.set_cons_succ])
              refine wpAnyH_ready (rs := [16]) (by kernel_rfl) (by simp) ?_
              refine AllReadyH.cons (o := _) rfl (fun K hK => ?_) AllReadyH.nil
              go_simp
              refine hK.out _ _ (KPX.out _ _ (HB16.new tb)) (fun hHeld => ?_)
              clear hK K
              (try simp only [Act.put, List.getElem_toArray, List.getElem_cons_succ, List.getElem_cons_zero, List.setIfInBounds_toArray, List.set_cons_zero, List.set_cons_succ])
              refine wpAnyH_ready (rs := [17]) (by kernel_rfl) (by simp) ?_
              refine AllReadyH.cons (o := _) rfl (fun K hK => ?_) AllReadyH.nil
              go_simp
              (refine (CO.out tb HTB.out _ _ _ _ HV.out (HB16.new tb) (by simp)).mono ?_; rintro e x18 ⟨rfl, HB18⟩; dsimp only)
              refine hK.out _ _ (KPX.out _ _ HB18) (fun hHeld => ?_)
              clear hK K
              (try simp only [Act.put, List.getElem_toArray, List.getElem_cons_succ, List.getElem_cons_zero, List.setIfInBounds_toArray, List.set_cons_zero, List.set_cons_succ])
              refine wpAnyH_take (i := 18) (v := ?_) rfl (by kernel_rfl) (by kernel_rfl) (by kernel_rfl) (fun _ _ _ h => h) (Or.inl ⟨by kernel_rfl, ?_⟩) (by assumption) ?_
              rotate_left
              · (intro w hSw; (try dsimp only at hSw); go_simp; (try with_reducible rfl))
              simp only [Act.put, List.getElem_toArray, List.getElem_cons_succ, List.getElem_cons_zero, List.setIfInBounds_toArray, List.set_cons_zero, List.set_cons_succ]
              refine wpAnyH_take (i := 19) (v := ?_) rfl (by kernel_rfl) (by kernel_rfl) (by kernel_rfl) (fun _ _ _ h => h) (Or.inl ⟨by kernel_rfl, ?_⟩) (by assumption) ?_
              rotate_left
              · (intro w hSw; (try dsimp only at hSw); go_simp; (try with_reducible rfl))
              simp only [Act.put, List.getElem_toArray, List.getElem_cons_succ, List.getElem_cons_zero, List.setIfInBounds_toArray, List.set_cons_zero, List.set_cons_succ]
              refine wpAnyH_done (by kernel_rfl) ?_ _
              refine NoPanic.normal ?_
              obtain ⟨x0, x1, x2, x3⟩ := X2.out _ ((HB18).b)
              obtain ⟨y0, y1, y2, y3, y4⟩ := HFA.out _ (HV.out.step ((HB18).b))
              have X0 : Hid _ := x0
              have X1 : Hid _ := x1
              have X3 : Hid _ := x3
              have Y0 : Hid _ := y0
              have HU : Hid (Bl V _) := ((HB18).b)
              clear x0 x1 x3 y0 hHeld
              go_wp2_with (first
                | go_skip
                | (refine wl_mid9 rfl 51 _ rfl w2.heap.size 0 rfl (k.map vb) _ X0.out und27 rfl hik ?_)
                | (refine wl_mid9 rfl 51 _ rfl W.heap.size 0 rfl (k.map vb) _ Y0.out und27 rfl hik ?_)
                | (refine wl_mid9 rfl 64 _ rfl w2.heap.size 0 rfl (rvL R) _ X1.out hum rfl hir ?_; clear X1)
                | (refine wl_mid9 rfl 64 _ rfl w2.heap.size 0 rfl (rvL R) _ X1b.out hum rfl hir ?_; clear X1b)
                | (go_at_call 22; refine (CF1.out _ (HV.out.step HU.out)).mono ?_; clear CF1; rintro e w5 ⟨rfl, H5⟩; obtain ⟨m0, m1, m2, m3⟩ := X2.out _ (HU.out.step H5); obtain ⟨n0, n1, n2, n3, n4⟩ := HFA.out _ (HV.out.step (HU.out.step H5)); have X1b : Hid _ := m1; clear m0 m1 m3 n0)
                | (go_at_call 22; refine (CF2.out _ (HV.out.step (HU.out.step H5))).mono ?_; clear CF2; rintro e w6 ⟨rfl, H6⟩; obtain ⟨l0, l1, l2, l3⟩ := X2.out _ ((HU.out.step H5).step H6); obtain ⟨r0, r1, r2, r3, r4⟩ := HFA.out _ (HV.out.step ((HU.out.step H5).step H6)); have X3b : Hid _ := l3; clear l0 l1 l3 r0)
                | (refine wl_mid9 rfl 51 _ rfl w2.heap.size 33 rfl (R.out.map vb) _ X3b.out und27 rfl hio ?_))
              go_ret
              exact ⟨rfl, FIN.out _ (HV.out.step ((HU.out.step H5).step H6))⟩
            refine AllReadyH.cons (o := _) rfl (fun K hK => ?_) ?_
            · go_simp
              refine hK.out _ _ (KPX.out _ _ ((CX0.new ta).new tb)) (fun hHeld => ?_)
              clear hK K
              (try simp only [Act.put, List.getElem_toArray, List.getElem_cons_succ, List.getElem_cons_zero, List.setIfInBounds_toArray, List.set_cons_zero, List.set_cons_succ])
              refine wpAnyH_ready (rs := [13]) (by kernel_rfl) (by simp) ?_
              refine AllReadyH.cons (o := _) rfl (fun K hK => ?_) AllReadyH.nil
              go_simp
              (refine (CO.out ta HTA.out _ _ _ _ HV.out ((CX0.new ta).new tb) (by simp)).mono ?_; rintro e x21 ⟨rfl, HB21⟩; dsimp only)
              refine hK.out _ _ (KPX.out _ _ HB21) (fun hHeld => ?_)
              clear hK K
              (try simp only [Act.put, List.getElem_toArray, List.getElem_cons_succ, List.getElem_cons_zero, List.setIfInBounds_toArray, List.set_cons_zero, List.set_cons_succ])
              refine wpAnyH_ready (rs := [17]) (by kernel_rfl) (by simp) ?_
              refine AllReadyH.cons (o := _) rfl (fun K hK => ?_) AllReadyH.nil
              go_simp
              (refine (CO.out tb HTB.out _ _ _ _ HV.out HB21 (by simp)).mono ?_; rintro e x22 ⟨rfl, HB22⟩; dsimp only)
              refine hK.out _ _ (KPX.out _ _ HB22) (fun hHeld => ?_)
              clear hK K
              (try simp only [Act.put, List.getElem_toArray, List.getElem_cons_succ, List.getElem_cons_zero, List.setIfInBounds_toArray, List.set_cons_zero, List.set_cons_succ])
              refine wpAnyH_take (i := 18) (v := ?_) rfl (by kernel_rfl) (by kernel_rfl) (by kernel_rfl) (fun _ _ _ h => h) (Or.inl ⟨by kernel_rfl, ?_⟩) (by assumption) ?_
              rotate_left
              · (intro w hSw; (try dsimp only at hSw); go_simp; (try with_reducible rfl))
              simp only [Act.put, List.getElem_toArray, List.getElem_cons_succ, List.getElem_cons_zero, List.setIfInBounds_toArray, List.set_cons_zero, List.set_cons_succ]
              refine wpAnyH_take (i := 19) (v := ?_) rfl (by kernel_rfl) (by kernel_rfl) (by kernel_rfl) (fun _ _ _ h => h) (Or.inl ⟨by kernel_rfl, ?_⟩) (by assumption) ?_
              rotate_left
              · (intro w hSw; (try dsimp only at hSw); go_simp; (try with_reducible rfl))
              simp only [Act.put, List.getElem_toArray, List.getElem_cons_succ, List.getElem_cons_zero, List.setIfInBounds_toArray, List.set_cons_zero, List.set_cons_succ]
              refine wpAnyH_done (by kernel_rfl) ?_ _
              refine NoPanic.normal ?_
              obtain ⟨x0, x1, x2, x3⟩ := X2.out _ ((HB22).b)
              obtain ⟨y0, y1, y2, y3, y4⟩ := HFA.out _ (HV.out.step ((HB22).b))
              have X0 : Hid _ := x0
              have X1 : Hid _ := x1
              have X3 : Hid _ := x3
              have Y0 : Hid _ := y0
              have HU : Hid (Bl V _) := ((HB22).b)
              clear x0 x1 x3 y0 hHeld
              go_wp2_with (first
                | go_skip
                | (refine wl_mid9 rfl 51 _ rfl w2.heap.size 0 rfl (k.map vb) _ X0.out und27 rfl hik ?_)
                | (refine wl_mid9 rfl 51 _ rfl W.heap.size 0 rfl (k.map vb) _ Y0.out und27 rfl hik ?_)
                | (refine wl_mid9 rfl 64 _ rfl w2.heap.size 0 rfl (rvL R) _ X1.out hum rfl hir ?_; clear X1)
                | (refine wl_mid9 rfl 64 _ rfl w2.heap.size 0 rfl (rvL R) _ X1b.out hum rfl hir ?_; clear X1b)
                | (go_at_call 22; refine (CF1.out _ (HV.out.step HU.out)).mono ?_; clear CF1; rintro e w5 ⟨rfl, H5⟩; obtain ⟨m0, m1, m2, m3⟩ := X2.out _ (HU.out.step H5); obtain ⟨n0, n1, n2, n3, n4⟩ := HFA.out _ (HV.out.step (HU.out.step H5)); have X1b : Hid _ := m1; clear m0 m1 m3 n0)
                | (go_at_call 22; refine (CF2.out _ (HV.out.step (HU.out.step H5))).mono ?_; clear CF2; rintro e w6 ⟨rfl, H6⟩; obtain ⟨l0, l1, l2, l3⟩ := X2.out _ ((HU.out.step H5).step H6); obtain ⟨r0, r1, r2, r3, r4⟩ := HFA.out _ (HV.out.step ((HU.out.step H5).step H6)); have X3b : Hid _ := l3; clear l0 l1 l3 r0)
                | (refine wl_mid9 rfl 51 _ rfl w2.heap.size 33 rfl (R.out.map vb) _ X3b.out und27 rfl hio ?_))
              go_ret
              exact ⟨rfl, FIN.out _ (HV.out.step ((HU.out.step H5).step H6))⟩
            exact AllReadyH.nil
          refine AllReadyH.cons (o := _) rfl (fun K hK => ?_) ?_
          · go_simp
            refine hK.out _ _ (KPX.out _ _ (CX0.new tb)) (fun hHeld => ?_)
            clear hK K
            (try simp only [Act.put, List.getElem_toArray, List.getElem_cons_succ, List.getElem_cons_zero, List.setIfInBounds_toArray, List.set_cons_zero, List.set_cons_succ])
            refine wpAnyH_ready (rs := [12]) (by kernel_rfl) (by simp) ?_
            refine AllReadyH.cons (o := _) rfl (fun K hK => ?_) AllReadyH.nil
            go_simp
            refine hK.out _ _ (KPX.out _ _ ((CX0.new tb).new ta)) (fun hHeld => ?_)
            clear hK K
            (try simp only [Act.put, List.getElem_toArray, List.getElem_cons_succ, List.getElem_cons_zero, List.setIfInBounds_toArray, List.set_cons_zero, List.set_cons_succ])
            refine wpAnyH_ready (rs := [13]) (by kernel_rfl) (by simp) ?_
            refine AllReadyH.cons (o := _) rfl (fun K hK => ?_) AllReadyH.nil
            go_simp
            (refine (CO.out ta HTA.out _ _ _ _ HV.out ((CX0.new tb).new ta) (by simp)).mono ?_; rintro e x26 ⟨rfl, HB26⟩; dsimp only)
            refine hK.out _ _ (KPX.out _ _ HB26) (fun hHeld => ?_)
            clear hK K
            (try simp only [Act.put, List.getElem_toArray, List.getElem_cons_succ, List.getElem_cons_zero, List.setIfInBounds_toArray, List.set_cons_zero, List.set_cons_succ])
            refine wpAnyH_ready (rs := [17]) (by kernel_rfl) (by simp) ?_
            refine AllReadyH.cons (o := _) rfl (fun K hK => ?_) AllReadyH.nil
            go_simp
            (refine (CO.out tb HTB.out _ _ _ _ HV.out HB26 (by simp)).mono ?_; rintro e x27 ⟨rfl, HB27⟩; dsimp only)
            refine hK.out _ _ (KPX.out _ _ HB27) (fun hHeld => ?_)
            clear hK K
            (try simp only [Act.put, List.getElem_toArray, List.getElem_cons_succ, List.getElem_cons_zero, List.setIfInBounds_toArray, List.set_cons_zero, List.set_cons_succ])
            refine wpAnyH_take (i := 18) (v := ?_) rfl (by kernel_rfl) (by kernel_rfl) (by kernel_rfl) (fun _ _ _ h => h) (Or.inl ⟨by kernel_rfl, ?_⟩) (by assumption) ?_
            rotate_left
            · (intro w hSw; (try dsimp only at hSw); go_simp; (try with_reducible rfl))
            simp only [Act.put, List.getElem_toArray, List.getElem_cons_succ, List.getElem_cons_zero, List.setIfInBounds_toArray, List.set_cons_zero, List.set_cons_succ]
            refine wpAnyH_take (i := 19) (v := ?_) rfl (by kernel_rfl) (by kernel_rfl) (by kernel_rfl) (fun _ _ _ h => h) (Or.inl ⟨by kernel_rfl, ?_⟩) (by assumption) ?_
            rotate_left
            · (intro w hSw; (try dsimp only at hSw); go_simp; (try with_reducible rfl))
            simp only [Act.put, List.getElem_toArray, List.getElem_cons_succ, List.getElem_cons_zero, List.setIfInBounds_toArray, List.set_cons_zero, List.set_cons_succ]
            refine wpAnyH_done (by kernel_rfl) ?_ _
            refine NoPanic.normal ?_
            obtain ⟨x0, x1, x2, x3⟩ := X2.out _ ((HB27).b)
            obtain ⟨y0, y1, y2, y3, y4⟩ := HFA.out _ (HV.out.step ((HB27).b))
            have X0 : Hid _ := x0
            have X1 : Hid _ := x1
            have X3 : Hid _ := x3
            have Y0 : Hid _ := y0
            have HU : Hid (Bl V _) := ((HB27).b)
            clear x0 x1 x3 y0 hHeld
            go_wp2_with (first
              | go_skip
              | (refine wl_mid9 rfl 51 _ rfl w2.heap.size 0 rfl (k.map vb) _ X0.out und27 rfl hik ?_)
              | (refine wl_mid9 rfl 51 _ rfl W.heap.size 0 rfl (k.map vb) _ Y0.out und27 rfl hik ?_)
              | (refine wl_mid9 rfl 64 _ rfl w2.heap.size 0 rfl (rvL R) _ X1.out hum rfl hir ?_; clear X1)
              | (refine wl_mid9 rfl 64 _ rfl w2.heap.size 0 rfl (rvL R) _ X1b.out hum rfl hir ?_; clear X1b)
              | (go_at_call 22; refine (CF1.out _ (HV.out.step HU.out)).mono ?_; clear CF1; rintro e w5 ⟨rfl, H5⟩; obtain ⟨m0, m1, m2, m3⟩ := X2.out _ (HU.out.step H5); obtain ⟨n0, n1, n2, n3, n4⟩ := HFA.out _ (HV.out.step (HU.out.step H5)); have X1b : Hid _ := m1; clear m0 m1 m3 n0)
              | (go_at_call 22; refine (CF2.out _ (HV.out.step (HU.out.step H5))).mono ?_; clear CF2; rintro e w6 ⟨rfl, H6⟩; obtain ⟨l0, l1, l2, l3⟩ := X2.out _ ((HU.out.step H5).step H6); obtain ⟨r0, r1, r2, r3, r4⟩ := HFA.out _ (HV.out.step ((HU.out.step H5).step H6)); have X3b : Hid _ := l3; clear l0 l1 l3 r0)
              | (refine wl_mid9 rfl 51 _ rfl w2.heap.size 33 rfl (R.out.map vb) _ X3b.out und27 rfl hio ?_))
            go_ret
            exact ⟨rfl, FIN.out _ (HV.out.step ((HU.out.step H5).step H6))⟩
          exact AllReadyH.nil

    · have hEO := hEO h0
      have h0i : (ca == 0) = false := by simpa using h0
      have h0j : (ca != 0) = true := by simpa using h0
      have CF2 : Hid (∀ U, Bl (((W.alloc (.cells (dg k) 51)).alloc (.cells #[.int .i64 ca, .string (M.bs ta)] 47)).alloc (.cells #[.int .i64 ca, .string (M.bs tb)] 47)) U → Calls Tryz.prog 22 #[.agg (rvL R).toArray, .agg #[.int .i64 ca, .string (M.bs tb)]] U fun e w' => e = .returned (.bool true) ∧ Bl U w') := fun U hU => by
        have := Fits_x R (ca, tb) hG ((HB.step HWZ.out).step hU) HR hob
        rw [show fitB R (ca, tb) = true from by rw [← hR]; exact fit_of (by unfold recO; rw [if_neg h0, if_neg h0])] at this
        exact this
      clear hG hT HB HWZ hoa hob HR hR hrk hrc ha hb CO
      clear h0
      go_enter Tryz.func7, Tryz.ntmps7
      go_wp2_with (first
        | go_skip
        | (go_at_call 8; refine CA.out.mono ?_; clear CA; rintro e w1 ⟨rfl, H1⟩; obtain ⟨f0, f1, f2, f3, f4⟩ := HFA.out w1 H1; have F0 : Hid _ := f0; clear f0)
        | (refine wpList_load_mid rfl 51 _ rfl W.heap.size 0 rfl (k.map vb) _ F0.out und27 rfl hik ?_)
        | (go_at_call 21; refine (CR.out w1 H1).mono ?_; clear CR; rintro e w2 ⟨rfl, H2⟩; obtain ⟨g0, g1, g2, g3, g4⟩ := HFA.out (w2.alloc (.cells (rv R) 64)) (H2.alloc _); clear g0)
        | (refine wpList_store_row rfl 64 _ _ rfl w2.heap.size (rv R) rfl rfl 64 (rv Go.Proofs.YtncoffjaggnigaaGreatDoor.V.zr) (HST.out w2) (by rw [hrl]; exact info35) (by rw [hzl, hrl]) (rv_one _) ?_; clear HST; rw [World.setRow_alloc_new]))
      have X2 := fun U hU => XR.out w2 U hU
      have HV : Hid (Bl (((W.alloc (.cells (dg k) 51)).alloc (.cells #[.int .i64 ca, .string (M.bs ta)] 47)).alloc (.cells #[.int .i64 ca, .string (M.bs tb)] 47)) (w2.alloc (.cells (rv R) 64))) := H2.alloc _
      have X2 : Hid (∀ U, Bl (w2.alloc (.cells (rv R) 64)) U → U.rangeAt w2.heap.size 0 (k.map vb) ∧ U.rangeAt w2.heap.size 0 (rvL R) ∧ U.cell? ⟨w2.heap.size, 32, none⟩ = some (.int .i64 ca) ∧ U.rangeAt w2.heap.size 33 (R.out.map vb)) := X2
      have KP : Hid (∀ U, Bl (w2.alloc (.cells (rv R) 64)) U → U.cell? ⟨W.heap.size + 1, 0, none⟩ = some (.int .i64 ca) ∧ U.cell? ⟨W.heap.size + 1, 1, none⟩ = some (.string (M.bs ta)) ∧ U.cell? ⟨W.heap.size + 1 + 1, 0, none⟩ = some (.int .i64 ca) ∧ U.cell? ⟨W.heap.size + 1 + 1, 1, none⟩ = some (.string (M.bs tb))) := fun U hU => (HFA.out U (HV.out.step hU)).2
      clear g1 g2 g3 g4 f1 f2 f3 f4 H1 H2 XR F0
      generalize (w2.alloc (.cells (rv R) 64)) = V at *
      refine wp_region_noPanic ?_
      refine wp_region_held_drew (S := fun U => U.cell? ⟨W.heap.size + 1, 0, none⟩ = some (.int .i64 ca) ∧ U.cell? ⟨W.heap.size + 1, 1, none⟩ = some (.string (M.bs ta)) ∧ U.cell? ⟨W.heap.size + 1 + 1, 0, none⟩ = some (.int .i64 ca) ∧ U.cell? ⟨W.heap.size + 1 + 1, 1, none⟩ = some (.string (M.bs tb))) (by kernel_rfl) (KP.out _ ((Bl.refl V).drewN 1)) (fun hHeld => ?_)
      refine wpAnyH_take (i := 0) rfl (by kernel_rfl) (by kernel_rfl) (by kernel_rfl) (fun _ _ _ h => h) (yi_move (by kernel_rfl) rfl rfl) (by assumption) ?_
      simp only [Act.put, List.getElem_toArray, List.getElem_cons_succ, List.getElem_cons_zero, List.setIfInBounds_toArray, List.set_cons_zero, List.set_cons_succ]
      refine wpAnyH_take (i := 1) (v := ?_) rfl (by kernel_rfl) (by kernel_rfl) (by kernel_rfl) (fun _ _ _ h => h) (Or.inl ⟨by kernel_rfl, ?_⟩) (by assumption) ?_
      rotate_left
      · (intro w hSw; (try dsimp only at hSw); go_simp; (try with_reducible rfl))
      simp only [Act.put, List.getElem_toArray, List.getElem_cons_succ, List.getElem_cons_zero, List.setIfInBounds_toArray, List.set_cons_zero, List.set_cons_succ]
      refine wpAnyH_take (i := 2) rfl (by kernel_rfl) (by kernel_rfl) (by kernel_rfl) (fun _ _ _ h => h) (yi_move (by kernel_rfl) rfl rfl) (by assumption) ?_
      simp only [Act.put, List.getElem_toArray, List.getElem_cons_succ, List.getElem_cons_zero, List.setIfInBounds_toArray, List.set_cons_zero, List.set_cons_succ]
      refine wpAnyH_take (i := 3) (v := undef) rfl (by kernel_rfl) (by kernel_rfl) (by kernel_rfl) (fun _ _ _ h => h) (Or.inr ⟨by kernel_rfl, rfl⟩) (by assumption) ?_
      simp only [Act.put, List.getElem_toArray, List.getElem_cons_succ, List.getElem_cons_zero, List.setIfInBounds_toArray, List.set_cons_zero, List.set_cons_succ]
      refine wpAnyH_take (i := 4) (v := undef) rfl (by kernel_rfl) (by kernel_rfl) (by kernel_rfl) (fun _ _ _ h => h) (Or.inr ⟨by kernel_rfl, rfl⟩) (by assumption) ?_
      simp only [Act.put, List.getElem_toArray, List.getElem_cons_succ, List.getElem_cons_zero, List.setIfInBounds_toArray, List.set_cons_zero, List.set_cons_succ]
      refine wpAnyH_take (i := 5) (v := undef) rfl (by kernel_rfl) (by kernel_rfl) (by kernel_rfl) (fun _ _ _ h => h) (Or.inr ⟨by kernel_rfl, rfl⟩) (by assumption) ?_
      simp only [Act.put, List.getElem_toArray, List.getElem_cons_succ, List.getElem_cons_zero, List.setIfInBounds_toArray, List.set_cons_zero, List.set_cons_succ]
      refine wpAnyH_take (i := 6) (v := undef) rfl (by kernel_rfl) (by kernel_rfl) (by kernel_rfl) (fun _ _ _ h => h) (Or.inr ⟨by kernel_rfl, rfl⟩) (by assumption) ?_
      simp only [Act.put, List.getElem_toArray, List.getElem_cons_succ, List.getElem_cons_zero, List.setIfInBounds_toArray, List.set_cons_zero, List.set_cons_succ]
      refine wpAnyH_take (i := 7) (v := undef) rfl (by kernel_rfl) (by kernel_rfl) (by kernel_rfl) (fun _ _ _ h => h) (Or.inr ⟨by kernel_rfl, rfl⟩) (by assumption) ?_
      simp only [Act.put, List.getElem_toArray, List.getElem_cons_succ, List.getElem_cons_zero, List.setIfInBounds_toArray, List.set_cons_zero, List.set_cons_succ]
      refine wpAnyH_take (i := 8) (v := ?_) rfl (by kernel_rfl) (by kernel_rfl) (by kernel_rfl) (fun _ _ _ h => h) (Or.inl ⟨by kernel_rfl, ?_⟩) (by assumption) ?_
      rotate_left
      · (intro w hSw; (try dsimp only at hSw); go_simp; (try with_reducible rfl))
      simp only [Act.put, List.getElem_toArray, List.getElem_cons_succ, List.getElem_cons_zero, List.setIfInBounds_toArray, List.set_cons_zero, List.set_cons_succ]
      refine wpAnyH_take (i := 9) rfl (by kernel_rfl) (by kernel_rfl) (by kernel_rfl) (fun _ _ _ h => h) (yi_move (by kernel_rfl) rfl rfl) (by assumption) ?_
      simp only [Act.put, List.getElem_toArray, List.getElem_cons_succ, List.getElem_cons_zero, List.setIfInBounds_toArray, List.set_cons_zero, List.set_cons_succ]
      refine wpAnyH_take (i := 10) (v := undef) rfl (by kernel_rfl) (by kernel_rfl) (by kernel_rfl) (fun _ _ _ h => h) (Or.inr ⟨by kernel_rfl, rfl⟩) (by assumption) ?_
      simp only [Act.put, List.getElem_toArray, List.getElem_cons_succ, List.getElem_cons_zero, List.setIfInBounds_toArray, List.set_cons_zero, List.set_cons_succ]
      refine wpAnyH_take (i := 11) (v := undef) rfl (by kernel_rfl) (by kernel_rfl) (by kernel_rfl) (fun _ _ _ h => h) (Or.inr ⟨by kernel_rfl, rfl⟩) (by assumption) ?_
      simp only [Act.put, List.getElem_toArray, List.getElem_cons_succ, List.getElem_cons_zero, List.setIfInBounds_toArray, List.set_cons_zero, List.set_cons_succ]
      refine wpAnyH_take (i := 12) (v := undef) rfl (by kernel_rfl) (by kernel_rfl) (by kernel_rfl) (fun _ _ _ h => h) (Or.inr ⟨by kernel_rfl, rfl⟩) (by assumption) ?_
      simp only [Act.put, List.getElem_toArray, List.getElem_cons_succ, List.getElem_cons_zero, List.setIfInBounds_toArray, List.set_cons_zero, List.set_cons_succ]
      refine wpAnyH_take (i := 13) (v := undef) rfl (by kernel_rfl) (by kernel_rfl) (by kernel_rfl) (fun _ _ _ h => h) (Or.inr ⟨by kernel_rfl, rfl⟩) (by assumption) ?_
      simp only [Act.put, List.getElem_toArray, List.getElem_cons_succ, List.getElem_cons_zero, List.setIfInBounds_toArray, List.set_cons_zero, List.set_cons_succ]
      refine wpAnyH_take (i := 14) (v := undef) rfl (by kernel_rfl) (by kernel_rfl) (by kernel_rfl) (fun _ _ _ h => h) (Or.inr ⟨by kernel_rfl, rfl⟩) (by assumption) ?_
      simp only [Act.put, List.getElem_toArray, List.getElem_cons_succ, List.getElem_cons_zero, List.setIfInBounds_toArray, List.set_cons_zero, List.set_cons_succ]
      refine wpAnyH_take (i := 15) (v := undef) rfl (by kernel_rfl) (by kernel_rfl) (by kernel_rfl) (fun _ _ _ h => h) (Or.inr ⟨by kernel_rfl, rfl⟩) (by assumption) ?_
      simp only [Act.put, List.getElem_toArray, List.getElem_cons_succ, List.getElem_cons_zero, List.setIfInBounds_toArray, List.set_cons_zero, List.set_cons_succ]
      refine wpAnyH_take (i := 16) (v := undef) rfl (by kernel_rfl) (by kernel_rfl) (by kernel_rfl) (fun _ _ _ h => h) (Or.inr ⟨by kernel_rfl, rfl⟩) (by assumption) ?_
      simp only [Act.put, List.getElem_toArray, List.getElem_cons_succ, List.getElem_cons_zero, List.setIfInBounds_toArray, List.set_cons_zero, List.set_cons_succ]
      refine wpAnyH_take (i := 17) (v := undef) rfl (by kernel_rfl) (by kernel_rfl) (by kernel_rfl) (fun _ _ _ h => h) (Or.inr ⟨by kernel_rfl, rfl⟩) (by assumption) ?_
      simp only [Act.put, List.getElem_toArray, List.getElem_cons_succ, List.getElem_cons_zero, List.setIfInBounds_toArray, List.set_cons_zero, List.set_cons_succ]
      refine wpAnyH_take (i := 18) (v := undef) rfl (by kernel_rfl) (by kernel_rfl) (by kernel_rfl) (fun _ _ _ h => h) (Or.inr ⟨by kernel_rfl, rfl⟩) (by assumption) ?_
      simp only [Act.put, List.getElem_toArray, List.getElem_cons_succ, List.getElem_cons_zero, List.setIfInBounds_toArray, List.set_cons_zero, List.set_cons_succ]
      refine wpAnyH_take (i := 19) (v := ?_) rfl (by kernel_rfl) (by kernel_rfl) (by kernel_rfl) (fun _ _ _ h => h) (Or.inl ⟨by kernel_rfl, ?_⟩) (by assumption) ?_
      rotate_left
      · (intro w hSw; (try dsimp only at hSw); go_simp; (try with_reducible rfl))
      simp only [Act.put, List.getElem_toArray, List.getElem_cons_succ, List.getElem_cons_zero, List.setIfInBounds_toArray, List.set_cons_zero, List.set_cons_succ]
      refine wpAnyH_done (by kernel_rfl) ?_ _
      refine NoPanic.normal ?_
      obtain ⟨x0, x1, x2, x3⟩ := X2.out V.drew ((Bl.refl V).drewN 1)
      obtain ⟨y0, y1, y2, y3, y4⟩ := HFA.out V.drew (HV.out.step ((Bl.refl V).drewN 1))
      have X0 : Hid _ := x0
      have X1 : Hid _ := x1
      have X3 : Hid _ := x3
      have Y0 : Hid _ := y0
      have HU : Hid (Bl V V.drew) := ((Bl.refl V).drewN 1)
      clear x0 x1 x3 y0 hHeld
      generalize V.drew = V1 at *
      go_wp2_with (first
        | go_skip
        | (refine wl_mid9 rfl 51 _ rfl w2.heap.size 0 rfl (k.map vb) _ X0.out und27 rfl hik ?_)
        | (refine wl_mid9 rfl 51 _ rfl W.heap.size 0 rfl (k.map vb) _ Y0.out und27 rfl hik ?_)
        | (refine wl_mid9 rfl 64 _ rfl w2.heap.size 0 rfl (rvL R) _ X1.out hum rfl hir ?_; clear X1)
        | (refine wl_mid9 rfl 64 _ rfl w2.heap.size 0 rfl (rvL R) _ X1b.out hum rfl hir ?_; clear X1b)
        | (go_at_call 22; refine (CF1.out _ (HV.out.step HU.out)).mono ?_; clear CF1; rintro e w5 ⟨rfl, H5⟩; obtain ⟨m0, m1, m2, m3⟩ := X2.out _ (HU.out.step H5); obtain ⟨n0, n1, n2, n3, n4⟩ := HFA.out _ (HV.out.step (HU.out.step H5)); have X1b : Hid _ := m1; clear m0 m1 m3 n0)
        | (go_at_call 22; refine (CF2.out _ (HV.out.step (HU.out.step H5))).mono ?_; clear CF2; rintro e w6 ⟨rfl, H6⟩; obtain ⟨l0, l1, l2, l3⟩ := X2.out _ ((HU.out.step H5).step H6); obtain ⟨r0, r1, r2, r3, r4⟩ := HFA.out _ (HV.out.step ((HU.out.step H5).step H6)); have X3b : Hid _ := l3; clear l0 l1 l3 r0)
        | (refine wl_mid9 rfl 51 _ rfl w2.heap.size 33 rfl (R.out.map vb) _ X3b.out und27 rfl hio ?_))
      go_ret
      exact ⟨rfl, FIN.out _ (HV.out.step ((HU.out.step H5).step H6))⟩

  · have habi : (ca == cb) = false := by simpa using hab
    have CF2 : Hid (∀ U, Bl (((W.alloc (.cells (dg k) 51)).alloc (.cells #[.int .i64 ca, .string (M.bs ta)] 47)).alloc (.cells #[.int .i64 cb, .string (M.bs tb)] 47)) U → Calls Tryz.prog 22 #[.agg (rvL R).toArray, .agg #[.int .i64 cb, .string (M.bs tb)]] U fun e w' => e = .returned (.bool false) ∧ Bl U w') := fun U hU => by
      have := Fits_x R (cb, tb) hG ((HB.step HWZ.out).step hU) HR hob
      rw [show fitB R (cb, tb) = false from by rw [← hR]; exact fit_code hab] at this
      exact this

    by_cases h0 : ca = 0
    · have h0i : (ca == 0) = true := by simpa using h0
      clear hG hT HB HWZ hoa hob HR hR hrk hrc ha hb CO
      clear hab hEO h0
      go_enter Tryz.func7, Tryz.ntmps7
      go_wp2_with (first
        | go_skip
        | (go_at_call 8; refine CA.out.mono ?_; clear CA; rintro e w1 ⟨rfl, H1⟩; obtain ⟨f0, f1, f2, f3, f4⟩ := HFA.out w1 H1; have F0 : Hid _ := f0; clear f0)
        | (refine wpList_load_mid rfl 51 _ rfl W.heap.size 0 rfl (k.map vb) _ F0.out und27 rfl hik ?_)
        | (go_at_call 21; refine (CR.out w1 H1).mono ?_; clear CR; rintro e w2 ⟨rfl, H2⟩; obtain ⟨g0, g1, g2, g3, g4⟩ := HFA.out (w2.alloc (.cells (rv R) 64)) (H2.alloc _); clear g0)
        | (refine wpList_store_row rfl 64 _ _ rfl w2.heap.size (rv R) rfl rfl 64 (rv Go.Proofs.YtncoffjaggnigaaGreatDoor.V.zr) (HST.out w2) (by rw [hrl]; exact info35) (by rw [hzl, hrl]) (rv_one _) ?_; clear HST; rw [World.setRow_alloc_new]))
      have X2 := fun U hU => XR.out w2 U hU
      have HV : Hid (Bl (((W.alloc (.cells (dg k) 51)).alloc (.cells #[.int .i64 ca, .string (M.bs ta)] 47)).alloc (.cells #[.int .i64 cb, .string (M.bs tb)] 47)) (w2.alloc (.cells (rv R) 64))) := H2.alloc _
      have X2 : Hid (∀ U, Bl (w2.alloc (.cells (rv R) 64)) U → U.rangeAt w2.heap.size 0 (k.map vb) ∧ U.rangeAt w2.heap.size 0 (rvL R) ∧ U.cell? ⟨w2.heap.size, 32, none⟩ = some (.int .i64 ca) ∧ U.rangeAt w2.heap.size 33 (R.out.map vb)) := X2
      have KP : Hid (∀ U, Bl (w2.alloc (.cells (rv R) 64)) U → U.cell? ⟨W.heap.size + 1, 0, none⟩ = some (.int .i64 ca) ∧ U.cell? ⟨W.heap.size + 1, 1, none⟩ = some (.string (M.bs ta)) ∧ U.cell? ⟨W.heap.size + 1 + 1, 0, none⟩ = some (.int .i64 cb) ∧ U.cell? ⟨W.heap.size + 1 + 1, 1, none⟩ = some (.string (M.bs tb))) := fun U hU => (HFA.out U (HV.out.step hU)).2
      clear g1 g2 g3 g4 f1 f2 f3 f4 H1 H2 XR F0
      generalize (w2.alloc (.cells (rv R) 64)) = V at *
      refine wp_region_noPanic ?_
      refine wp_region_held_drew (S := fun U => U.cell? ⟨W.heap.size + 1, 0, none⟩ = some (.int .i64 ca) ∧ U.cell? ⟨W.heap.size + 1, 1, none⟩ = some (.string (M.bs ta)) ∧ U.cell? ⟨W.heap.size + 1 + 1, 0, none⟩ = some (.int .i64 cb) ∧ U.cell? ⟨W.heap.size + 1 + 1, 1, none⟩ = some (.string (M.bs tb))) (by kernel_rfl) (KP.out _ ((Bl.refl V).drewN 1)) (fun hHeld => ?_)
      refine wpAnyH_take (i := 0) rfl (by kernel_rfl) (by kernel_rfl) (by kernel_rfl) (fun _ _ _ h => h) (yi_move (by kernel_rfl) rfl rfl) (by assumption) ?_
      simp only [Act.put, List.getElem_toArray, List.getElem_cons_succ, List.getElem_cons_zero, List.setIfInBounds_toArray, List.set_cons_zero, List.set_cons_succ]
      refine wpAnyH_take (i := 1) (v := ?_) rfl (by kernel_rfl) (by kernel_rfl) (by kernel_rfl) (fun _ _ _ h => h) (Or.inl ⟨by kernel_rfl, ?_⟩) (by assumption) ?_
      rotate_left
      · (intro w hSw; (try dsimp only at hSw); go_simp; (try with_reducible rfl))
      simp only [Act.put, List.getElem_toArray, List.getElem_cons_succ, List.getElem_cons_zero, List.setIfInBounds_toArray, List.set_cons_zero, List.set_cons_succ]
      refine wpAnyH_take (i := 2) rfl (by kernel_rfl) (by kernel_rfl) (by kernel_rfl) (fun _ _ _ h => h) (yi_move (by kernel_rfl) rfl rfl) (by assumption) ?_
      simp only [Act.put, List.getElem_toArray, List.getElem_cons_succ, List.getElem_cons_zero, List.setIfInBounds_toArray, List.set_cons_zero, List.set_cons_succ]
      refine wpAnyH_take (i := 3) (v := ?_) rfl (by kernel_rfl) (by kernel_rfl) (by kernel_rfl) (fun _ _ _ h => h) (Or.inl ⟨by kernel_rfl, ?_⟩) (by assumption) ?_
      rotate_left
      · (intro w hSw; (try dsimp only at hSw); go_simp; (try with_reducible rfl))
      simp only [Act.put, List.getElem_toArray, List.getElem_cons_succ, List.getElem_cons_zero, List.setIfInBounds_toArray, List.set_cons_zero, List.set_cons_succ]
      refine wpAnyH_take (i := 4) (v := ?_) rfl (by kernel_rfl) (by kernel_rfl) (by kernel_rfl) (fun _ _ _ h => h) (Or.inl ⟨by kernel_rfl, ?_⟩) (by assumption) ?_
      rotate_left
      · (intro w hSw; (try dsimp only at hSw); go_simp; (try with_reducible rfl))
      simp only [Act.put, List.getElem_toArray, List.getElem_cons_succ, List.getElem_cons_zero, List.setIfInBounds_toArray, List.set_cons_zero, List.set_cons_succ]
      refine wpAnyH_take (i := 5) (v := ?_) rfl (by kernel_rfl) (by kernel_rfl) (by kernel_rfl) (fun _ _ _ h => h) (Or.inl ⟨by kernel_rfl, ?_⟩) (by assumption) ?_
      rotate_left
      · (intro w hSw; (try dsimp only at hSw); go_simp; (try with_reducible rfl))
      simp only [Act.put, List.getElem_toArray, List.getElem_cons_succ, List.getElem_cons_zero, List.setIfInBounds_toArray, List.set_cons_zero, List.set_cons_succ]
      refine wpAnyH_take (i := 6) (v := ?_) rfl (by kernel_rfl) (by kernel_rfl) (by kernel_rfl) (fun _ _ _ h => h) (Or.inl ⟨by kernel_rfl, ?_⟩) (by assumption) ?_
      rotate_left
      · (intro w hSw; (try dsimp only at hSw); go_simp; (try with_reducible rfl))
      simp only [Act.put, List.getElem_toArray, List.getElem_cons_succ, List.getElem_cons_zero, List.setIfInBounds_toArray, List.set_cons_zero, List.set_cons_succ]
      refine wpAnyH_take (i := 7) (v := ?_) rfl (by kernel_rfl) (by kernel_rfl) (by kernel_rfl) (fun _ _ _ h => h) (Or.inl ⟨by kernel_rfl, ?_⟩) (by assumption) ?_
      rotate_left
      · (intro w hSw; (try dsimp only at hSw); go_simp; (try with_reducible rfl))
      simp only [Act.put, List.getElem_toArray, List.getElem_cons_succ, List.getElem_cons_zero, List.setIfInBounds_toArray, List.set_cons_zero, List.set_cons_succ]
      refine wpAnyH_take (i := 8) (v := ?_) rfl (by kernel_rfl) (by kernel_rfl) (by kernel_rfl) (fun _ _ _ h => h) (Or.inl ⟨by kernel_rfl, ?_⟩) (by assumption) ?_
      rotate_left
      · (intro w hSw; (try dsimp only at hSw); go_simp; (try with_reducible rfl))
      simp only [Act.put, List.getElem_toArray, List.getElem_cons_succ, List.getElem_cons_zero, List.setIfInBounds_toArray, List.set_cons_zero, List.set_cons_succ]
      refine wpAnyH_take (i := 9) rfl (by kernel_rfl) (by kernel_rfl) (by kernel_rfl) (fun _ _ _ h => h) (yi_move (by kernel_rfl) rfl rfl) (by assumption) ?_
      simp only [Act.put, List.getElem_toArray, List.getElem_cons_succ, List.getElem_cons_zero, List.setIfInBounds_toArray, List.set_cons_zero, List.set_cons_succ]
      refine wpAnyH_take (i := 10) (v := undef) rfl (by kernel_rfl) (by kernel_rfl) (by kernel_rfl) (fun _ _ _ h => h) (Or.inr ⟨by kernel_rfl, rfl⟩) (by assumption) ?_
      simp only [Act.put, List.getElem_toArray, List.getElem_cons_succ, List.getElem_cons_zero, List.setIfInBounds_toArray, List.set_cons_zero, List.set_cons_succ]
      refine wpAnyH_take (i := 11) (v := undef) rfl (by kernel_rfl) (by kernel_rfl) (by kernel_rfl) (fun _ _ _ h => h) (Or.inr ⟨by kernel_rfl, rfl⟩) (by assumption) ?_
      simp only [Act.put, List.getElem_toArray, List.getElem_cons_succ, List.getElem_cons_zero, List.setIfInBounds_toArray, List.set_cons_zero, List.set_cons_succ]
      refine wpAnyH_take (i := 12) (v := undef) rfl (by kernel_rfl) (by kernel_rfl) (by kernel_rfl) (fun _ _ _ h => h) (Or.inr ⟨by kernel_rfl, rfl⟩) (by assumption) ?_
      simp only [Act.put, List.getElem_toArray, List.getElem_cons_succ, List.getElem_cons_zero, List.setIfInBounds_toArray, List.set_cons_zero, List.set_cons_succ]
      refine wpAnyH_take (i := 13) (v := undef) rfl (by kernel_rfl) (by kernel_rfl) (by kernel_rfl) (fun _ _ _ h => h) (Or.inr ⟨by kernel_rfl, rfl⟩) (by assumption) ?_
      simp only [Act.put, List.getElem_toArray, List.getElem_cons_succ, List.getElem_cons_zero, List.setIfInBounds_toArray, List.set_cons_zero, List.set_cons_succ]
      refine wpAnyH_take (i := 14) (v := undef) rfl (by kernel_rfl) (by kernel_rfl) (by kernel_rfl) (fun _ _ _ h => h) (Or.inr ⟨by kernel_rfl, rfl⟩) (by assumption) ?_
      simp only [Act.put, List.getElem_toArray, List.getElem_cons_succ, List.getElem_cons_zero, List.setIfInBounds_toArray, List.set_cons_zero, List.set_cons_succ]
      refine wpAnyH_take (i := 15) (v := undef) rfl (by kernel_rfl) (by kernel_rfl) (by kernel_rfl) (fun _ _ _ h => h) (Or.inr ⟨by kernel_rfl, rfl⟩) (by assumption) ?_
      simp only [Act.put, List.getElem_toArray, List.getElem_cons_succ, List.getElem_cons_zero, List.setIfInBounds_toArray, List.set_cons_zero, List.set_cons_succ]
      refine wpAnyH_take (i := 16) (v := undef) rfl (by kernel_rfl) (by kernel_rfl) (by kernel_rfl) (fun _ _ _ h => h) (Or.inr ⟨by kernel_rfl, rfl⟩) (by assumption) ?_
      simp only [Act.put, List.getElem_toArray, List.getElem_cons_succ, List.getElem_cons_zero, List.setIfInBounds_toArray, List.set_cons_zero, List.set_cons_succ]
      refine wpAnyH_take (i := 17) (v := undef) rfl (by kernel_rfl) (by kernel_rfl) (by kernel_rfl) (fun _ _ _ h => h) (Or.inr ⟨by kernel_rfl, rfl⟩) (by assumption) ?_
      simp only [Act.put, List.getElem_toArray, List.getElem_cons_succ, List.getElem_cons_zero, List.setIfInBounds_toArray, List.set_cons_zero, List.set_cons_succ]
      refine wpAnyH_take (i := 18) (v := undef) rfl (by kernel_rfl) (by kernel_rfl) (by kernel_rfl) (fun _ _ _ h => h) (Or.inr ⟨by kernel_rfl, rfl⟩) (by assumption) ?_
      simp only [Act.put, List.getElem_toArray, List.getElem_cons_succ, List.getElem_cons_zero, List.setIfInBounds_toArray, List.set_cons_zero, List.set_cons_succ]
      refine wpAnyH_take (i := 19) (v := ?_) rfl (by kernel_rfl) (by kernel_rfl) (by kernel_rfl) (fun _ _ _ h => h) (Or.inl ⟨by kernel_rfl, ?_⟩) (by assumption) ?_
      rotate_left
      · (intro w hSw; (try dsimp only at hSw); go_simp; (try with_reducible rfl))
      simp only [Act.put, List.getElem_toArray, List.getElem_cons_succ, List.getElem_cons_zero, List.setIfInBounds_toArray, List.set_cons_zero, List.set_cons_succ]
      refine wpAnyH_done (by kernel_rfl) ?_ _
      refine NoPanic.normal ?_
      obtain ⟨x0, x1, x2, x3⟩ := X2.out V.drew ((Bl.refl V).drewN 1)
      obtain ⟨y0, y1, y2, y3, y4⟩ := HFA.out V.drew (HV.out.step ((Bl.refl V).drewN 1))
      have X0 : Hid _ := x0
      have X1 : Hid _ := x1
      have X3 : Hid _ := x3
      have Y0 : Hid _ := y0
      have HU : Hid (Bl V V.drew) := ((Bl.refl V).drewN 1)
      clear x0 x1 x3 y0 hHeld
      generalize V.drew = V1 at *
      go_wp2_with (first
        | go_skip
        | (refine wl_mid9 rfl 51 _ rfl w2.heap.size 0 rfl (k.map vb) _ X0.out und27 rfl hik ?_)
        | (refine wl_mid9 rfl 51 _ rfl W.heap.size 0 rfl (k.map vb) _ Y0.out und27 rfl hik ?_)
        | (refine wl_mid9 rfl 64 _ rfl w2.heap.size 0 rfl (rvL R) _ X1.out hum rfl hir ?_; clear X1)
        | (refine wl_mid9 rfl 64 _ rfl w2.heap.size 0 rfl (rvL R) _ X1b.out hum rfl hir ?_; clear X1b)
        | (go_at_call 22; refine (CF1.out _ (HV.out.step HU.out)).mono ?_; clear CF1; rintro e w5 ⟨rfl, H5⟩; obtain ⟨m0, m1, m2, m3⟩ := X2.out _ (HU.out.step H5); obtain ⟨n0, n1, n2, n3, n4⟩ := HFA.out _ (HV.out.step (HU.out.step H5)); have X1b : Hid _ := m1; clear m0 m1 m3 n0)
        | (go_at_call 22; refine (CF2.out _ (HV.out.step (HU.out.step H5))).mono ?_; clear CF2; rintro e w6 ⟨rfl, H6⟩; obtain ⟨l0, l1, l2, l3⟩ := X2.out _ ((HU.out.step H5).step H6); obtain ⟨r0, r1, r2, r3, r4⟩ := HFA.out _ (HV.out.step ((HU.out.step H5).step H6)); have X3b : Hid _ := l3; clear l0 l1 l3 r0)
        | (refine wl_mid9 rfl 51 _ rfl w2.heap.size 33 rfl (R.out.map vb) _ X3b.out und27 rfl hio ?_))
      go_ret
      exact ⟨rfl, FIN.out _ (HV.out.step ((HU.out.step H5).step H6))⟩

    · have hEO := hEO h0
      have h0i : (ca == 0) = false := by simpa using h0
      clear hG hT HB HWZ hoa hob HR hR hrk hrc ha hb CO
      clear hab h0
      go_enter Tryz.func7, Tryz.ntmps7
      go_wp2_with (first
        | go_skip
        | (go_at_call 8; refine CA.out.mono ?_; clear CA; rintro e w1 ⟨rfl, H1⟩; obtain ⟨f0, f1, f2, f3, f4⟩ := HFA.out w1 H1; have F0 : Hid _ := f0; clear f0)
        | (refine wpList_load_mid rfl 51 _ rfl W.heap.size 0 rfl (k.map vb) _ F0.out und27 rfl hik ?_)
        | (go_at_call 21; refine (CR.out w1 H1).mono ?_; clear CR; rintro e w2 ⟨rfl, H2⟩; obtain ⟨g0, g1, g2, g3, g4⟩ := HFA.out (w2.alloc (.cells (rv R) 64)) (H2.alloc _); clear g0)
        | (refine wpList_store_row rfl 64 _ _ rfl w2.heap.size (rv R) rfl rfl 64 (rv Go.Proofs.YtncoffjaggnigaaGreatDoor.V.zr) (HST.out w2) (by rw [hrl]; exact info35) (by rw [hzl, hrl]) (rv_one _) ?_; clear HST; rw [World.setRow_alloc_new]))
      have X2 := fun U hU => XR.out w2 U hU
      have HV : Hid (Bl (((W.alloc (.cells (dg k) 51)).alloc (.cells #[.int .i64 ca, .string (M.bs ta)] 47)).alloc (.cells #[.int .i64 cb, .string (M.bs tb)] 47)) (w2.alloc (.cells (rv R) 64))) := H2.alloc _
      have X2 : Hid (∀ U, Bl (w2.alloc (.cells (rv R) 64)) U → U.rangeAt w2.heap.size 0 (k.map vb) ∧ U.rangeAt w2.heap.size 0 (rvL R) ∧ U.cell? ⟨w2.heap.size, 32, none⟩ = some (.int .i64 ca) ∧ U.rangeAt w2.heap.size 33 (R.out.map vb)) := X2
      have KP : Hid (∀ U, Bl (w2.alloc (.cells (rv R) 64)) U → U.cell? ⟨W.heap.size + 1, 0, none⟩ = some (.int .i64 ca) ∧ U.cell? ⟨W.heap.size + 1, 1, none⟩ = some (.string (M.bs ta)) ∧ U.cell? ⟨W.heap.size + 1 + 1, 0, none⟩ = some (.int .i64 cb) ∧ U.cell? ⟨W.heap.size + 1 + 1, 1, none⟩ = some (.string (M.bs tb))) := fun U hU => (HFA.out U (HV.out.step hU)).2
      clear g1 g2 g3 g4 f1 f2 f3 f4 H1 H2 XR F0
      generalize (w2.alloc (.cells (rv R) 64)) = V at *
      refine wp_region_noPanic ?_
      refine wp_region_held_drew (S := fun U => U.cell? ⟨W.heap.size + 1, 0, none⟩ = some (.int .i64 ca) ∧ U.cell? ⟨W.heap.size + 1, 1, none⟩ = some (.string (M.bs ta)) ∧ U.cell? ⟨W.heap.size + 1 + 1, 0, none⟩ = some (.int .i64 cb) ∧ U.cell? ⟨W.heap.size + 1 + 1, 1, none⟩ = some (.string (M.bs tb))) (by kernel_rfl) (KP.out _ ((Bl.refl V).drewN 1)) (fun hHeld => ?_)
      refine wpAnyH_take (i := 0) rfl (by kernel_rfl) (by kernel_rfl) (by kernel_rfl) (fun _ _ _ h => h) (yi_move (by kernel_rfl) rfl rfl) (by assumption) ?_
      simp only [Act.put, List.getElem_toArray, List.getElem_cons_succ, List.getElem_cons_zero, List.setIfInBounds_toArray, List.set_cons_zero, List.set_cons_succ]
      refine wpAnyH_take (i := 1) (v := ?_) rfl (by kernel_rfl) (by kernel_rfl) (by kernel_rfl) (fun _ _ _ h => h) (Or.inl ⟨by kernel_rfl, ?_⟩) (by assumption) ?_
      rotate_left
      · (intro w hSw; (try dsimp only at hSw); go_simp; (try with_reducible rfl))
      simp only [Act.put, List.getElem_toArray, List.getElem_cons_succ, List.getElem_cons_zero, List.setIfInBounds_toArray, List.set_cons_zero, List.set_cons_succ]
      refine wpAnyH_take (i := 2) rfl (by kernel_rfl) (by kernel_rfl) (by kernel_rfl) (fun _ _ _ h => h) (yi_move (by kernel_rfl) rfl rfl) (by assumption) ?_
      simp only [Act.put, List.getElem_toArray, List.getElem_cons_succ, List.getElem_cons_zero, List.setIfInBounds_toArray, List.set_cons_zero, List.set_cons_succ]
      refine wpAnyH_take (i := 3) (v := ?_) rfl (by kernel_rfl) (by kernel_rfl) (by kernel_rfl) (fun _ _ _ h => h) (Or.inl ⟨by kernel_rfl, ?_⟩) (by assumption) ?_
      rotate_left
      · (intro w hSw; (try dsimp only at hSw); go_simp; (try with_reducible rfl))
      simp only [Act.put, List.getElem_toArray, List.getElem_cons_succ, List.getElem_cons_zero, List.setIfInBounds_toArray, List.set_cons_zero, List.set_cons_succ]
      refine wpAnyH_take (i := 4) (v := ?_) rfl (by kernel_rfl) (by kernel_rfl) (by kernel_rfl) (fun _ _ _ h => h) (Or.inl ⟨by kernel_rfl, ?_⟩) (by assumption) ?_
      rotate_left
      · (intro w hSw; (try dsimp only at hSw); go_simp; (try with_reducible rfl))
      simp only [Act.put, List.getElem_toArray, List.getElem_cons_succ, List.getElem_cons_zero, List.setIfInBounds_toArray, List.set_cons_zero, List.set_cons_succ]
      refine wpAnyH_take (i := 5) (v := ?_) rfl (by kernel_rfl) (by kernel_rfl) (by kernel_rfl) (fun _ _ _ h => h) (Or.inl ⟨by kernel_rfl, ?_⟩) (by assumption) ?_
      rotate_left
      · (intro w hSw; (try dsimp only at hSw); go_simp; (try with_reducible rfl))
      simp only [Act.put, List.getElem_toArray, List.getElem_cons_succ, List.getElem_cons_zero, List.setIfInBounds_toArray, List.set_cons_zero, List.set_cons_succ]
      refine wpAnyH_take (i := 6) (v := ?_) rfl (by kernel_rfl) (by kernel_rfl) (by kernel_rfl) (fun _ _ _ h => h) (Or.inl ⟨by kernel_rfl, ?_⟩) (by assumption) ?_
      rotate_left
      · (intro w hSw; (try dsimp only at hSw); go_simp; (try with_reducible rfl))
      simp only [Act.put, List.getElem_toArray, List.getElem_cons_succ, List.getElem_cons_zero, List.setIfInBounds_toArray, List.set_cons_zero, List.set_cons_succ]
      refine wpAnyH_take (i := 7) (v := ?_) rfl (by kernel_rfl) (by kernel_rfl) (by kernel_rfl) (fun _ _ _ h => h) (Or.inl ⟨by kernel_rfl, ?_⟩) (by assumption) ?_
      rotate_left
      · (intro w hSw; (try dsimp only at hSw); go_simp; (try with_reducible rfl))
      simp only [Act.put, List.getElem_toArray, List.getElem_cons_succ, List.getElem_cons_zero, List.setIfInBounds_toArray, List.set_cons_zero, List.set_cons_succ]
      refine wpAnyH_take (i := 8) (v := ?_) rfl (by kernel_rfl) (by kernel_rfl) (by kernel_rfl) (fun _ _ _ h => h) (Or.inl ⟨by kernel_rfl, ?_⟩) (by assumption) ?_
      rotate_left
      · (intro w hSw; (try dsimp only at hSw); go_simp; (try with_reducible rfl))
      simp only [Act.put, List.getElem_toArray, List.getElem_cons_succ, List.getElem_cons_zero, List.setIfInBounds_toArray, List.set_cons_zero, List.set_cons_succ]
      refine wpAnyH_take (i := 9) rfl (by kernel_rfl) (by kernel_rfl) (by kernel_rfl) (fun _ _ _ h => h) (yi_move (by kernel_rfl) rfl rfl) (by assumption) ?_
      simp only [Act.put, List.getElem_toArray, List.getElem_cons_succ, List.getElem_cons_zero, List.setIfInBounds_toArray, List.set_cons_zero, List.set_cons_succ]
      refine wpAnyH_take (i := 10) (v := undef) rfl (by kernel_rfl) (by kernel_rfl) (by kernel_rfl) (fun _ _ _ h => h) (Or.inr ⟨by kernel_rfl, rfl⟩) (by assumption) ?_
      simp only [Act.put, List.getElem_toArray, List.getElem_cons_succ, List.getElem_cons_zero, List.setIfInBounds_toArray, List.set_cons_zero, List.set_cons_succ]
      refine wpAnyH_take (i := 11) (v := undef) rfl (by kernel_rfl) (by kernel_rfl) (by kernel_rfl) (fun _ _ _ h => h) (Or.inr ⟨by kernel_rfl, rfl⟩) (by assumption) ?_
      simp only [Act.put, List.getElem_toArray, List.getElem_cons_succ, List.getElem_cons_zero, List.setIfInBounds_toArray, List.set_cons_zero, List.set_cons_succ]
      refine wpAnyH_take (i := 12) (v := undef) rfl (by kernel_rfl) (by kernel_rfl) (by kernel_rfl) (fun _ _ _ h => h) (Or.inr ⟨by kernel_rfl, rfl⟩) (by assumption) ?_
      simp only [Act.put, List.getElem_toArray, List.getElem_cons_succ, List.getElem_cons_zero, List.setIfInBounds_toArray, List.set_cons_zero, List.set_cons_succ]
      refine wpAnyH_take (i := 13) (v := undef) rfl (by kernel_rfl) (by kernel_rfl) (by kernel_rfl) (fun _ _ _ h => h) (Or.inr ⟨by kernel_rfl, rfl⟩) (by assumption) ?_
      simp only [Act.put, List.getElem_toArray, List.getElem_cons_succ, List.getElem_cons_zero, List.setIfInBounds_toArray, List.set_cons_zero, List.set_cons_succ]
      refine wpAnyH_take (i := 14) (v := undef) rfl (by kernel_rfl) (by kernel_rfl) (by kernel_rfl) (fun _ _ _ h => h) (Or.inr ⟨by kernel_rfl, rfl⟩) (by assumption) ?_
      simp only [Act.put, List.getElem_toArray, List.getElem_cons_succ, List.getElem_cons_zero, List.setIfInBounds_toArray, List.set_cons_zero, List.set_cons_succ]
      refine wpAnyH_take (i := 15) (v := undef) rfl (by kernel_rfl) (by kernel_rfl) (by kernel_rfl) (fun _ _ _ h => h) (Or.inr ⟨by kernel_rfl, rfl⟩) (by assumption) ?_
      simp only [Act.put, List.getElem_toArray, List.getElem_cons_succ, List.getElem_cons_zero, List.setIfInBounds_toArray, List.set_cons_zero, List.set_cons_succ]
      refine wpAnyH_take (i := 16) (v := undef) rfl (by kernel_rfl) (by kernel_rfl) (by kernel_rfl) (fun _ _ _ h => h) (Or.inr ⟨by kernel_rfl, rfl⟩) (by assumption) ?_
      simp only [Act.put, List.getElem_toArray, List.getElem_cons_succ, List.getElem_cons_zero, List.setIfInBounds_toArray, List.set_cons_zero, List.set_cons_succ]
      refine wpAnyH_take (i := 17) (v := undef) rfl (by kernel_rfl) (by kernel_rfl) (by kernel_rfl) (fun _ _ _ h => h) (Or.inr ⟨by kernel_rfl, rfl⟩) (by assumption) ?_
      simp only [Act.put, List.getElem_toArray, List.getElem_cons_succ, List.getElem_cons_zero, List.setIfInBounds_toArray, List.set_cons_zero, List.set_cons_succ]
      refine wpAnyH_take (i := 18) (v := undef) rfl (by kernel_rfl) (by kernel_rfl) (by kernel_rfl) (fun _ _ _ h => h) (Or.inr ⟨by kernel_rfl, rfl⟩) (by assumption) ?_
      simp only [Act.put, List.getElem_toArray, List.getElem_cons_succ, List.getElem_cons_zero, List.setIfInBounds_toArray, List.set_cons_zero, List.set_cons_succ]
      refine wpAnyH_take (i := 19) (v := ?_) rfl (by kernel_rfl) (by kernel_rfl) (by kernel_rfl) (fun _ _ _ h => h) (Or.inl ⟨by kernel_rfl, ?_⟩) (by assumption) ?_
      rotate_left
      · (intro w hSw; (try dsimp only at hSw); go_simp; (try with_reducible rfl))
      simp only [Act.put, List.getElem_toArray, List.getElem_cons_succ, List.getElem_cons_zero, List.setIfInBounds_toArray, List.set_cons_zero, List.set_cons_succ]
      refine wpAnyH_done (by kernel_rfl) ?_ _
      refine NoPanic.normal ?_
      obtain ⟨x0, x1, x2, x3⟩ := X2.out V.drew ((Bl.refl V).drewN 1)
      obtain ⟨y0, y1, y2, y3, y4⟩ := HFA.out V.drew (HV.out.step ((Bl.refl V).drewN 1))
      have X0 : Hid _ := x0
      have X1 : Hid _ := x1
      have X3 : Hid _ := x3
      have Y0 : Hid _ := y0
      have HU : Hid (Bl V V.drew) := ((Bl.refl V).drewN 1)
      clear x0 x1 x3 y0 hHeld
      generalize V.drew = V1 at *
      go_wp2_with (first
        | go_skip
        | (refine wl_mid9 rfl 51 _ rfl w2.heap.size 0 rfl (k.map vb) _ X0.out und27 rfl hik ?_)
        | (refine wl_mid9 rfl 51 _ rfl W.heap.size 0 rfl (k.map vb) _ Y0.out und27 rfl hik ?_)
        | (refine wl_mid9 rfl 64 _ rfl w2.heap.size 0 rfl (rvL R) _ X1.out hum rfl hir ?_; clear X1)
        | (refine wl_mid9 rfl 64 _ rfl w2.heap.size 0 rfl (rvL R) _ X1b.out hum rfl hir ?_; clear X1b)
        | (go_at_call 22; refine (CF1.out _ (HV.out.step HU.out)).mono ?_; clear CF1; rintro e w5 ⟨rfl, H5⟩; obtain ⟨m0, m1, m2, m3⟩ := X2.out _ (HU.out.step H5); obtain ⟨n0, n1, n2, n3, n4⟩ := HFA.out _ (HV.out.step (HU.out.step H5)); have X1b : Hid _ := m1; clear m0 m1 m3 n0)
        | (go_at_call 22; refine (CF2.out _ (HV.out.step (HU.out.step H5))).mono ?_; clear CF2; rintro e w6 ⟨rfl, H6⟩; obtain ⟨l0, l1, l2, l3⟩ := X2.out _ ((HU.out.step H5).step H6); obtain ⟨r0, r1, r2, r3, r4⟩ := HFA.out _ (HV.out.step ((HU.out.step H5).step H6)); have X3b : Hid _ := l3; clear l0 l1 l3 r0)
        | (refine wl_mid9 rfl 51 _ rfl w2.heap.size 33 rfl (R.out.map vb) _ X3b.out und27 rfl hio ?_))
      go_ret
      exact ⟨rfl, FIN.out _ (HV.out.step ((HU.out.step H5).step H6))⟩

end Go.Proofs.YtncoffjaggnigaaGreatDoor
