/- byTelling. -/
import Derived.Test.YtebmgajijjhinaaHuC
import Derived.Test.YtebmgajijjhinaaRegT
namespace Go.Proofs.Ytebmgajijjhinaa
open Go.RowKit Go.Maps Go.Sort
set_option linter.unusedVariables false
set_option linter.unusedSimpArgs false

theorem undRu : ∃ fs, Try.prog.underlying 115 = some (.struct fs) := ⟨_, Try.underlying115⟩
theorem infoRu : (Try.prog.info? 115).map (·.size) = some 4 := by kernel_rfl
theorem range4 {w : World} {b : Nat} {x y z u : Value} {t : TypeId} (h : w.heap[b]? = some (.cells #[x, y, z, u] t (0, 0))) : w.rangeAt b 0 [x, y, z, u] := fun j v hv => by rw [Lib.cell_of_heap h, Nat.zero_add]; simpa using hv
theorem Gn.ranges {W V : World} {x y z u x2 y2 z2 u2 : Value} {t : TypeId} (h : Gn ((W.alloc (.cells #[x, y, z, u] t)).alloc (.cells #[x2, y2, z2, u2] t)) V) : V.rangeAt W.heap.size 0 [x, y, z, u] ∧ V.rangeAt (W.heap.size + 1) 0 [x2, y2, z2, u2] := by
  have hb : Bl _ V := h.below
  have h2 := hb.box
  rw [size_alloc1] at h2
  exact ⟨range4 hb.box1, range4 h2⟩
set_option maxRecDepth 8000 in
set_option maxHeartbeats 2000000 in
theorem byTelling_gn (a b : HU.Ru) (W : World) : Calls Try.prog 58 #[.agg (ruV a), .agg (ruV b)] W fun e w' => e = .returned (.int .i64 (cmpT a b)) ∧ Gn W w' := by
  have C1 : Hid (∀ W1 W2 : World, Gn W1 W2 → Calls Try.prog 75 #[.int .i64 b.2, .int .i64 a.2] W2 fun e w' => e = .returned (.int .i64 (cmpI b.2 a.2)) ∧ Gn W1 w') := fun W1 W2 h => (Compare_x _ _ W2).mono fun e w' ⟨h1, h2⟩ => ⟨h1, by rw [h2]; exact h⟩
  have C3 : Hid (∀ t (W1 W2 : World), Gn W1 W2 → Calls Try.prog 74 #[.slice (some ⟨W2.heap.size, 0, none⟩) 2 2] (W2.alloc (.cells #[.int .i64 (cmpI b.2 a.2), .int .i64 (cmpI a.1.1 b.1.1)] t)) fun e w' => e = .returned (.int .i64 (cmpT a b)) ∧ Gn W1 w') := fun t W1 W2 h => (Or_x (cmpI b.2 a.2) (cmpI a.1.1 b.1.1) 2 W2.heap.size _ (by rw [Lib.cell_of_heap (heap_alloc_new _ _)]; rfl) (by rw [Lib.cell_of_heap (heap_alloc_new _ _)]; rfl)).mono fun e w' ⟨h1, h2⟩ => ⟨h1, by rw [h2]; exact h.alloc _⟩
  have C2 : Hid (∀ W1 W2 : World, Gn W1 W2 → Calls Try.prog 76 #[.agg (ruV a), .agg (ruV b)] W2 fun e w' => e = .returned (.int .i64 (cmpI a.1.1 b.1.1)) ∧ Gn W1 w') := fun W1 W2 h => (byNode_gn a b W2).mono fun e w' ⟨h1, h2⟩ => ⟨h1, h.trans h2⟩
  have HG : Gn W ((W.alloc (.cells (ruV a) 115)).alloc (.cells (ruV b) 115)) := ((Gn.refl W).alloc _).alloc _
  generalize cmpI b.2 a.2 = p at *
  generalize cmpI a.1.1 b.1.1 = r at *
  generalize cmpT a b = z at *
  obtain ⟨⟨n, i, s⟩, q⟩ := a
  obtain ⟨⟨n2, i2, s2⟩, q2⟩ := b
  obtain ⟨fs, hum⟩ := undRu
  unfold ruV at *
  simp only at *
  have HT : Gn ((W.alloc (.cells #[.int .i64 n, .int .i64 i, .int .i64 s, .int .i64 q] 115)).alloc (.cells #[.int .i64 n2, .int .i64 i2, .int .i64 s2, .int .i64 q2] 115)) ((W.alloc (.cells #[.int .i64 n, .int .i64 i, .int .i64 s, .int .i64 q] 115)).alloc (.cells #[.int .i64 n2, .int .i64 i2, .int .i64 s2, .int .i64 q2] 115)) := Gn.refl _
  have HGT : Hid (∀ V, Gn ((W.alloc (.cells #[.int .i64 n, .int .i64 i, .int .i64 s, .int .i64 q] 115)).alloc (.cells #[.int .i64 n2, .int .i64 i2, .int .i64 s2, .int .i64 q2] 115)) V → Gn W V) := fun V h => HG.trans h
  clear HG
  go_enter Try.func58, Try.ntmps58
  go_wp2_with fail
  refine wp_region_noPanic ?_
  refine wp_region_held_drew (S := fun U => U.rangeAt W.heap.size 0 [.int .i64 n, .int .i64 i, .int .i64 s, .int .i64 q] ∧ U.rangeAt (W.heap.size + 1) 0 [.int .i64 n2, .int .i64 i2, .int .i64 s2, .int .i64 q2]) (by kernel_rfl) (Gn.ranges ((HT.drewN 1))) (fun hHeld => ?_)
  refine wpAnyH_take (i := 0) (v := ?_) rfl (by kernel_rfl) (by kernel_rfl) (by kernel_rfl) (fun _ _ _ h => h) (Or.inl ⟨by kernel_rfl, ?_⟩) (by assumption) ?_
  rotate_left
  · (intro w hSw; (try dsimp only at hSw); go_simp; (try with_reducible rfl))
  simp only [Act.put, List.getElem_toArray, List.getElem_cons_succ, List.getElem_cons_zero, List.setIfInBounds_toArray, List.set_cons_zero, List.set_cons_succ]
  refine wpAnyH_take (i := 1) (v := ?_) rfl (by kernel_rfl) (by kernel_rfl) (by kernel_rfl) (fun _ _ _ h => h) (Or.inl ⟨by kernel_rfl, ?_⟩) (by assumption) ?_
  rotate_left
  · (intro w hSw; have e1 := hSw.2 3 _ rfl; go_simp; (try with_reducible rfl))
  simp only [Act.put, List.getElem_toArray, List.getElem_cons_succ, List.getElem_cons_zero, List.setIfInBounds_toArray, List.set_cons_zero, List.set_cons_succ]
  refine wpAnyH_take (i := 2) (v := ?_) rfl (by kernel_rfl) (by kernel_rfl) (by kernel_rfl) (fun _ _ _ h => h) (Or.inl ⟨by kernel_rfl, ?_⟩) (by assumption) ?_
  rotate_left
  · (intro w hSw; (try dsimp only at hSw); go_simp; (try with_reducible rfl))
  simp only [Act.put, List.getElem_toArray, List.getElem_cons_succ, List.getElem_cons_zero, List.setIfInBounds_toArray, List.set_cons_zero, List.set_cons_succ]
  refine wpAnyH_take (i := 3) (v := ?_) rfl (by kernel_rfl) (by kernel_rfl) (by kernel_rfl) (fun _ _ _ h => h) (Or.inl ⟨by kernel_rfl, ?_⟩) (by assumption) ?_
  rotate_left
  · (intro w hSw; have e1 := hSw.1 3 _ rfl; go_simp; (try with_reducible rfl))
  simp only [Act.put, List.getElem_toArray, List.getElem_cons_succ, List.getElem_cons_zero, List.setIfInBounds_toArray, List.set_cons_zero, List.set_cons_succ]
  refine wpAnyH_take (i := 5) (v := .agg (List.toArray [.int .i64 n, .int .i64 i, .int .i64 s, .int .i64 q])) rfl (by kernel_rfl) (by kernel_rfl) (by kernel_rfl) (fun _ _ _ h => h) (yieldsIf_load_mid (by kernel_rfl) _ (.tmp 2) (by kernel_rfl) W.heap.size 0 (by kernel_rfl) [.int .i64 n, .int .i64 i, .int .i64 s, .int .i64 q] _ (fun W hW => hW.1) hum rfl infoRu) (by assumption) ?_
  simp only [Act.put, List.getElem_toArray, List.getElem_cons_succ, List.getElem_cons_zero, List.setIfInBounds_toArray, List.set_cons_zero, List.set_cons_succ]
  refine wpAnyH_take (i := 6) (v := .agg (List.toArray [.int .i64 n2, .int .i64 i2, .int .i64 s2, .int .i64 q2])) rfl (by kernel_rfl) (by kernel_rfl) (by kernel_rfl) (fun _ _ _ h => h) (yieldsIf_load_mid (by kernel_rfl) _ (.tmp 3) (by kernel_rfl) (W.heap.size + 1) 0 (by kernel_rfl) [.int .i64 n2, .int .i64 i2, .int .i64 s2, .int .i64 q2] _ (fun W hW => hW.2) hum rfl infoRu) (by assumption) ?_
  simp only [Act.put, List.getElem_toArray, List.getElem_cons_succ, List.getElem_cons_zero, List.setIfInBounds_toArray, List.set_cons_zero, List.set_cons_succ]
  refine wpAnyH_ready (rs := [4]) (by kernel_rfl) (by simp) ?_
  refine AllReadyH.cons (o := _) rfl (fun K hK => ?_) AllReadyH.nil
  go_simp
  go_at_call 75; refine (C1.out _ _ (HT.drewN 1)).mono ?_; rintro e V7 ⟨rfl, HB7⟩
  refine hK.out _ _ (Gn.ranges (HB7)) (fun hHeld => ?_)
  clear hK K
  (try simp only [Act.put, List.getElem_toArray, List.getElem_cons_succ, List.getElem_cons_zero, List.setIfInBounds_toArray, List.set_cons_zero, List.set_cons_succ])
  refine wpAnyH_ready (rs := [7]) (by kernel_rfl) (by simp) ?_
  refine AllReadyH.cons (o := _) rfl (fun K hK => ?_) AllReadyH.nil
  go_simp
  go_at_call 76; refine (C2.out _ _ HB7).mono ?_; rintro e V8 ⟨rfl, HB8⟩
  refine hK.out _ _ (Gn.ranges (HB8)) (fun hHeld => ?_)
  clear hK K
  (try simp only [Act.put, List.getElem_toArray, List.getElem_cons_succ, List.getElem_cons_zero, List.setIfInBounds_toArray, List.set_cons_zero, List.set_cons_succ])
  refine wpAnyH_ready (rs := [8]) (by kernel_rfl) (by simp) ?_
  refine AllReadyH.cons (o := _) rfl (fun K hK => ?_) AllReadyH.nil
  go_simp
  refine hK.out _ _ (Gn.ranges (((HB8).alloc _))) (fun hHeld => ?_)
  clear hK K
  (try simp only [Act.put, List.getElem_toArray, List.getElem_cons_succ, List.getElem_cons_zero, List.setIfInBounds_toArray, List.set_cons_zero, List.set_cons_succ])
  refine wpAnyH_ready (rs := [9]) (by kernel_rfl) (by simp) ?_
  refine AllReadyH.cons (o := _) rfl (fun K hK => ?_) AllReadyH.nil
  go_simp
  go_at_call 74; refine (C3.out _ _ _ HB8).mono ?_; rintro e V10 ⟨rfl, HB10⟩
  refine hK.out _ _ (Gn.ranges (HB10)) (fun hHeld => ?_)
  clear hK K
  (try simp only [Act.put, List.getElem_toArray, List.getElem_cons_succ, List.getElem_cons_zero, List.setIfInBounds_toArray, List.set_cons_zero, List.set_cons_succ])
  refine wpAnyH_take (i := 10) rfl (by kernel_rfl) (by kernel_rfl) (by kernel_rfl) (fun _ _ _ h => h) (yi_assign (by kernel_rfl) rfl rfl) (by assumption) ?_
  simp only [Act.put, List.getElem_toArray, List.getElem_cons_succ, List.getElem_cons_zero, List.setIfInBounds_toArray, List.set_cons_zero, List.set_cons_succ]
  refine wpAnyH_done (by kernel_rfl) ?_ _
  refine NoPanic.normal ?_
  go_wp2_with fail
  go_ret
  exact ⟨rfl, HGT.out _ (HB10)⟩
end Go.Proofs.Ytebmgajijjhinaa
