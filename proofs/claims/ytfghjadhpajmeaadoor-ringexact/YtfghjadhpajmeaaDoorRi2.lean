/- How nodes that come are compared. -/
import Derived.Test.YtfghjadhpajmeaaDoorRi1
import Derived.Test.YtfghjadhpajmeaaDoorShC
namespace Go.Proofs.YtfghjadhpajmeaaDoor
open Go.RowKit Go.Maps Go.Sort Go.Shelf
set_option linter.unusedVariables false
set_option linter.unusedSimpArgs false

abbrev Cm := Int × Int
def lyC : Lay Cm := ⟨2, fun r => [.int .i64 r.1, .int .u64 r.2], fun _ => rfl, fun x u hu => by simp at hu; rcases hu with rfl | rfl <;> rfl, by decide⟩
def cmV (r : Cm) : Array Value := #[.int .i64 r.1, .int .u64 r.2]
def cmpC (a b : Cm) : Int := if cmpI a.2 b.2 = 0 then cmpI a.1 b.1 else cmpI a.2 b.2
theorem range2 {w : World} {b : Nat} {x y : Value} {t : TypeId} (h : w.heap[b]? = some (.cells #[x, y] t (0, 0))) : w.rangeAt b 0 [x, y] := fun j v hv => by rw [Lib.cell_of_heap h, Nat.zero_add]; simpa using hv
theorem size_allocC (w : World) (o : Obj) : (w.alloc o).heap.size = w.heap.size + 1 := by simp
theorem Gn.ranges2 {W V : World} {x y x2 y2 : Value} {t : TypeId} (h : Gn ((W.alloc (.cells #[x, y] t)).alloc (.cells #[x2, y2] t)) V) : V.rangeAt W.heap.size 0 [x, y] ∧ V.rangeAt (W.heap.size + 1) 0 [x2, y2] := by
  have hb := h.below
  have h2 : V.heap[W.heap.size + 1]? = some (.cells #[x2, y2] t (0, 0)) := by
    rw [hb.block _ (by simp)]
    have := heap_alloc_new (W.alloc (.cells #[x, y] t)) (.cells #[x2, y2] t)
    rwa [size_allocC] at this
  have h1 : V.heap[W.heap.size]? = some (.cells #[x, y] t (0, 0)) := by
    rw [hb.block _ (by simp; omega), Below.heap_alloc _ _ _ (by simp)]; exact heap_alloc_new _ _
  exact ⟨range2 h1, range2 h2⟩
set_option maxRecDepth 8000 in
set_option maxHeartbeats 2000000 in
theorem byComing_gn (a b : Cm) (W : World) : Calls Tryd.prog 25 #[.agg (cmV a), .agg (cmV b)] W fun e w' => e = .returned (.int .i64 (cmpC a b)) ∧ Gn W w' := by
  have C1 : Hid (∀ W1 W2 : World, Gn W1 W2 → Calls Tryd.prog 38 #[.int .u64 a.2, .int .u64 b.2] W2 fun e w' => e = .returned (.int .i64 (cmpI a.2 b.2)) ∧ Gn W1 w') := fun W1 W2 h => (Compare_u _ _ W2).mono fun e w' ⟨h1, h2⟩ => ⟨h1, by rw [h2]; exact h⟩
  have C2 : Hid (∀ W1 W2 : World, Gn W1 W2 → Calls Tryd.prog 39 #[.int .i64 a.1, .int .i64 b.1] W2 fun e w' => e = .returned (.int .i64 (cmpI a.1 b.1)) ∧ Gn W1 w') := fun W1 W2 h => (Compare_x _ _ W2).mono fun e w' ⟨h1, h2⟩ => ⟨h1, by rw [h2]; exact h⟩
  have C3 : Hid (∀ t (W1 W2 : World), Gn W1 W2 → Calls Tryd.prog 37 #[.slice (some ⟨W2.heap.size, 0, none⟩) 2 2] (W2.alloc (.cells #[.int .i64 (cmpI a.2 b.2), .int .i64 (cmpI a.1 b.1)] t)) fun e w' => e = .returned (.int .i64 (cmpC a b)) ∧ Gn W1 w') := fun t W1 W2 h => (Or_x (cmpI a.2 b.2) (cmpI a.1 b.1) 2 W2.heap.size _ (by rw [Lib.cell_of_heap (heap_alloc_new _ _)]; rfl) (by rw [Lib.cell_of_heap (heap_alloc_new _ _)]; rfl)).mono fun e w' ⟨h1, h2⟩ => ⟨h1, by rw [h2]; exact h.alloc _⟩
  have HG : Gn W ((W.alloc (.cells (cmV a) 51)).alloc (.cells (cmV b) 51)) := ((Gn.refl W).alloc _).alloc _
  generalize cmpI a.2 b.2 = p at *
  generalize cmpI a.1 b.1 = r at *
  generalize cmpC a b = z at *
  obtain ⟨n, i⟩ := a
  obtain ⟨n2, i2⟩ := b
  unfold cmV at *
  simp only at *
  have HT : Gn ((W.alloc (.cells #[.int .i64 n, .int .u64 i] 51)).alloc (.cells #[.int .i64 n2, .int .u64 i2] 51)) ((W.alloc (.cells #[.int .i64 n, .int .u64 i] 51)).alloc (.cells #[.int .i64 n2, .int .u64 i2] 51)) := Gn.refl _
  have HGT : Hid (∀ V, Gn ((W.alloc (.cells #[.int .i64 n, .int .u64 i] 51)).alloc (.cells #[.int .i64 n2, .int .u64 i2] 51)) V → Gn W V) := fun V h => HG.trans h
  clear HG
  go_enter Tryd.func25, Tryd.ntmps25
  go_wp2_with fail
  refine wp_region_noPanic ?_
  refine wp_region_held_drew (S := fun U => U.rangeAt W.heap.size 0 [.int .i64 n, .int .u64 i] ∧ U.rangeAt (W.heap.size + 1) 0 [.int .i64 n2, .int .u64 i2]) (by kernel_rfl) (Gn.ranges2 ((HT.drewN 1))) (fun hHeld => ?_)
  refine wpAnyH_take (i := 0) (v := ?_) rfl (by kernel_rfl) (by kernel_rfl) (by kernel_rfl) (fun _ _ _ h => h) (Or.inl ⟨by kernel_rfl, ?_⟩) (by assumption) ?_
  rotate_left
  · (intro w hSw; (try dsimp only at hSw); go_simp; (try with_reducible rfl))
  simp only [Act.put, List.getElem_toArray, List.getElem_cons_succ, List.getElem_cons_zero, List.setIfInBounds_toArray, List.set_cons_zero, List.set_cons_succ]
  refine wpAnyH_take (i := 1) (v := ?_) rfl (by kernel_rfl) (by kernel_rfl) (by kernel_rfl) (fun _ _ _ h => h) (Or.inl ⟨by kernel_rfl, ?_⟩) (by assumption) ?_
  rotate_left
  · (intro w hSw; have e1 := hSw.1 1 _ rfl; go_simp; (try with_reducible rfl))
  simp only [Act.put, List.getElem_toArray, List.getElem_cons_succ, List.getElem_cons_zero, List.setIfInBounds_toArray, List.set_cons_zero, List.set_cons_succ]
  refine wpAnyH_take (i := 2) (v := ?_) rfl (by kernel_rfl) (by kernel_rfl) (by kernel_rfl) (fun _ _ _ h => h) (Or.inl ⟨by kernel_rfl, ?_⟩) (by assumption) ?_
  rotate_left
  · (intro w hSw; (try dsimp only at hSw); go_simp; (try with_reducible rfl))
  simp only [Act.put, List.getElem_toArray, List.getElem_cons_succ, List.getElem_cons_zero, List.setIfInBounds_toArray, List.set_cons_zero, List.set_cons_succ]
  refine wpAnyH_take (i := 3) (v := ?_) rfl (by kernel_rfl) (by kernel_rfl) (by kernel_rfl) (fun _ _ _ h => h) (Or.inl ⟨by kernel_rfl, ?_⟩) (by assumption) ?_
  rotate_left
  · (intro w hSw; have e1 := hSw.2 1 _ rfl; go_simp; (try with_reducible rfl))
  simp only [Act.put, List.getElem_toArray, List.getElem_cons_succ, List.getElem_cons_zero, List.setIfInBounds_toArray, List.set_cons_zero, List.set_cons_succ]
  refine wpAnyH_take (i := 5) (v := ?_) rfl (by kernel_rfl) (by kernel_rfl) (by kernel_rfl) (fun _ _ _ h => h) (Or.inl ⟨by kernel_rfl, ?_⟩) (by assumption) ?_
  rotate_left
  · (intro w hSw; (try dsimp only at hSw); go_simp; (try with_reducible rfl))
  simp only [Act.put, List.getElem_toArray, List.getElem_cons_succ, List.getElem_cons_zero, List.setIfInBounds_toArray, List.set_cons_zero, List.set_cons_succ]
  refine wpAnyH_take (i := 6) (v := ?_) rfl (by kernel_rfl) (by kernel_rfl) (by kernel_rfl) (fun _ _ _ h => h) (Or.inl ⟨by kernel_rfl, ?_⟩) (by assumption) ?_
  rotate_left
  · (intro w hSw; have e1 := hSw.1 0 _ rfl; go_simp; (try with_reducible rfl))
  simp only [Act.put, List.getElem_toArray, List.getElem_cons_succ, List.getElem_cons_zero, List.setIfInBounds_toArray, List.set_cons_zero, List.set_cons_succ]
  refine wpAnyH_take (i := 7) (v := ?_) rfl (by kernel_rfl) (by kernel_rfl) (by kernel_rfl) (fun _ _ _ h => h) (Or.inl ⟨by kernel_rfl, ?_⟩) (by assumption) ?_
  rotate_left
  · (intro w hSw; (try dsimp only at hSw); go_simp; (try with_reducible rfl))
  simp only [Act.put, List.getElem_toArray, List.getElem_cons_succ, List.getElem_cons_zero, List.setIfInBounds_toArray, List.set_cons_zero, List.set_cons_succ]
  refine wpAnyH_take (i := 8) (v := ?_) rfl (by kernel_rfl) (by kernel_rfl) (by kernel_rfl) (fun _ _ _ h => h) (Or.inl ⟨by kernel_rfl, ?_⟩) (by assumption) ?_
  rotate_left
  · (intro w hSw; have e1 := hSw.2 0 _ rfl; go_simp; (try with_reducible rfl))
  simp only [Act.put, List.getElem_toArray, List.getElem_cons_succ, List.getElem_cons_zero, List.setIfInBounds_toArray, List.set_cons_zero, List.set_cons_succ]
  refine wpAnyH_ready (rs := [4]) (by kernel_rfl) (by simp) ?_
  refine AllReadyH.cons (o := _) rfl (fun K hK => ?_) AllReadyH.nil
  go_simp
  go_at_call 38; refine (C1.out _ _ (HT.drewN 1)).mono ?_; rintro e V7 ⟨rfl, HB7⟩
  refine hK.out _ _ (Gn.ranges2 (HB7)) (fun hHeld => ?_)
  clear hK K
  (try simp only [Act.put, List.getElem_toArray, List.getElem_cons_succ, List.getElem_cons_zero, List.setIfInBounds_toArray, List.set_cons_zero, List.set_cons_succ])
  refine wpAnyH_ready (rs := [9]) (by kernel_rfl) (by simp) ?_
  refine AllReadyH.cons (o := _) rfl (fun K hK => ?_) AllReadyH.nil
  go_simp
  go_at_call 39; refine (C2.out _ _ HB7).mono ?_; rintro e V8 ⟨rfl, HB8⟩
  refine hK.out _ _ (Gn.ranges2 (HB8)) (fun hHeld => ?_)
  clear hK K
  (try simp only [Act.put, List.getElem_toArray, List.getElem_cons_succ, List.getElem_cons_zero, List.setIfInBounds_toArray, List.set_cons_zero, List.set_cons_succ])
  refine wpAnyH_ready (rs := [10]) (by kernel_rfl) (by simp) ?_
  refine AllReadyH.cons (o := _) rfl (fun K hK => ?_) AllReadyH.nil
  go_simp
  refine hK.out _ _ (Gn.ranges2 ((HB8).alloc _)) (fun hHeld => ?_)
  clear hK K
  (try simp only [Act.put, List.getElem_toArray, List.getElem_cons_succ, List.getElem_cons_zero, List.setIfInBounds_toArray, List.set_cons_zero, List.set_cons_succ])
  refine wpAnyH_ready (rs := [11]) (by kernel_rfl) (by simp) ?_
  refine AllReadyH.cons (o := _) rfl (fun K hK => ?_) AllReadyH.nil
  go_simp
  go_at_call 37; refine (C3.out _ _ _ HB8).mono ?_; rintro e V10 ⟨rfl, HB10⟩
  refine hK.out _ _ (Gn.ranges2 (HB10)) (fun hHeld => ?_)
  clear hK K
  (try simp only [Act.put, List.getElem_toArray, List.getElem_cons_succ, List.getElem_cons_zero, List.setIfInBounds_toArray, List.set_cons_zero, List.set_cons_succ])
  refine wpAnyH_take (i := 12) rfl (by kernel_rfl) (by kernel_rfl) (by kernel_rfl) (fun _ _ _ h => h) (yi_assign (by kernel_rfl) rfl rfl) (by assumption) ?_
  simp only [Act.put, List.getElem_toArray, List.getElem_cons_succ, List.getElem_cons_zero, List.setIfInBounds_toArray, List.set_cons_zero, List.set_cons_succ]
  refine wpAnyH_done (by kernel_rfl) ?_ _
  refine NoPanic.normal ?_
  go_wp2_with fail
  go_ret
  exact ⟨rfl, HGT.out _ (HB10)⟩
theorem ltOf_C (a b : Cm) : ltOf cmpC a b = decide (a.2 < b.2 ∨ (a.2 = b.2 ∧ a.1 < b.1)) := by
  unfold ltOf cmpC
  rw [decide_eq_decide]
  unfold cmpI
  split <;> (repeat split at * <;> try omega)
theorem swoC : SWO (ltOf cmpC) where
  irrefl x := by rw [ltOf_C]; simp
  trans x y z h1 h2 := by
    rw [ltOf_C] at *
    rw [decide_eq_true_eq] at *; omega
  ntrans x y z h1 h2 := by
    rw [ltOf_C] at *
    rw [decide_eq_false_iff_not] at *; omega
theorem sort_cm (f : FuncId) (cf : Cm → Cm → Int) (hO : SWO (ltOf cf)) (eg : ∀ args w, (callFunc f args).run Tryd.prog w = .ok (.enter f args) w) (hc : ∀ x y W, Calls Tryd.prog f #[.agg (cmV x), .agg (cmV y)] W fun e w' => e = .returned (.int .i64 (cf x y)) ∧ Gn W w')
    {N n : Nat} {v : Value} {l : List Cm} {W : World} (hn : n = l.length) (hown : W.ownsRow N 51 2 v n (flG lyC l)) (hl : l.length ≤ 100000) :
    Calls Tryd.prog 24 #[v, .func (.func f) #[] #[]] W fun e w' => e = .returned (.tuple #[]) ∧ ∃ l' : List Cm, l'.Perm l ∧ l'.Pairwise (fun a b => ltOf cf b a = false) ∧ w'.ownsRow N 51 2 v n (flG lyC l') ∧ W.grownBy w' v.ownBlock := by
  subst hn
  have hown0 := hown
  obtain ⟨h0, ⟨h1, hz⟩ | ⟨g, cap, cur, h1, h2, h3, h4, h5, h6, h7⟩⟩ := hown
  · subst h1
    have hcon := AnyF.slices_SortFunc_none Tryd.sortC none 0 (.func (.func f) #[] #[]) W
    have hcon' : Calls Tryd.prog 24 #[.slice none 0 0, .func (.func f) #[] #[]] W _ := hcon
    refine hcon'.mono ?_
    rintro e w' ⟨rfl, rfl⟩
    have hl0 : l = [] := List.length_eq_zero_iff.1 hz
    subst hl0
    exact ⟨rfl, [], List.Perm.refl _, List.Pairwise.nil, hown0, ⟨rfl, rfl, rfl, Nat.le_refl _, fun _ _ _ => rfl⟩⟩
  · subst h1
    have hg := lt_heap h3
    have hcm : CmpLays Tryd.prog f #[] lyC.f 2 cf g 0 l.toArray.size W := fun m os dk hs x y => hc x y _
    have hcon := AnyQ.slices_SortFunc Tryd.sortC 2 Tryd.isAgg51 Tryd.sizeOf51 lyC.f lyC.len lyC.one cf hO f #[] g 0 cap l.toArray W eg hcm (holds_lay lyC l h3 h7) hg (by simp; omega)
    have hcon' : Calls Tryd.prog 24 #[.slice (some ⟨g, 0, none⟩) l.length cap, .func (.func f) #[] #[]] W _ := hcon
    refine hcon'.mono ?_
    rintro e w' ⟨rfl, d', n, os, hp, hs, rfl⟩
    obtain ⟨p1, _, p3⟩ := hp
    have e1 : d'.extract 0 l.toArray.size = d' := by rw [← p1]; simp
    have e2 : l.toArray.extract 0 l.toArray.size = l.toArray := by simp
    rw [e1, e2] at p3
    have hd : d'.size = l.length := by simpa using p1
    obtain ⟨q1, q2⟩ := sorted_lay lyC (n := n) (os := os) hown0 hd
    exact ⟨rfl, d'.toList, by simpa using p3, sorted_pw p1 hs, q1, q2⟩
end Go.Proofs.YtfghjadhpajmeaaDoor
