/- trellis: misses, isReady. -/
import Derived.Test.YthpdmeoljdmncaaZ3
import Derived.Test.YthpdmeoljdmncaaRegT
namespace Go.Proofs.Ythpdmeoljdmncaa
open Go.RowKit
set_option linter.unusedVariables false
set_option linter.unusedSimpArgs false

set_option maxHeartbeats 1000000 in
theorem miss1_at {w W : World} {b : Nat} {g : RC.Gr} {sa aa : Option Addr} {sc ac : Nat} {vn vo : Value} {st : TR.St} (h : KX w b g sa sc aa ac vn vo st W) (cb : Nat) (hc : W.cell? ⟨cb, 0, none⟩ = some (.pointer (some ⟨b, 0, none⟩))) (s : List UInt8) :
    Calls Try.prog 58 #[.string (M.bs s), .pointer (some ⟨cb, 0, none⟩)] W fun e w' => e = .returned (.bool (!decide (s ∈ TR.nm g))) ∧ w' = W := by
  obtain ⟨na, nc, rfl, hs⟩ := h.v.ns
  have h2 := h.c2
  have hb := h.lt
  have hl := h.v.nmle
  have CC : Hid (Calls Try.prog 59 #[.slice na (TR.nm g).length nc, .string (M.bs s)] W fun e w' => e = .returned (.bool (decide (s ∈ TR.nm g))) ∧ w' = W) := Contains_at _ na nc s W hs (by unfold maxLen; omega)
  obtain ⟨q, hq⟩ : ∃ q, decide (s ∈ TR.nm g) = q := ⟨_, rfl⟩
  rw [hq] at CC ⊢
  clear h hs hq
  generalize (TR.nm g).length = n at *
  go_enter Try.func58, Try.ntmps58
  go_wp2_with (go_at_call 59; refine CC.out.mono ?_; rintro e w' ⟨rfl, rfl⟩)
  go_ret
  exact ⟨rfl, rfl⟩
set_option maxHeartbeats 1000000 in
theorem misses_at {w W : World} {b : Nat} {g : RC.Gr} {sa aa : Option Addr} {sc ac : Nat} {vn vo : Value} {st : TR.St} (h : KX w b g sa sc aa ac vn vo st W) (t : RC.Ac) (x : Option Addr) (c : Nat) (hv : Strs W.heap.size W (.slice x t.2.1.length c) t.2.1) (hn : t.2.1.length ≤ maxLen) :
    Calls Try.prog 43 #[.pointer (some ⟨b, 0, none⟩), .agg (acL t x c).toArray] W fun e w' => e = .returned (.bool (TR.missA (TR.nm g) t)) ∧ Bl W w' := by
  have CC : Hid (∀ T1 o, Calls Try.prog 57 #[.slice x t.2.1.length c, .func (.func 58) #[] #[.pointer (some ⟨W.heap.size, 0, none⟩)]] ((W.alloc (.cells #[.pointer (some ⟨b, 0, none⟩)] T1)).alloc o) fun e w' => e = .returned (.bool (TR.missA (TR.nm g) t)) ∧ w' = (W.alloc (.cells #[.pointer (some ⟨b, 0, none⟩)] T1)).alloc o) := fun T1 o => by
    have hB : Bl W ((W.alloc (.cells #[.pointer (some ⟨b, 0, none⟩)] T1)).alloc o) := ((Bl.refl W).alloc _).alloc _
    have hcell : ((W.alloc (.cells #[.pointer (some ⟨b, 0, none⟩)] T1)).alloc o).cell? ⟨W.heap.size, 0, none⟩ = some (.pointer (some ⟨b, 0, none⟩)) := by
      rw [Bl.cell ((Bl.refl (W.alloc (.cells #[.pointer (some ⟨b, 0, none⟩)] T1))).alloc o) (by simp), Lib.cell_of_heap (heap_alloc_new W _)]; rfl
    refine ContainsS_c _ _ _ _ _ _ _ (IndexS_c _ _ (fun s => !decide (s ∈ TR.nm g)) t.2.1 x c _ (enters_of Try.func58 (by kernel_rfl) rfl) (Strs.sa (hv.bl hB)).2 hn (fun s hs => ?_))
    exact miss1_at (h.step hB) W.heap.size hcell s
  have HF : Hid (∀ o1 o2, Bl W ((W.alloc o1).alloc o2)) := fun o1 o2 => ((Bl.refl W).alloc _).alloc _
  obtain ⟨q, hq⟩ : ∃ q, TR.missA (TR.nm g) t = q := ⟨_, rfl⟩
  rw [hq] at CC ⊢
  clear h hv hq hn
  unfold acL
  go_enter Try.func43, Try.ntmps43
  go_wp2_with (go_at_call 57; refine (CC.out _ _).mono ?_; rintro e w' ⟨rfl, rfl⟩)
  go_ret
  exact ⟨rfl, HF.out _ _⟩
set_option maxRecDepth 8000 in
set_option maxHeartbeats 2000000 in
theorem isReady_no {w W : World} {b : Nat} {g : RC.Gr} {sa aa : Option Addr} {sc ac : Nat} {vn vo : Value} {st : TR.St} (h : KX w b g sa sc aa ac vn vo st W) (t : RC.Ac) (x : Option Addr) (c : Nat) (hv : Strs W.heap.size W (.slice x t.2.1.length c) t.2.1) (hn : t.2.1.length ≤ maxLen) (hq : decide (TR.setOf (TR.nm g) [t.1] &&& st.there = 0) = false) :
    Calls Try.prog 60 #[.pointer (some ⟨b, 0, none⟩), .agg (acL t x c).toArray] W fun e w' => e = .returned (.bool false) ∧ Bl W w' := by
  obtain ⟨n, ins, code⟩ := t
  simp only [] at hv hn hq ⊢
  have hbl := h.lt
  have h3 := h.c3
  have HBA : Bl W (W.alloc (.cells #[.string (M.bs n), .slice x ins.length c, .string (M.bs code)] 41)) := (Bl.refl W).alloc _
  have HD : Hid (Bl (W.alloc (.cells #[.string (M.bs n), .slice x ins.length c, .string (M.bs code)] 41)) (W.alloc (.cells #[.string (M.bs n), .slice x ins.length c, .string (M.bs code)] 41)).drew) := (Bl.refl (W.alloc (.cells #[.string (M.bs n), .slice x ins.length c, .string (M.bs code)] 41))).drewN 1
  have KP : Hid (∀ U, Bl (W.alloc (.cells #[.string (M.bs n), .slice x ins.length c, .string (M.bs code)] 41)) U → U.cell? ⟨b, 3, none⟩ = some (su st.there) ∧ U.cell? ⟨W.heap.size, 0, none⟩ = some (.string (M.bs n)) ∧ U.cell? ⟨W.heap.size, 1, none⟩ = some (.slice x ins.length c)) := fun U hU => by
    have hz : W.heap.size < (W.alloc (.cells #[.string (M.bs n), .slice x ins.length c, .string (M.bs code)] 41)).heap.size := by simp
    refine ⟨?_, ?_, ?_⟩
    · rw [Bl.cell (HBA.step hU) hbl]; exact h3
    · rw [Bl.cell hU hz, Lib.cell_of_heap (heap_alloc_new W _)]; rfl
    · rw [Bl.cell hU hz, Lib.cell_of_heap (heap_alloc_new W _)]; rfl
  have AL : Hid (∀ U o, Bl (W.alloc (.cells #[.string (M.bs n), .slice x ins.length c, .string (M.bs code)] 41)) U → Bl (W.alloc (.cells #[.string (M.bs n), .slice x ins.length c, .string (M.bs code)] 41)) (U.alloc o)) := fun U o hU => hU.alloc o
  have hBB : Bl (W.alloc (.cells #[.string (M.bs n), .slice x ins.length c, .string (M.bs code)] 41)) ((W.alloc (.cells #[.string (M.bs n), .slice x ins.length c, .string (M.bs code)] 41)).drew.alloc (.cells #[.string (M.bs n)] 9)) := HD.out.alloc _
  have C1 : Hid (Calls Try.prog 33 #[.pointer (some ⟨b, 0, none⟩), .slice (some ⟨W.heap.size + 1, 0, none⟩) 1 1] ((W.alloc (.cells #[.string (M.bs n), .slice x ins.length c, .string (M.bs code)] 41)).drew.alloc (.cells #[.string (M.bs n)] 9)) fun e w' => e = .returned (su (TR.setOf (TR.nm g) [n])) ∧ Bl (W.alloc (.cells #[.string (M.bs n), .slice x ins.length c, .string (M.bs code)] 41)) w') := by
    have hsa : SA ((W.alloc (.cells #[.string (M.bs n), .slice x ins.length c, .string (M.bs code)] 41)).drew.alloc (.cells #[.string (M.bs n)] 9)) (some ⟨W.heap.size + 1, 0, none⟩) [n] := by
      intro i u hu
      have hz : (W.alloc (.cells #[.string (M.bs n), .slice x ins.length c, .string (M.bs code)] 41)).drew.heap.size = W.heap.size + 1 := by simp
      refine ⟨W.heap.size + 1, 0, rfl, ?_⟩
      rw [← hz, Lib.cell_of_heap (heap_alloc_new _ _)]
      rcases i with _ | i
      · cases hu; rfl
      · simp at hu
    have := setOf_at (h.step (HBA.step hBB)) [n] (some ⟨W.heap.size + 1, 0, none⟩) 1 hsa (by unfold maxLen; simp)
    refine Calls.mono this ?_
    rintro e w' ⟨rfl, rfl⟩
    exact ⟨rfl, hBB⟩
  have C2 : Hid (∀ U, Bl (W.alloc (.cells #[.string (M.bs n), .slice x ins.length c, .string (M.bs code)] 41)) U → Calls Try.prog 36 #[su (TR.setOf (TR.nm g) [n]), su st.there] U fun e w' => e = .returned (.bool (!false)) ∧ Bl (W.alloc (.cells #[.string (M.bs n), .slice x ins.length c, .string (M.bs code)] 41)) w') := fun U hU => by
    rw [← hq]
    refine (meets_at _ _ (h.v.set_lt _) h.v.tl U).mono ?_
    rintro e w' ⟨rfl, rfl⟩
    exact ⟨rfl, hU⟩
  have FIN : Hid (∀ U, Bl (W.alloc (.cells #[.string (M.bs n), .slice x ins.length c, .string (M.bs code)] 41)) U → Bl W U) := fun U hU => HBA.step hU
  clear h hv hn hq HBA hBB
  generalize TR.sub (TR.setOf (TR.nm g) ins) st.there = R at *
  generalize TR.setOf (TR.nm g) [n] = s1 at *
  generalize TR.setOf (TR.nm g) ins = s2 at *
  generalize st.there = th at *
  unfold acL
  simp only []
  go_enter Try.func60, Try.ntmps60
  go_wp2_with fail
  refine wp_region_noPanic ?_
  refine wp_region_held_drew (S := fun U => U.cell? ⟨b, 3, none⟩ = some (su th) ∧ U.cell? ⟨W.heap.size, 0, none⟩ = some (.string (M.bs n)) ∧ U.cell? ⟨W.heap.size, 1, none⟩ = some (.slice x ins.length c)) (by kernel_rfl) (KP.out _ (HD.out)) (fun hHeld => ?_)
  refine wpAnyH_take (i := 0) rfl (by kernel_rfl) (by kernel_rfl) (by kernel_rfl) (fun _ _ _ h => h) (yi_move (by kernel_rfl) rfl rfl) (by assumption) ?_
  simp only [Act.put, List.getElem_toArray, List.getElem_cons_succ, List.getElem_cons_zero, List.setIfInBounds_toArray, List.set_cons_zero, List.set_cons_succ]
  refine wpAnyH_take (i := 1) (v := ?_) rfl (by kernel_rfl) (by kernel_rfl) (by kernel_rfl) (fun _ _ _ h => h) (Or.inl ⟨by kernel_rfl, ?_⟩) (by assumption) ?_
  rotate_left
  · (intro w hSw; (try dsimp only at hSw); go_simp; (try with_reducible rfl))
  simp only [Act.put, List.getElem_toArray, List.getElem_cons_succ, List.getElem_cons_zero, List.setIfInBounds_toArray, List.set_cons_zero, List.set_cons_succ]
  refine wpAnyH_take (i := 2) (v := ?_) rfl (by kernel_rfl) (by kernel_rfl) (by kernel_rfl) (fun _ _ _ h => h) (Or.inl ⟨by kernel_rfl, ?_⟩) (by assumption) ?_
  rotate_left
  · (intro w hSw; (try dsimp only at hSw); go_simp; (try with_reducible rfl))
  simp only [Act.put, List.getElem_toArray, List.getElem_cons_succ, List.getElem_cons_zero, List.setIfInBounds_toArray, List.set_cons_zero, List.set_cons_succ]
  refine wpAnyH_take (i := 3) (v := ?_) rfl (by kernel_rfl) (by kernel_rfl) (by kernel_rfl) (fun _ _ _ h => h) (Or.inl ⟨by kernel_rfl, ?_⟩) (by assumption) ?_
  rotate_left
  · (intro w hSw; (try dsimp only at hSw); go_simp; (try with_reducible rfl))
  simp only [Act.put, List.getElem_toArray, List.getElem_cons_succ, List.getElem_cons_zero, List.setIfInBounds_toArray, List.set_cons_zero, List.set_cons_succ]
  refine wpAnyH_take (i := 6) rfl (by kernel_rfl) (by kernel_rfl) (by kernel_rfl) (fun _ _ _ h => h) (yi_move (by kernel_rfl) rfl rfl) (by assumption) ?_
  simp only [Act.put, List.getElem_toArray, List.getElem_cons_succ, List.getElem_cons_zero, List.setIfInBounds_toArray, List.set_cons_zero, List.set_cons_succ]
  refine wpAnyH_take (i := 7) (v := ?_) rfl (by kernel_rfl) (by kernel_rfl) (by kernel_rfl) (fun _ _ _ h => h) (Or.inl ⟨by kernel_rfl, ?_⟩) (by assumption) ?_
  rotate_left
  · (intro w hSw; (try dsimp only at hSw); go_simp; (try with_reducible rfl))
  simp only [Act.put, List.getElem_toArray, List.getElem_cons_succ, List.getElem_cons_zero, List.setIfInBounds_toArray, List.set_cons_zero, List.set_cons_succ]
  refine wpAnyH_take (i := 8) (v := ?_) rfl (by kernel_rfl) (by kernel_rfl) (by kernel_rfl) (fun _ _ _ h => h) (Or.inl ⟨by kernel_rfl, ?_⟩) (by assumption) ?_
  rotate_left
  · (intro w hSw; (try dsimp only at hSw); go_simp; (try with_reducible rfl))
  simp only [Act.put, List.getElem_toArray, List.getElem_cons_succ, List.getElem_cons_zero, List.setIfInBounds_toArray, List.set_cons_zero, List.set_cons_succ]
  refine wpAnyH_take (i := 9) (v := ?_) rfl (by kernel_rfl) (by kernel_rfl) (by kernel_rfl) (fun _ _ _ h => h) (Or.inl ⟨by kernel_rfl, ?_⟩) (by assumption) ?_
  rotate_left
  · (intro w hSw; (try dsimp only at hSw); go_simp; (try with_reducible rfl))
  simp only [Act.put, List.getElem_toArray, List.getElem_cons_succ, List.getElem_cons_zero, List.setIfInBounds_toArray, List.set_cons_zero, List.set_cons_succ]
  refine wpAnyH_ready (rs := [4]) (by kernel_rfl) (by simp) ?_
  refine AllReadyH.cons (o := _) rfl (fun K hK => ?_) AllReadyH.nil
  go_simp
  refine hK.out _ _ (KP.out _ ((AL.out _ _ HD.out))) (fun hHeld => ?_)
  clear hK K
  (try simp only [Act.put, List.getElem_toArray, List.getElem_cons_succ, List.getElem_cons_zero, List.setIfInBounds_toArray, List.set_cons_zero, List.set_cons_succ])
  refine wpAnyH_ready (rs := [5]) (by kernel_rfl) (by simp) ?_
  refine AllReadyH.cons (o := _) rfl (fun K hK => ?_) AllReadyH.nil
  go_simp
  go_at_call 33; refine C1.out.mono ?_; rintro e w' ⟨rfl, HB10⟩
  refine hK.out _ _ (KP.out _ (HB10)) (fun hHeld => ?_)
  clear hK K
  (try simp only [Act.put, List.getElem_toArray, List.getElem_cons_succ, List.getElem_cons_zero, List.setIfInBounds_toArray, List.set_cons_zero, List.set_cons_succ])
  refine wpAnyH_ready (rs := [10]) (by kernel_rfl) (by simp) ?_
  refine AllReadyH.cons (o := _) rfl (fun K hK => ?_) AllReadyH.nil
  go_simp
  go_at_call 36; refine (C2.out _ HB10).mono ?_; rintro e w' ⟨rfl, HB11⟩
  refine hK.out _ _ (KP.out _ (HB11)) (fun hHeld => ?_)
  clear hK K
  (try simp only [Act.put, List.getElem_toArray, List.getElem_cons_succ, List.getElem_cons_zero, List.setIfInBounds_toArray, List.set_cons_zero, List.set_cons_succ])
  refine wpAnyH_take (i := 11) (v := ?_) rfl (by kernel_rfl) (by kernel_rfl) (by kernel_rfl) (fun _ _ _ h => h) (Or.inl ⟨by kernel_rfl, ?_⟩) (by assumption) ?_
  rotate_left
  · (intro w hSw; (try dsimp only at hSw); go_simp; (try with_reducible rfl))
  simp only [Act.put, List.getElem_toArray, List.getElem_cons_succ, List.getElem_cons_zero, List.setIfInBounds_toArray, List.set_cons_zero, List.set_cons_succ]
  refine wpAnyH_take (i := 12) rfl (by kernel_rfl) (by kernel_rfl) (by kernel_rfl) (fun _ _ _ h => h) (yi_move (by kernel_rfl) rfl rfl) (by assumption) ?_
  simp only [Act.put, List.getElem_toArray, List.getElem_cons_succ, List.getElem_cons_zero, List.setIfInBounds_toArray, List.set_cons_zero, List.set_cons_succ]
  refine wpAnyH_take (i := 13) (v := undef) rfl (by kernel_rfl) (by kernel_rfl) (by kernel_rfl) (fun _ _ _ h => h) (Or.inr ⟨by kernel_rfl, rfl⟩) (by assumption) ?_
  simp only [Act.put, List.getElem_toArray, List.getElem_cons_succ, List.getElem_cons_zero, List.setIfInBounds_toArray, List.set_cons_zero, List.set_cons_succ]
  refine wpAnyH_take (i := 14) (v := undef) rfl (by kernel_rfl) (by kernel_rfl) (by kernel_rfl) (fun _ _ _ h => h) (Or.inr ⟨by kernel_rfl, rfl⟩) (by assumption) ?_
  simp only [Act.put, List.getElem_toArray, List.getElem_cons_succ, List.getElem_cons_zero, List.setIfInBounds_toArray, List.set_cons_zero, List.set_cons_succ]
  refine wpAnyH_take (i := 15) (v := undef) rfl (by kernel_rfl) (by kernel_rfl) (by kernel_rfl) (fun _ _ _ h => h) (Or.inr ⟨by kernel_rfl, rfl⟩) (by assumption) ?_
  simp only [Act.put, List.getElem_toArray, List.getElem_cons_succ, List.getElem_cons_zero, List.setIfInBounds_toArray, List.set_cons_zero, List.set_cons_succ]
  refine wpAnyH_take (i := 16) (v := undef) rfl (by kernel_rfl) (by kernel_rfl) (by kernel_rfl) (fun _ _ _ h => h) (Or.inr ⟨by kernel_rfl, rfl⟩) (by assumption) ?_
  simp only [Act.put, List.getElem_toArray, List.getElem_cons_succ, List.getElem_cons_zero, List.setIfInBounds_toArray, List.set_cons_zero, List.set_cons_succ]
  refine wpAnyH_take (i := 17) (v := undef) rfl (by kernel_rfl) (by kernel_rfl) (by kernel_rfl) (fun _ _ _ h => h) (Or.inr ⟨by kernel_rfl, rfl⟩) (by assumption) ?_
  simp only [Act.put, List.getElem_toArray, List.getElem_cons_succ, List.getElem_cons_zero, List.setIfInBounds_toArray, List.set_cons_zero, List.set_cons_succ]
  refine wpAnyH_take (i := 18) (v := undef) rfl (by kernel_rfl) (by kernel_rfl) (by kernel_rfl) (fun _ _ _ h => h) (Or.inr ⟨by kernel_rfl, rfl⟩) (by assumption) ?_
  simp only [Act.put, List.getElem_toArray, List.getElem_cons_succ, List.getElem_cons_zero, List.setIfInBounds_toArray, List.set_cons_zero, List.set_cons_succ]
  refine wpAnyH_take (i := 19) (v := undef) rfl (by kernel_rfl) (by kernel_rfl) (by kernel_rfl) (fun _ _ _ h => h) (Or.inr ⟨by kernel_rfl, rfl⟩) (by assumption) ?_
  simp only [Act.put, List.getElem_toArray, List.getElem_cons_succ, List.getElem_cons_zero, List.setIfInBounds_toArray, List.set_cons_zero, List.set_cons_succ]
  refine wpAnyH_take (i := 20) (v := undef) rfl (by kernel_rfl) (by kernel_rfl) (by kernel_rfl) (fun _ _ _ h => h) (Or.inr ⟨by kernel_rfl, rfl⟩) (by assumption) ?_
  simp only [Act.put, List.getElem_toArray, List.getElem_cons_succ, List.getElem_cons_zero, List.setIfInBounds_toArray, List.set_cons_zero, List.set_cons_succ]
  refine wpAnyH_take (i := 21) (v := undef) rfl (by kernel_rfl) (by kernel_rfl) (by kernel_rfl) (fun _ _ _ h => h) (Or.inr ⟨by kernel_rfl, rfl⟩) (by assumption) ?_
  simp only [Act.put, List.getElem_toArray, List.getElem_cons_succ, List.getElem_cons_zero, List.setIfInBounds_toArray, List.set_cons_zero, List.set_cons_succ]
  refine wpAnyH_take (i := 22) (v := ?_) rfl (by kernel_rfl) (by kernel_rfl) (by kernel_rfl) (fun _ _ _ h => h) (Or.inl ⟨by kernel_rfl, ?_⟩) (by assumption) ?_
  rotate_left
  · (intro w hSw; (try dsimp only at hSw); go_simp; (try with_reducible rfl))
  simp only [Act.put, List.getElem_toArray, List.getElem_cons_succ, List.getElem_cons_zero, List.setIfInBounds_toArray, List.set_cons_zero, List.set_cons_succ]
  refine wpAnyH_take (i := 23) rfl (by kernel_rfl) (by kernel_rfl) (by kernel_rfl) (fun _ _ _ h => h) (yi_assign (by kernel_rfl) rfl rfl) (by assumption) ?_
  simp only [Act.put, List.getElem_toArray, List.getElem_cons_succ, List.getElem_cons_zero, List.setIfInBounds_toArray, List.set_cons_zero, List.set_cons_succ]
  refine wpAnyH_done (by kernel_rfl) ?_ _
  refine NoPanic.normal ?_
  go_wp2_with fail
  go_ret
  exact ⟨rfl, FIN.out _ HB11⟩
set_option maxRecDepth 8000 in
set_option maxHeartbeats 2000000 in
theorem isReady_yes {w W : World} {b : Nat} {g : RC.Gr} {sa aa : Option Addr} {sc ac : Nat} {vn vo : Value} {st : TR.St} (h : KX w b g sa sc aa ac vn vo st W) (t : RC.Ac) (x : Option Addr) (c : Nat) (hv : Strs W.heap.size W (.slice x t.2.1.length c) t.2.1) (hn : t.2.1.length ≤ maxLen) (hq : decide (TR.setOf (TR.nm g) [t.1] &&& st.there = 0) = true) :
    Calls Try.prog 60 #[.pointer (some ⟨b, 0, none⟩), .agg (acL t x c).toArray] W fun e w' => e = .returned (.bool (TR.sub (TR.setOf (TR.nm g) t.2.1) st.there)) ∧ Bl W w' := by
  obtain ⟨n, ins, code⟩ := t
  simp only [] at hv hn hq ⊢
  have hbl := h.lt
  have h3 := h.c3
  have HBA : Bl W (W.alloc (.cells #[.string (M.bs n), .slice x ins.length c, .string (M.bs code)] 41)) := (Bl.refl W).alloc _
  have HD : Hid (Bl (W.alloc (.cells #[.string (M.bs n), .slice x ins.length c, .string (M.bs code)] 41)) (W.alloc (.cells #[.string (M.bs n), .slice x ins.length c, .string (M.bs code)] 41)).drew) := (Bl.refl (W.alloc (.cells #[.string (M.bs n), .slice x ins.length c, .string (M.bs code)] 41))).drewN 1
  have KP : Hid (∀ U, Bl (W.alloc (.cells #[.string (M.bs n), .slice x ins.length c, .string (M.bs code)] 41)) U → U.cell? ⟨b, 3, none⟩ = some (su st.there) ∧ U.cell? ⟨W.heap.size, 0, none⟩ = some (.string (M.bs n)) ∧ U.cell? ⟨W.heap.size, 1, none⟩ = some (.slice x ins.length c)) := fun U hU => by
    have hz : W.heap.size < (W.alloc (.cells #[.string (M.bs n), .slice x ins.length c, .string (M.bs code)] 41)).heap.size := by simp
    refine ⟨?_, ?_, ?_⟩
    · rw [Bl.cell (HBA.step hU) hbl]; exact h3
    · rw [Bl.cell hU hz, Lib.cell_of_heap (heap_alloc_new W _)]; rfl
    · rw [Bl.cell hU hz, Lib.cell_of_heap (heap_alloc_new W _)]; rfl
  have AL : Hid (∀ U o, Bl (W.alloc (.cells #[.string (M.bs n), .slice x ins.length c, .string (M.bs code)] 41)) U → Bl (W.alloc (.cells #[.string (M.bs n), .slice x ins.length c, .string (M.bs code)] 41)) (U.alloc o)) := fun U o hU => hU.alloc o
  have hBB : Bl (W.alloc (.cells #[.string (M.bs n), .slice x ins.length c, .string (M.bs code)] 41)) ((W.alloc (.cells #[.string (M.bs n), .slice x ins.length c, .string (M.bs code)] 41)).drew.alloc (.cells #[.string (M.bs n)] 9)) := HD.out.alloc _
  have C1 : Hid (Calls Try.prog 33 #[.pointer (some ⟨b, 0, none⟩), .slice (some ⟨W.heap.size + 1, 0, none⟩) 1 1] ((W.alloc (.cells #[.string (M.bs n), .slice x ins.length c, .string (M.bs code)] 41)).drew.alloc (.cells #[.string (M.bs n)] 9)) fun e w' => e = .returned (su (TR.setOf (TR.nm g) [n])) ∧ Bl (W.alloc (.cells #[.string (M.bs n), .slice x ins.length c, .string (M.bs code)] 41)) w') := by
    have hsa : SA ((W.alloc (.cells #[.string (M.bs n), .slice x ins.length c, .string (M.bs code)] 41)).drew.alloc (.cells #[.string (M.bs n)] 9)) (some ⟨W.heap.size + 1, 0, none⟩) [n] := by
      intro i u hu
      have hz : (W.alloc (.cells #[.string (M.bs n), .slice x ins.length c, .string (M.bs code)] 41)).drew.heap.size = W.heap.size + 1 := by simp
      refine ⟨W.heap.size + 1, 0, rfl, ?_⟩
      rw [← hz, Lib.cell_of_heap (heap_alloc_new _ _)]
      rcases i with _ | i
      · cases hu; rfl
      · simp at hu
    have := setOf_at (h.step (HBA.step hBB)) [n] (some ⟨W.heap.size + 1, 0, none⟩) 1 hsa (by unfold maxLen; simp)
    refine Calls.mono this ?_
    rintro e w' ⟨rfl, rfl⟩
    exact ⟨rfl, hBB⟩
  have C2 : Hid (∀ U, Bl (W.alloc (.cells #[.string (M.bs n), .slice x ins.length c, .string (M.bs code)] 41)) U → Calls Try.prog 36 #[su (TR.setOf (TR.nm g) [n]), su st.there] U fun e w' => e = .returned (.bool (!true)) ∧ Bl (W.alloc (.cells #[.string (M.bs n), .slice x ins.length c, .string (M.bs code)] 41)) w') := fun U hU => by
    rw [← hq]
    refine (meets_at _ _ (h.v.set_lt _) h.v.tl U).mono ?_
    rintro e w' ⟨rfl, rfl⟩
    exact ⟨rfl, hU⟩
  have C3 : Hid (∀ U, Bl (W.alloc (.cells #[.string (M.bs n), .slice x ins.length c, .string (M.bs code)] 41)) U → Calls Try.prog 33 #[.pointer (some ⟨b, 0, none⟩), .slice x ins.length c] U fun e w' => e = .returned (su (TR.setOf (TR.nm g) ins)) ∧ Bl (W.alloc (.cells #[.string (M.bs n), .slice x ins.length c, .string (M.bs code)] 41)) w') := fun U hU => by
    refine (setOf_at (h.step (HBA.step hU)) ins x c (Strs.sa (hv.bl (HBA.step hU))).2 hn).mono ?_
    rintro e w' ⟨rfl, rfl⟩
    exact ⟨rfl, hU⟩
  have C4 : Hid (∀ U, Bl (W.alloc (.cells #[.string (M.bs n), .slice x ins.length c, .string (M.bs code)] 41)) U → Calls Try.prog 81 #[su (TR.setOf (TR.nm g) ins), su st.there] U fun e w' => e = .returned (.bool (TR.sub (TR.setOf (TR.nm g) ins) st.there)) ∧ Bl (W.alloc (.cells #[.string (M.bs n), .slice x ins.length c, .string (M.bs code)] 41)) w') := fun U hU => by
    refine (isWithin_at _ _ (h.v.set_lt _) h.v.tl U).mono ?_
    rintro e w' ⟨rfl, rfl⟩
    exact ⟨rfl, hU⟩
  have FIN : Hid (∀ U, Bl (W.alloc (.cells #[.string (M.bs n), .slice x ins.length c, .string (M.bs code)] 41)) U → Bl W U) := fun U hU => HBA.step hU
  clear h hv hn hq HBA hBB
  generalize TR.sub (TR.setOf (TR.nm g) ins) st.there = R at *
  generalize TR.setOf (TR.nm g) [n] = s1 at *
  generalize TR.setOf (TR.nm g) ins = s2 at *
  generalize st.there = th at *
  unfold acL
  simp only []
  go_enter Try.func60, Try.ntmps60
  go_wp2_with fail
  refine wp_region_noPanic ?_
  refine wp_region_held_drew (S := fun U => U.cell? ⟨b, 3, none⟩ = some (su th) ∧ U.cell? ⟨W.heap.size, 0, none⟩ = some (.string (M.bs n)) ∧ U.cell? ⟨W.heap.size, 1, none⟩ = some (.slice x ins.length c)) (by kernel_rfl) (KP.out _ (HD.out)) (fun hHeld => ?_)
  refine wpAnyH_take (i := 0) rfl (by kernel_rfl) (by kernel_rfl) (by kernel_rfl) (fun _ _ _ h => h) (yi_move (by kernel_rfl) rfl rfl) (by assumption) ?_
  simp only [Act.put, List.getElem_toArray, List.getElem_cons_succ, List.getElem_cons_zero, List.setIfInBounds_toArray, List.set_cons_zero, List.set_cons_succ]
  refine wpAnyH_take (i := 1) (v := ?_) rfl (by kernel_rfl) (by kernel_rfl) (by kernel_rfl) (fun _ _ _ h => h) (Or.inl ⟨by kernel_rfl, ?_⟩) (by assumption) ?_
  rotate_left
  · (intro w hSw; (try dsimp only at hSw); go_simp; (try with_reducible rfl))
  simp only [Act.put, List.getElem_toArray, List.getElem_cons_succ, List.getElem_cons_zero, List.setIfInBounds_toArray, List.set_cons_zero, List.set_cons_succ]
  refine wpAnyH_take (i := 2) (v := ?_) rfl (by kernel_rfl) (by kernel_rfl) (by kernel_rfl) (fun _ _ _ h => h) (Or.inl ⟨by kernel_rfl, ?_⟩) (by assumption) ?_
  rotate_left
  · (intro w hSw; (try dsimp only at hSw); go_simp; (try with_reducible rfl))
  simp only [Act.put, List.getElem_toArray, List.getElem_cons_succ, List.getElem_cons_zero, List.setIfInBounds_toArray, List.set_cons_zero, List.set_cons_succ]
  refine wpAnyH_take (i := 3) (v := ?_) rfl (by kernel_rfl) (by kernel_rfl) (by kernel_rfl) (fun _ _ _ h => h) (Or.inl ⟨by kernel_rfl, ?_⟩) (by assumption) ?_
  rotate_left
  · (intro w hSw; (try dsimp only at hSw); go_simp; (try with_reducible rfl))
  simp only [Act.put, List.getElem_toArray, List.getElem_cons_succ, List.getElem_cons_zero, List.setIfInBounds_toArray, List.set_cons_zero, List.set_cons_succ]
  refine wpAnyH_take (i := 6) rfl (by kernel_rfl) (by kernel_rfl) (by kernel_rfl) (fun _ _ _ h => h) (yi_move (by kernel_rfl) rfl rfl) (by assumption) ?_
  simp only [Act.put, List.getElem_toArray, List.getElem_cons_succ, List.getElem_cons_zero, List.setIfInBounds_toArray, List.set_cons_zero, List.set_cons_succ]
  refine wpAnyH_take (i := 7) (v := ?_) rfl (by kernel_rfl) (by kernel_rfl) (by kernel_rfl) (fun _ _ _ h => h) (Or.inl ⟨by kernel_rfl, ?_⟩) (by assumption) ?_
  rotate_left
  · (intro w hSw; (try dsimp only at hSw); go_simp; (try with_reducible rfl))
  simp only [Act.put, List.getElem_toArray, List.getElem_cons_succ, List.getElem_cons_zero, List.setIfInBounds_toArray, List.set_cons_zero, List.set_cons_succ]
  refine wpAnyH_take (i := 8) (v := ?_) rfl (by kernel_rfl) (by kernel_rfl) (by kernel_rfl) (fun _ _ _ h => h) (Or.inl ⟨by kernel_rfl, ?_⟩) (by assumption) ?_
  rotate_left
  · (intro w hSw; (try dsimp only at hSw); go_simp; (try with_reducible rfl))
  simp only [Act.put, List.getElem_toArray, List.getElem_cons_succ, List.getElem_cons_zero, List.setIfInBounds_toArray, List.set_cons_zero, List.set_cons_succ]
  refine wpAnyH_take (i := 9) (v := ?_) rfl (by kernel_rfl) (by kernel_rfl) (by kernel_rfl) (fun _ _ _ h => h) (Or.inl ⟨by kernel_rfl, ?_⟩) (by assumption) ?_
  rotate_left
  · (intro w hSw; (try dsimp only at hSw); go_simp; (try with_reducible rfl))
  simp only [Act.put, List.getElem_toArray, List.getElem_cons_succ, List.getElem_cons_zero, List.setIfInBounds_toArray, List.set_cons_zero, List.set_cons_succ]
  refine wpAnyH_ready (rs := [4]) (by kernel_rfl) (by simp) ?_
  refine AllReadyH.cons (o := _) rfl (fun K hK => ?_) AllReadyH.nil
  go_simp
  refine hK.out _ _ (KP.out _ ((AL.out _ _ HD.out))) (fun hHeld => ?_)
  clear hK K
  (try simp only [Act.put, List.getElem_toArray, List.getElem_cons_succ, List.getElem_cons_zero, List.setIfInBounds_toArray, List.set_cons_zero, List.set_cons_succ])
  refine wpAnyH_ready (rs := [5]) (by kernel_rfl) (by simp) ?_
  refine AllReadyH.cons (o := _) rfl (fun K hK => ?_) AllReadyH.nil
  go_simp
  go_at_call 33; refine C1.out.mono ?_; rintro e w' ⟨rfl, HB10⟩
  refine hK.out _ _ (KP.out _ (HB10)) (fun hHeld => ?_)
  clear hK K
  (try simp only [Act.put, List.getElem_toArray, List.getElem_cons_succ, List.getElem_cons_zero, List.setIfInBounds_toArray, List.set_cons_zero, List.set_cons_succ])
  refine wpAnyH_ready (rs := [10]) (by kernel_rfl) (by simp) ?_
  refine AllReadyH.cons (o := _) rfl (fun K hK => ?_) AllReadyH.nil
  go_simp
  go_at_call 36; refine (C2.out _ HB10).mono ?_; rintro e w' ⟨rfl, HB11⟩
  refine hK.out _ _ (KP.out _ (HB11)) (fun hHeld => ?_)
  clear hK K
  (try simp only [Act.put, List.getElem_toArray, List.getElem_cons_succ, List.getElem_cons_zero, List.setIfInBounds_toArray, List.set_cons_zero, List.set_cons_succ])
  refine wpAnyH_take (i := 11) (v := ?_) rfl (by kernel_rfl) (by kernel_rfl) (by kernel_rfl) (fun _ _ _ h => h) (Or.inl ⟨by kernel_rfl, ?_⟩) (by assumption) ?_
  rotate_left
  · (intro w hSw; (try dsimp only at hSw); go_simp; (try with_reducible rfl))
  simp only [Act.put, List.getElem_toArray, List.getElem_cons_succ, List.getElem_cons_zero, List.setIfInBounds_toArray, List.set_cons_zero, List.set_cons_succ]
  refine wpAnyH_take (i := 12) rfl (by kernel_rfl) (by kernel_rfl) (by kernel_rfl) (fun _ _ _ h => h) (yi_move (by kernel_rfl) rfl rfl) (by assumption) ?_
  simp only [Act.put, List.getElem_toArray, List.getElem_cons_succ, List.getElem_cons_zero, List.setIfInBounds_toArray, List.set_cons_zero, List.set_cons_succ]
  refine wpAnyH_take (i := 13) rfl (by kernel_rfl) (by kernel_rfl) (by kernel_rfl) (fun _ _ _ h => h) (yi_move (by kernel_rfl) rfl rfl) (by assumption) ?_
  simp only [Act.put, List.getElem_toArray, List.getElem_cons_succ, List.getElem_cons_zero, List.setIfInBounds_toArray, List.set_cons_zero, List.set_cons_succ]
  refine wpAnyH_take (i := 14) (v := ?_) rfl (by kernel_rfl) (by kernel_rfl) (by kernel_rfl) (fun _ _ _ h => h) (Or.inl ⟨by kernel_rfl, ?_⟩) (by assumption) ?_
  rotate_left
  · (intro w hSw; (try dsimp only at hSw); go_simp; (try with_reducible rfl))
  simp only [Act.put, List.getElem_toArray, List.getElem_cons_succ, List.getElem_cons_zero, List.setIfInBounds_toArray, List.set_cons_zero, List.set_cons_succ]
  refine wpAnyH_take (i := 15) (v := ?_) rfl (by kernel_rfl) (by kernel_rfl) (by kernel_rfl) (fun _ _ _ h => h) (Or.inl ⟨by kernel_rfl, ?_⟩) (by assumption) ?_
  rotate_left
  · (intro w hSw; (try dsimp only at hSw); go_simp; (try with_reducible rfl))
  simp only [Act.put, List.getElem_toArray, List.getElem_cons_succ, List.getElem_cons_zero, List.setIfInBounds_toArray, List.set_cons_zero, List.set_cons_succ]
  refine wpAnyH_take (i := 17) rfl (by kernel_rfl) (by kernel_rfl) (by kernel_rfl) (fun _ _ _ h => h) (yi_move (by kernel_rfl) rfl rfl) (by assumption) ?_
  simp only [Act.put, List.getElem_toArray, List.getElem_cons_succ, List.getElem_cons_zero, List.setIfInBounds_toArray, List.set_cons_zero, List.set_cons_succ]
  refine wpAnyH_take (i := 18) (v := ?_) rfl (by kernel_rfl) (by kernel_rfl) (by kernel_rfl) (fun _ _ _ h => h) (Or.inl ⟨by kernel_rfl, ?_⟩) (by assumption) ?_
  rotate_left
  · (intro w hSw; (try dsimp only at hSw); go_simp; (try with_reducible rfl))
  simp only [Act.put, List.getElem_toArray, List.getElem_cons_succ, List.getElem_cons_zero, List.setIfInBounds_toArray, List.set_cons_zero, List.set_cons_succ]
  refine wpAnyH_take (i := 19) (v := ?_) rfl (by kernel_rfl) (by kernel_rfl) (by kernel_rfl) (fun _ _ _ h => h) (Or.inl ⟨by kernel_rfl, ?_⟩) (by assumption) ?_
  rotate_left
  · (intro w hSw; (try dsimp only at hSw); go_simp; (try with_reducible rfl))
  simp only [Act.put, List.getElem_toArray, List.getElem_cons_succ, List.getElem_cons_zero, List.setIfInBounds_toArray, List.set_cons_zero, List.set_cons_succ]
  refine wpAnyH_take (i := 20) (v := ?_) rfl (by kernel_rfl) (by kernel_rfl) (by kernel_rfl) (fun _ _ _ h => h) (Or.inl ⟨by kernel_rfl, ?_⟩) (by assumption) ?_
  rotate_left
  · (intro w hSw; (try dsimp only at hSw); go_simp; (try with_reducible rfl))
  simp only [Act.put, List.getElem_toArray, List.getElem_cons_succ, List.getElem_cons_zero, List.setIfInBounds_toArray, List.set_cons_zero, List.set_cons_succ]
  refine wpAnyH_ready (rs := [16]) (by kernel_rfl) (by simp) ?_
  refine AllReadyH.cons (o := _) rfl (fun K hK => ?_) AllReadyH.nil
  go_simp
  go_at_call 33; refine (C3.out _ HB11).mono ?_; rintro e w' ⟨rfl, HB21⟩
  refine hK.out _ _ (KP.out _ (HB21)) (fun hHeld => ?_)
  clear hK K
  (try simp only [Act.put, List.getElem_toArray, List.getElem_cons_succ, List.getElem_cons_zero, List.setIfInBounds_toArray, List.set_cons_zero, List.set_cons_succ])
  refine wpAnyH_ready (rs := [21]) (by kernel_rfl) (by simp) ?_
  refine AllReadyH.cons (o := _) rfl (fun K hK => ?_) AllReadyH.nil
  go_simp
  go_at_call 81; refine (C4.out _ HB21).mono ?_; rintro e w' ⟨rfl, HB22⟩
  refine hK.out _ _ (KP.out _ (HB22)) (fun hHeld => ?_)
  clear hK K
  (try simp only [Act.put, List.getElem_toArray, List.getElem_cons_succ, List.getElem_cons_zero, List.setIfInBounds_toArray, List.set_cons_zero, List.set_cons_succ])
  refine wpAnyH_take (i := 22) (v := ?_) rfl (by kernel_rfl) (by kernel_rfl) (by kernel_rfl) (fun _ _ _ h => h) (Or.inl ⟨by kernel_rfl, ?_⟩) (by assumption) ?_
  rotate_left
  · (intro w hSw; (try dsimp only at hSw); go_simp; (try with_reducible rfl))
  simp only [Act.put, List.getElem_toArray, List.getElem_cons_succ, List.getElem_cons_zero, List.setIfInBounds_toArray, List.set_cons_zero, List.set_cons_succ]
  refine wpAnyH_take (i := 23) rfl (by kernel_rfl) (by kernel_rfl) (by kernel_rfl) (fun _ _ _ h => h) (yi_assign (by kernel_rfl) rfl rfl) (by assumption) ?_
  simp only [Act.put, List.getElem_toArray, List.getElem_cons_succ, List.getElem_cons_zero, List.setIfInBounds_toArray, List.set_cons_zero, List.set_cons_succ]
  refine wpAnyH_done (by kernel_rfl) ?_ _
  refine NoPanic.normal ?_
  go_wp2_with fail
  go_ret
  exact ⟨rfl, FIN.out _ HB22⟩
end Go.Proofs.Ythpdmeoljdmncaa
