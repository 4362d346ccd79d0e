/- recipe's addSource. -/
import Derived.Test.YtgjpcddjfmdobaaDoorL11
namespace Go.Proofs.YtgjpcddjfmdobaaDoor
open Go.RowKit
set_option linter.unusedVariables false

set_option maxRecDepth 8000 in
set_option maxHeartbeats 2000000 in
theorem addSource_no (S : List (List UInt8)) (A : List RC.Ac) (vs va : Value) (xs : List (Option Addr × Nat)) (r : List (List UInt8)) (a : Option Addr) (c N b : Nat) {w W : World} (h : DX w N b (S, A) vs va xs W) (hr : SA W a r) (hl : ∀ t ∈ r, t.length ≤ maxLen) (hn : r.length ≤ 100000) (hS : S.length ≤ 8) (hA : A.length ≤ 12)
    (hq : A.length ≠ 0 ∨ S.length = 8 ∨ r.length ≠ 1 ∨ ∃ n, r = [n] ∧ RC.isNm n = false) :
    Calls Tryd.prog 44 #[.pointer (some ⟨b, 0, none⟩), .slice a r.length c] W fun e w' => e = .returned (.bool false) ∧ w' = W := by
  obtain ⟨sa, sc, rfl⟩ := own_shape h.s
  obtain ⟨aa, ac, rfl⟩ := own_shape h.a
  have hcs := h.cs
  have hca := h.ca
  simp only [] at hcs hca
  clear h
  by_cases h1 : 0 < A.length
  · clear hq hr
    go_enter Tryd.func44, Tryd.ntmps44
    go_wp2_with fail
    go_ret
    exact ⟨rfl, rfl⟩
  have h1' : A.length = 0 := by omega
  rw [h1'] at hca
  by_cases h2 : S.length = 8
  · rw [h2] at hcs
    clear hq hr h1
    go_enter Tryd.func44, Tryd.ntmps44
    go_wp2_with fail
    go_ret
    exact ⟨rfl, rfl⟩
  have h2' : ((S.length : Int) == 8) = false := by rw [beq_eq_false_iff_ne]; omega
  by_cases h3 : r.length = 1
  · obtain ⟨n, rfl⟩ : ∃ n, r = [n] := by
      match r, h3 with
      | [n], _ => exact ⟨n, rfl⟩
    have h4 : RC.isNm n = false := by
      rcases hq with h | h | h | ⟨m, h, h'⟩
      · exact absurd h1' h
      · exact absurd h h2
      · exact absurd rfl h
      · cases h; exact h'
    obtain ⟨wb, wo, rfl, hw⟩ := hr 0 n rfl
    rw [Nat.add_zero] at hw
    have CI : Hid (∀ W', Calls Tryd.prog 15 #[.string (M.bs n)] W' fun e w' => e = .returned (.bool false) ∧ w' = W') := fun W' => by rw [← h4]; exact IsName_at n W' (hl n (by simp))
    clear hq hr h1 h2 h3 h4 hl
    simp only [List.length_cons, List.length_nil, Nat.zero_add]
    go_enter Tryd.func44, Tryd.ntmps44
    go_wp2_with (go_at_call 15; refine (CI.out _).mono ?_; rintro e w' ⟨rfl, rfl⟩)
    go_ret
    exact ⟨rfl, rfl⟩
  · have h3' : ((r.length : Int) != 1) = true := by rw [bne_iff_ne]; omega
    clear hq hr h1 h2 h3 hl
    go_enter Tryd.func44, Tryd.ntmps44
    go_wp2_with fail
    go_ret
    exact ⟨rfl, rfl⟩

set_option maxRecDepth 8000 in
set_option maxHeartbeats 4000000 in
theorem addSource_yes (S : List (List UInt8)) (vs va : Value) (n : List UInt8) (wb wo c N b : Nat) {w W : World} (h : DX w N b (S, []) vs va [] W) (hw : wb < W.heap.size) (hwc : W.cell? ⟨wb, wo, none⟩ = some (.string (M.bs n))) (hS : S.length ≤ 8) (h8 : S.length ≠ 8) (hnm : RC.isNm n = true) :
    Calls Tryd.prog 44 #[.pointer (some ⟨b, 0, none⟩), .slice (some ⟨wb, wo, none⟩) 1 c] W fun e w' => ∃ vs' va', e = .returned (.bool true) ∧ DX w N b (S ++ [n], []) vs' va' [] w' := by
  obtain ⟨sa, sc, rfl⟩ := own_shape h.s
  obtain ⟨aa, ac, rfl⟩ := own_shape h.a
  have hcs := h.cs
  have hca := h.ca
  have hfz := h.fz 0
  simp only [] at hcs hca
  simp only [List.length_nil] at hca
  have hbw := TA.lt_heap h.blk
  have h2' : ((S.length : Int) == 8) = false := by rw [beq_eq_false_iff_ne]; omega
  have hnl := (RC.isNm_len hnm).1
  have CI : Hid (∀ W', Calls Tryd.prog 15 #[.string (M.bs n)] W' fun e w' => e = .returned (.bool true) ∧ w' = W') := fun W' => by rw [← hnm]; exact IsName_at n W' (by unfold maxLen; omega)
  have hal : ∀ o, (W.alloc o).cell? ⟨b, 0, none⟩ = some (.slice sa S.length sc) := fun o => (((Below.refl _ W).alloc (Nat.le_refl _) o).cell (p := ⟨b, 0, none⟩) hbw).trans hcs
  have hal2 : ∀ o, (W.alloc o).cell? ⟨wb, wo, none⟩ = some (.string (M.bs n)) := fun o => (((Below.refl _ W).alloc (Nat.le_refl _) o).cell (p := ⟨wb, wo, none⟩) hw).trans hwc
  have OWN : Hid (∀ o, (W.drew.alloc o).ownsRow N 9 1 (.slice sa S.length sc) S.length (S.map encS)) := fun o => (h.step (((Bl.refl W).drewN 1).alloc o)).s
  have NEWS : Hid (∀ (j : Nat) (u : Value), [encS n][j]? = some u → (W.drew.alloc (.cells #[.string (M.bs n)] 9)).cell? ((⟨W.heap.size, 0, none⟩ : Addr).add j) = some u) := fun j u hu => World.news_of_block (heap_alloc_new W.drew _) j u hu
  have hsz := h.sz
  obtain ⟨i0, hi, hz0, hz1, hz2⟩ := TA.info_partsT (show (Tryd.prog.info? 9).map (fun i => (i.zero, i.size, i.bytes)) = some (some (.string ⟨#[]⟩), 1, 16) by kernel_rfl)
  have FIN : Hid (∀ o w8 g cap', (W.drew.alloc o).grownBy w8 (Value.slice sa S.length sc).ownBlock → w8.ownsRow N 9 1 (.slice (some ⟨g, 0, none⟩) (S.length + 1) cap') (S.length + 1) (S.map encS ++ [encS n]) → DX w N b (S ++ [n], []) (.slice (some ⟨g, 0, none⟩) (S.length + 1) cap') (.slice aa 0 ac) [] (w8.setCell ⟨b, 0, none⟩ (.slice (some ⟨g, 0, none⟩) (S.length + 1) cap')) ∧ w8.cell? ⟨b, 0, none⟩ = some (.slice sa S.length sc) ∧ w8.frozen? ⟨b, 0, none⟩ = false) := fun o w8 g cap' hg ho => by
    have hb1 : Bl W (W.drew.alloc o) := ((Bl.refl W).drewN 1).alloc o
    have h1 := h.step hb1
    have hne : some b ≠ (Value.slice sa S.length sc).ownBlock := fun e => by have := (TA.owns_ge h1.s e.symm).1; have := h.lt; omega
    have hblk : w8.heap[b]? = some (.cells #[.slice sa S.length sc, .slice aa 0 ac] 59 (0, 0)) := by rw [hg.block b (TA.lt_heap h1.blk) hne]; exact h1.blk
    exact ⟨h.appS hb1 n _ ho hg, by rw [Lib.cell_of_heap hblk]; rfl, by simp [World.frozen?, hblk]⟩
  clear h hnm hnl
  go_enter Tryd.func44, Tryd.ntmps44
  go_wp2_with (go_at_call 15; refine (CI.out _).mono ?_; rintro e w' ⟨rfl, hw'⟩; rw [hw']; clear hw' w')
  go_region_law (refine step_append_lies _ (by rfl) _ _ 22 (by rfl) N 9 i0 (.string ⟨#[]⟩) 1 16 TA.undS hi hz0 hz1 hz2 rfl (by decide) _ S.length _ (by rfl) (OWN.out _) ⟨W.heap.size, 0, none⟩ 1 1 [encS n] (by rfl) rfl NEWS.out (fun u hu => by simp at hu; subst hu; rfl) (by decide) (by unfold maxLen; omega) (by omega) (by simp; omega) (W.heap.size + 1) (by simp) ?_; intro g cap' w8 hown8 hgrow8 hat8 hlt8; obtain ⟨HD, c3, c4⟩ := FIN.out _ _ _ _ hgrow8 hown8)
  all_goals
    go_wp2_with fail
    go_ret
    exact ⟨_, _, rfl, HD⟩
end Go.Proofs.YtgjpcddjfmdobaaDoor
