/- recipe's addAction and add. -/
import Derived.Test.YtgjpcddjfmdobaaDoorL12
namespace Go.Proofs.YtgjpcddjfmdobaaDoor
open Go.RowKit
set_option linter.unusedVariables false

theorem RA.mk' {w W : World} {x : List UInt8} {m : List (List UInt8)} {z : List UInt8} {b off c : Nat} (HB : Bl w W) (hv : Strs W.heap.size W (.slice (some ⟨b, off, none⟩) (m.length + 3) c) (x :: (m ++ [RC.wBy, z]))) (hc : m.length + 3 ≤ c) (hl : ∀ t ∈ x :: (m ++ [RC.wBy, z]), t.length ≤ 100000) (hn : m.length ≤ 90000) (nm : RC.isNm x = true) : RA w W x m z b off c := by
  rcases hv with ⟨h, _⟩ | ⟨b', off', cap, e, hb, hh⟩
  · simp at h
  · simp only [Value.slice.injEq, Option.some.injEq, Addr.mk.injEq] at e
    obtain ⟨⟨rfl, rfl, _⟩, _, _⟩ := e
    refine ⟨hb, by have := hh 0 x rfl; rwa [Nat.add_zero] at this, ?_, ?_, ?_, hc, hl x (by simp), hl z (by simp), fun t ht => hl t (by simp [ht]), hn, nm, HB⟩
    · exact hh (m.length + 1) RC.wBy (by rw [List.getElem?_cons_succ, List.getElem?_append_right (Nat.le_refl _)]; simp)
    · exact hh (m.length + 2) z (by rw [List.getElem?_cons_succ, List.getElem?_append_right (by omega)]; simp)
    · intro i t ht
      have hi : i < m.length := (List.getElem?_eq_some_iff.1 ht).1
      have := hh (i + 1) t (by rw [List.getElem?_cons_succ, List.getElem?_append_left hi]; exact ht)
      rw [show off + 1 + i = off + (i + 1) by omega]; exact this
theorem readAction_no (ws : List (List UInt8)) (a : Option Addr) (c : Nat) {w W : World} (HB : Bl w W) (hv : SX2 W a ws.length c ws) (hl : ∀ t ∈ ws, t.length ≤ 100000) (hn : ws.length ≤ 90000) (hq : RC.readA ws = none) :
    Calls Tryd.prog 55 #[.slice a ws.length c] W fun e w' => e = .returned (.tuple #[.agg zAc, .bool false]) ∧ Bl w w' := by
  by_cases h3 : ws.length < 3
  · exact readAction_short ws a c HB h3
  · obtain ⟨x, m, y, z, rfl⟩ := RC.three ws (by omega)
    have e3 : (x :: (m ++ [y, z])).length = m.length + 3 := by simp
    rw [e3] at hv hn ⊢
    have hc := hv.c
    obtain ⟨b, off, rfl⟩ : ∃ b off, a = some ⟨b, off, none⟩ := by
      obtain ⟨b, off, h, _⟩ := (Strs.sa hv.v).2 0 x rfl
      exact ⟨b, off, h⟩
    rw [RC.readA_three] at hq
    by_cases hbad : y ≠ RC.wBy ∨ RC.isNm x = false
    · refine readAction_bad x m y z b off c HB (fun i t ht => ?_) hc hl (by omega) hbad
      rcases hv.v with ⟨h, _⟩ | ⟨b', off', cap, e, hb, hh⟩
      · simp at h
      · simp only [Value.slice.injEq, Option.some.injEq, Addr.mk.injEq] at e
        obtain ⟨⟨rfl, rfl, _⟩, _, _⟩ := e
        exact ⟨hb, hh i t ht⟩
    · rw [if_neg hbad] at hq
      have hy : y = RC.wBy := Classical.byContradiction fun e => hbad (Or.inl e)
      have hx : RC.isNm x = true := by cases e : RC.isNm x with
        | true => rfl
        | false => exact absurd (Or.inr e) hbad
      subst hy
      have ra := RA.mk' HB hv.v hc hl (by omega) hx
      cases hi : RC.readIns m with
      | none => exact readAction_ins x m z b off c ra hi
      | some ins =>
        rw [hi] at hq
        simp only [] at hq
        cases hz : RC.readC z with
        | none => exact readAction_code x m ins z b off c ra hi hz
        | some code => rw [hz] at hq; simp at hq
theorem readAction_ok (ws : List (List UInt8)) (t : RC.Ac) (a : Option Addr) (c : Nat) {w W : World} (HB : Bl w W) (hv : SX2 W a ws.length c ws) (hl : ∀ t ∈ ws, t.length ≤ 100000) (hn : ws.length ≤ 90000) (hq : RC.readA ws = some t) :
    Calls Tryd.prog 55 #[.slice a ws.length c] W fun e w' => ∃ a' c', e = .returned (.tuple #[.agg (acL t a' c').toArray, .bool true]) ∧ w'.ownsRow W.heap.size 9 1 (.slice a' t.2.1.length c') t.2.1.length (t.2.1.map encS) ∧ Bl w w' := by
  by_cases h3 : ws.length < 3
  · rw [RC.readA_short ws h3] at hq; simp at hq
  · obtain ⟨x, m, y, z, rfl⟩ := RC.three ws (by omega)
    have e3 : (x :: (m ++ [y, z])).length = m.length + 3 := by simp
    rw [e3] at hv hn ⊢
    have hc := hv.c
    obtain ⟨b, off, rfl⟩ : ∃ b off, a = some ⟨b, off, none⟩ := by
      obtain ⟨b, off, h, _⟩ := (Strs.sa hv.v).2 0 x rfl
      exact ⟨b, off, h⟩
    rw [RC.readA_three] at hq
    by_cases hbad : y ≠ RC.wBy ∨ RC.isNm x = false
    · rw [if_pos hbad] at hq; simp at hq
    · rw [if_neg hbad] at hq
      have hy : y = RC.wBy := Classical.byContradiction fun e => hbad (Or.inl e)
      have hx : RC.isNm x = true := by cases e : RC.isNm x with
        | true => rfl
        | false => exact absurd (Or.inr e) hbad
      subst hy
      have ra := RA.mk' HB hv.v hc hl (by omega) hx
      cases hi : RC.readIns m with
      | none => rw [hi] at hq; simp at hq
      | some ins =>
        rw [hi] at hq
        simp only [] at hq
        cases hz : RC.readC z with
        | none => rw [hz] at hq; simp at hq
        | some code =>
          rw [hz] at hq
          simp only [Option.some.injEq] at hq
          subst hq
          exact readAction_yes x m ins z code b off c ra hi hz

set_option maxRecDepth 8000 in
set_option maxHeartbeats 2000000 in
theorem addAction_no (S : List (List UInt8)) (A : List RC.Ac) (vs va : Value) (xs : List (Option Addr × Nat)) (r : List (List UInt8)) (a : Option Addr) (c N b : Nat) {w W : World} (h : DX w N b (S, A) vs va xs W) (hr : SX2 W a r.length c r) (hl : ∀ t ∈ r, t.length ≤ 100000) (hn : r.length ≤ 90000) (hq : RC.readA r = none) :
    Calls Tryd.prog 45 #[.pointer (some ⟨b, 0, none⟩), .slice a r.length c] W fun e w' => e = .returned (.bool false) ∧ Bl w w' := by
  have CR : Hid (Calls Tryd.prog 55 #[.slice a r.length c] W fun e w' => e = .returned (.tuple #[.agg zAc, .bool false]) ∧ Bl w w') := readAction_no r a c h.bl hr hl hn hq
  clear h hr hl hq
  unfold zAc at CR
  go_enter Tryd.func45, Tryd.ntmps45
  go_wp2_with (go_at_call 55; refine CR.out.mono ?_; rintro e w1 ⟨rfl, hb1⟩)
  go_ret
  exact ⟨rfl, hb1.alloc _⟩

set_option maxRecDepth 8000 in
set_option maxHeartbeats 2000000 in
theorem addAction_full (S : List (List UInt8)) (A : List RC.Ac) (vs va : Value) (xs : List (Option Addr × Nat)) (r : List (List UInt8)) (t : RC.Ac) (a : Option Addr) (c N b : Nat) {w W : World} (h : DX w N b (S, A) vs va xs W) (hr : SX2 W a r.length c r) (hl : ∀ t ∈ r, t.length ≤ 100000) (hn : r.length ≤ 90000) (hq : RC.readA r = some t) (h12 : A.length = 12) :
    Calls Tryd.prog 45 #[.pointer (some ⟨b, 0, none⟩), .slice a r.length c] W fun e w' => e = .returned (.bool false) ∧ Bl w w' := by
  have CR : Hid (Calls Tryd.prog 55 #[.slice a r.length c] W fun e w' => ∃ a' c', e = .returned (.tuple #[.agg (acL t a' c').toArray, .bool true]) ∧ w'.ownsRow W.heap.size 9 1 (.slice a' t.2.1.length c') t.2.1.length (t.2.1.map encS) ∧ Bl W w') := readAction_ok r t a c (Bl.refl W) hr hl hn hq
  obtain ⟨aa, ac, rfl⟩ := own_shape h.a
  have HC : Hid (∀ w1 o, Bl W w1 → (w1.alloc o).cell? ⟨b, 1, none⟩ = some (.slice aa 12 ac) ∧ Bl w (w1.alloc o)) := fun w1 o hb => by
    have := (h.step (hb.alloc o)).ca
    simp only [h12] at this
    exact ⟨this, (h.bl.step hb).alloc o⟩
  clear h hr hl hq
  unfold acL at CR
  go_enter Tryd.func45, Tryd.ntmps45
  go_wp2_with (go_at_call 55; refine CR.out.mono ?_; rintro e w1 ⟨a1, c1, rfl, _, hb1⟩; have hq1 := fun o => (HC.out w1 o hb1).1; have HF := fun o => (HC.out w1 o hb1).2; clear HC hb1 CR)
  go_ret
  exact ⟨rfl, HF _⟩

set_option maxRecDepth 8000 in
set_option maxHeartbeats 4000000 in
theorem addAction_yes (S : List (List UInt8)) (A : List RC.Ac) (vs va : Value) (xs : List (Option Addr × Nat)) (r : List (List UInt8)) (t : RC.Ac) (a : Option Addr) (c N b : Nat) {w W : World} (h : DX w N b (S, A) vs va xs W) (hr : SX2 W a r.length c r) (hl : ∀ t ∈ r, t.length ≤ 100000) (hn : r.length ≤ 90000) (hq : RC.readA r = some t) (hA : A.length ≤ 12) (h12 : A.length ≠ 12) :
    Calls Tryd.prog 45 #[.pointer (some ⟨b, 0, none⟩), .slice a r.length c] W fun e w' => ∃ vs' va' xs', e = .returned (.bool true) ∧ DX w N b (S, A ++ [t]) vs' va' xs' w' := by
  have CR : Hid (Calls Tryd.prog 55 #[.slice a r.length c] W fun e w' => ∃ a' c', e = .returned (.tuple #[.agg (acL t a' c').toArray, .bool true]) ∧ w'.ownsRow W.heap.size 9 1 (.slice a' t.2.1.length c') t.2.1.length (t.2.1.map encS) ∧ Bl W w') := readAction_ok r t a c (Bl.refl W) hr hl hn hq
  obtain ⟨aa, ac, rfl⟩ := own_shape h.a
  have HD : Hid (DX w N b (S, A) vs (.slice aa A.length ac) xs W) := h
  have h2' : ((A.length : Int) == 12) = false := by rw [beq_eq_false_iff_ne]; omega
  have hWz := h.sz
  clear hr hl hq h
  unfold acL at CR
  go_enter Tryd.func45, Tryd.ntmps45
  go_wp2_with (go_at_call 55; refine CR.out.mono ?_; rintro e w1 ⟨a1, c1, rfl, hown1, hb1⟩; have hq1 : ∀ o, (w1.alloc o).cell? ⟨b, 1, none⟩ = some (.slice aa A.length ac) := (fun o => (HD.out.step (hb1.alloc o)).ca); clear CR)
  have hbQ : Bl W (w1.alloc (.cells #[.string (M.bs t.1), .slice a1 t.2.1.length c1, .string (M.bs t.2.2)] 42)) := hb1.alloc _
  have DQ : DX w N b (S, A) vs (.slice aa A.length ac) xs (w1.alloc (.cells #[.string (M.bs t.1), .slice a1 t.2.1.length c1, .string (M.bs t.2.2)] 42)) := HD.out.step hbQ
  have hq0 : (w1.alloc (.cells #[.string (M.bs t.1), .slice a1 t.2.1.length c1, .string (M.bs t.2.2)] 42)).heap[w1.heap.size]? = some (.cells #[.string (M.bs t.1), .slice a1 t.2.1.length c1, .string (M.bs t.2.2)] 42 (0, 0)) := heap_alloc_new w1 _
  have hiQ : (w1.alloc (.cells #[.string (M.bs t.1), .slice a1 t.2.1.length c1, .string (M.bs t.2.2)] 42)).ownsRow N 9 1 (.slice a1 t.2.1.length c1) t.2.1.length (t.2.1.map encS) := World.ownsRow.alloc (ownsRow_base hown1 hWz) _
  generalize w1.alloc (.cells #[.string (M.bs t.1), .slice a1 t.2.1.length c1, .string (M.bs t.2.2)] 42) = Q at *
  generalize w1.heap.size = q at *
  clear hown1 hb1 hq1 HD hbQ hWz
  have hqs := TA.lt_heap hq0
  have hca := DQ.ca
  have hbw := TA.lt_heap DQ.blk
  have x0 : Q.cell? ⟨q, 0, none⟩ = some (.string (M.bs t.1)) := by rw [Lib.cell_of_heap hq0]; rfl
  have x1 : Q.cell? ⟨q, 1, none⟩ = some (.slice a1 t.2.1.length c1) := by rw [Lib.cell_of_heap hq0]; rfl
  have x2 : Q.cell? ⟨q, 2, none⟩ = some (.string (M.bs t.2.2)) := by rw [Lib.cell_of_heap hq0]; rfl
  have hal : ∀ o, (Q.alloc o).cell? ⟨b, 1, none⟩ = some (.slice aa A.length ac) := fun o => (((Below.refl _ Q).alloc (Nat.le_refl _) o).cell (p := ⟨b, 1, none⟩) hbw).trans hca
  have OWN : Hid (∀ o, (Q.drew.alloc o).ownsRow N 42 3 (.slice aa A.length ac) A.length (flatA A xs)) := fun o => (DQ.step (((Bl.refl Q).drewN 1).alloc o)).a
  have NEWS : Hid (∀ (j : Nat) (u : Value), (acL t a1 c1)[j]? = some u → (Q.drew.alloc (.cells #[.string (M.bs t.1), .slice a1 t.2.1.length c1, .string (M.bs t.2.2)] 42)).cell? ((⟨Q.heap.size, 0, none⟩ : Addr).add j) = some u) := fun j u hu => World.news_of_block (heap_alloc_new Q.drew _) j u hu
  have hsz := DQ.sz
  obtain ⟨i0, hi, hz0, hz1, hz2⟩ := TA.info_partsT (show (Tryd.prog.info? 42).map (fun i => (i.zero, i.size, i.bytes)) = some (some (.agg zAc), 3, 56) by kernel_rfl)
  have FIN : Hid (∀ o w8 g cap', (Q.drew.alloc o).grownBy w8 (Value.slice aa A.length ac).ownBlock → w8.ownsRow N 42 3 (.slice (some ⟨g, 0, none⟩) (A.length + 1) cap') (A.length + 1) (flatA A xs ++ acL t a1 c1) → DX w N b (S, A ++ [t]) vs (.slice (some ⟨g, 0, none⟩) (A.length + 1) cap') (xs ++ [(a1, c1)]) (w8.setCell ⟨b, 1, none⟩ (.slice (some ⟨g, 0, none⟩) (A.length + 1) cap')) ∧ w8.cell? ⟨b, 1, none⟩ = some (.slice aa A.length ac) ∧ w8.frozen? ⟨b, 1, none⟩ = false) := fun o w8 g cap' hg ho => by
    have hb1 : Bl Q (Q.drew.alloc o) := ((Bl.refl Q).drewN 1).alloc o
    have h1 := DQ.step hb1
    have hne : some b ≠ (Value.slice aa A.length ac).ownBlock := fun e => by have := (TA.owns_ge h1.a e.symm).1; have := DQ.lt; omega
    have hblk : w8.heap[b]? = some (.cells #[vs, .slice aa A.length ac] 59 (0, 0)) := by rw [hg.block b (TA.lt_heap h1.blk) hne]; exact h1.blk
    exact ⟨DQ.appA hb1 t a1 c1 hiQ _ ho hg, by rw [Lib.cell_of_heap hblk]; rfl, by simp [World.frozen?, hblk]⟩
  clear DQ hq0 hiQ
  go_region_law (refine step_append_lies _ (by rfl) _ _ 23 (by rfl) N 42 i0 (.agg zAc) 3 56 Tryd.underlying23 hi hz0 hz1 hz2 rfl (by decide) _ A.length _ (by rfl) (OWN.out _) ⟨Q.heap.size, 0, none⟩ 1 1 (acL t a1 c1) (by rfl) rfl NEWS.out (fun u hu => by simp [acL] at hu; rcases hu with rfl | rfl | rfl <;> rfl) (by decide) (by unfold maxLen; omega) (by omega) (by simp; omega) (Q.heap.size + 1) (by simp) ?_; intro g cap' w8 hown8 hgrow8 hat8 hlt8; obtain ⟨HD, c3, c4⟩ := FIN.out _ _ _ _ hgrow8 hown8)
  all_goals
    go_wp2_with fail
    go_ret
    exact ⟨_, _, _, rfl, HD⟩
end Go.Proofs.YtgjpcddjfmdobaaDoor
