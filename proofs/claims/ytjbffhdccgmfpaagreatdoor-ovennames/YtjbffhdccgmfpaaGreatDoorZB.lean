/- The texts Z5 Z6 Z7 Z8 as one. -/
import Derived.Test.YtjbffhdccgmfpaaGreatDoorZA
import Derived.Deep.AppendLies
import Derived.Laws.Tables
import Derived.Laws.CopyOwn
import Derived.Deep.WholeRow
/- trellis: take. -/
namespace Go.Proofs.YtjbffhdccgmfpaaGreatDoor
open Go.RowKit
set_option linter.unusedVariables false
set_option linter.unusedSimpArgs false

/-- a number is appended to a row of one's own -/
theorem wl_appI {ops : Array Oper} {rest : List Oper} {o : Oper} {a : Act} {w : World} {Q : Exit → Act → World → Prop} (hgd : o.guard = none) (s x : Operand)
    (ho : o.op = .call { callee := .builtin .append, args := #[s, x], argTypes := #[73, 73] }) (base : Nat) (ks : List Nat) (v : Value) (hs : a.eval s = v) (hown : w.ownsRow base 3 1 v ks.length (ks.map encI))
    (g0 p : Nat) (hx : a.eval x = .slice (some ⟨g0, 0, none⟩) 1 1) (hc : w.cell? ⟨g0, 0, none⟩ = some (encI p)) (hbase : base ≤ w.heap.size) (hn : ks.length ≤ 100000)
    (h : ∀ a' c' w', w'.ownsRow base 3 1 (.slice a' (ks ++ [p]).length c') (ks ++ [p]).length ((ks ++ [p]).map encI) → w.grownBy w' v.ownBlock → wpList Tryz.prog ops Q rest (a.put o.dst (.slice a' (ks ++ [p]).length c')) w') : wpList Tryz.prog ops Q (o :: rest) a w := by
  obtain ⟨i0, hi0, hz0, hz1, hz2⟩ := TA.info_partsT (show (Tryz.prog.info? 3).map (fun i => (i.zero, i.size, i.bytes)) = some (some (.int .i64 0), 1, 8) by kernel_rfl)
  refine wpList_append_lies _ hgd s x 73 ho base 3 i0 (.int .i64 0) 1 8 Tryz.underlying73 hi0 hz0 hz1 hz2 rfl (by decide) v ks.length (ks.map encI) hs hown ⟨g0, 0, none⟩ 1 1 [encI p] hx rfl (fun j u hu => ?_) (fun u hu => by simp at hu; subst hu; rfl) (by decide) (by unfold maxLen; omega) (by omega) hbase w.heap.size rfl (fun g cap w' h1 h2 h3 h4 => ?_)
  · rcases j with _ | j
    · cases hu; exact hc
    · simp at hu
  · have e : (ks ++ [p]).length = ks.length + 1 := by simp
    have e2 : (ks ++ [p]).map encI = ks.map encI ++ [encI p] := by simp
    have := h (some ⟨g, 0, none⟩) cap w'
    rw [e, e2] at this
    exact this h1 h2
theorem ownsRow_setK {B n k b i : Nat} {e T : TypeId} {v u : Value} {xs : List Value} {w : World} {C : Array Value} {fr : Nat × Nat} (h : w.ownsRow B e k v n xs) (hb : w.heap[b]? = some (.cells C T fr)) (hne : e ≠ T) : (w.setCell ⟨b, i, none⟩ u).ownsRow B e k v n xs := by
  obtain ⟨h0, h1 | ⟨g', cap, cur, h1, h2, h3, h4⟩⟩ := h
  · exact ⟨h0, Or.inl h1⟩
  · refine ⟨h0, Or.inr ⟨g', cap, cur, h1, h2, ?_, h4⟩⟩
    rw [heap_setCell_otherR]
    · exact h3
    · intro e2
      subst e2
      rw [hb] at h3
      simp only [Option.some.injEq, Obj.cells.injEq] at h3
      exact hne h3.2.1.symm
section
variable {w W : World} {b : Nat} {g : RC.Gr} {sa aa : Option Addr} {sc ac : Nat} {vn vo : Value} {st : TR.St}
theorem KX.blS (h : KX w b g sa sc aa ac vn vo st W) (i : Nat) (u : Value) : Bl w (W.setCell ⟨b, i, none⟩ u) := Below.setCell h.v.bl h.wb _
theorem KX.setN (h : KX w b g sa sc aa ac vn vo st W) (p v : Nat) (hp : p < 12) (hv : v < 4294967296) : KX w b g sa sc aa ac vn vo ⟨st.there, st.order, st.needs.set p v⟩ (W.setCell ⟨b, 5 + p, none⟩ (su v)) := by
  refine ⟨⟨ownsRow_setK h.v.n h.blk (by decide), ownsRow_setK h.v.o h.blk (by decide), h.v.ga, h.blS _ _, by simp [h.v.len], h.v.l1, h.v.l2, h.v.ol, h.v.olt, h.v.tl, fun o => ?_, h.v.gk⟩, ?_, h.wb⟩
  · rw [TR.ndAt_set (by rw [h.v.len]; exact hp)]
    split
    · exact hv
    · exact h.v.ndl o
  · rw [heap_setCell_rowR h.blk]
    congr 2
    rw [List.setIfInBounds_toArray]
    congr 1
    unfold kC
    rw [List.set_append_right _ _ (by simp)]
    simp [List.map_set]
theorem KX.setT (h : KX w b g sa sc aa ac vn vo st W) (v : Nat) (hv : v < 4294967296) : KX w b g sa sc aa ac vn vo ⟨v, st.order, st.needs⟩ (W.setCell ⟨b, 3, none⟩ (su v)) := by
  refine ⟨⟨ownsRow_setK h.v.n h.blk (by decide), ownsRow_setK h.v.o h.blk (by decide), h.v.ga, h.blS _ _, h.v.len, h.v.l1, h.v.l2, h.v.ol, h.v.olt, hv, h.v.ndl, h.v.gk⟩, ?_, h.wb⟩
  rw [heap_setCell_rowR h.blk]
  rfl
theorem KX.setO (h : KX w b g sa sc aa ac vn vo st W) {W1 w8 : World} (hb : Bl W W1) (p : Nat) (v' : Value) (hp : p < 12) (hl : st.order.length < 12) (ho : w8.ownsRow w.heap.size 3 1 v' (st.order ++ [p]).length ((st.order ++ [p]).map encI)) (hg : W1.grownBy w8 vo.ownBlock) :
    KX w b g sa sc aa ac vn v' ⟨st.there, st.order ++ [p], st.needs⟩ (w8.setCell ⟨b, 4, none⟩ v') ∧ w8.cell? ⟨b, 4, none⟩ = some vo ∧ w8.frozen? ⟨b, 4, none⟩ = false := by
  have h1 := h.step hb
  have hne : some b ≠ vo.ownBlock := fun e => by
    obtain ⟨_, ⟨rfl, _⟩ | ⟨g', cap, cur, rfl, _, h3, _⟩⟩ := h1.v.o
    · cases e
    · simp only [Value.ownBlock, Option.some.injEq] at e
      subst e
      have h4 := h1.blk
      rw [h3] at h4
      simp only [Option.some.injEq, Obj.cells.injEq] at h4
      exact absurd h4.2.1 (by decide)
  have hblk : w8.heap[b]? = some (.cells (kC g sa sc aa ac vn vo st).toArray 88 (0, 0)) := by rw [hg.block b (TA.lt_heap h1.blk) hne]; exact h1.blk
  have hz : w.heap.size ≤ W1.heap.size := Below.size h1.v.bl
  have hB : Below w.heap.size w w8 := Below.grown h1.v.bl hg hz (fun k hk => (TA.owns_ge h1.v.o hk).1)
  refine ⟨⟨⟨ownsRow_setK (ownsRow_grown h1.v.n h1.v.o (by decide) hg) hblk (by decide), ownsRow_setK ho hblk (by decide), h.v.ga, hB.setCell h.wb _, h.v.len, h.v.l1, h.v.l2, by simp; omega, fun x hx => ?_, h.v.tl, h.v.ndl, h.v.gk⟩, ?_, h.wb⟩, by rw [Lib.cell_of_heap hblk]; rfl, by simp [World.frozen?, hblk]⟩
  · rcases List.mem_append.1 hx with h' | h'
    · exact h.v.olt x h'
    · simp at h'; omega
  · rw [heap_setCell_rowR hblk]
    rfl
/-- the order's places -/
theorem KX.os (h : KX w b g sa sc aa ac vn vo st W) : ∃ oa oc, vo = .slice oa st.order.length oc ∧ ∀ (i x : Nat), st.order[i]? = some x → ∃ b2 off, oa = some ⟨b2, off, none⟩ ∧ W.cell? ⟨b2, off + i, none⟩ = some (.int .i64 (x : Int)) := by
  obtain ⟨h0, ⟨rfl, h1⟩ | ⟨g', cap, cur, rfl, _, h3, h4, h5, h6, h7⟩⟩ := h.v.o
  · have : st.order = [] := List.length_eq_zero_iff.1 h1
    exact ⟨none, 0, by rw [h1], fun i x hx => by rw [this] at hx; simp at hx⟩
  · refine ⟨some ⟨g', 0, none⟩, cap, rfl, fun i x hx => ⟨g', 0, rfl, ?_⟩⟩
    rw [Lib.cell_of_heap h3, Nat.zero_add]
    have hi : i < st.order.length := (List.getElem?_eq_some_iff.1 hx).1
    have h8 : (cur.toList.take (st.order.length * 1))[i]? = (st.order.map encI)[i]? := by rw [h7]
    rw [List.getElem?_take_of_lt (by omega), List.getElem?_map, hx] at h8
    simpa [encI] using h8
end
set_option maxRecDepth 8000 in
set_option maxHeartbeats 4000000 in
theorem take_x {w W : World} {b : Nat} {g : RC.Gr} {sa aa : Option Addr} {sc ac : Nat} {vn vo : Value} {st : TR.St} (h : KX w b g sa sc aa ac vn vo st W) (p : Nat) (hp : p < g.2.length) (hfit : st.order.length < 12) :
    Calls Tryz.prog 88 #[.pointer (some ⟨b, 0, none⟩), .int .i64 (p : Int)] W fun e w' => e = .returned (.tuple #[]) ∧ ∃ vo', KX w b g sa sc aa ac vn vo' (TR.take g st p) w' := by
  have hl1 := h.v.l1
  have hl2 := h.v.l2
  obtain ⟨t, ht⟩ : ∃ t, g.2[p]? = some t := ⟨g.2[p], List.getElem?_eq_getElem hp⟩
  obtain ⟨ab, off, x, c, rfl, hab, hr, hs⟩ := h.gaW.a p t ht
  have hins := TR.insO_of ht
  obtain ⟨oa, oc, rfl, hos⟩ := h.os
  have hcin : W.cell? ⟨ab, off + p * 3 + 1, none⟩ = some (.slice x t.2.1.length c) := hr 1 _ rfl
  have h1 := h.c1
  have h4 := h.c4
  have hbl := h.lt
  have hfz := h.fz (5 + p)
  have hcp := h.cn (show p < 12 by omega)
  have hgl : t.2.1.length ≤ maxLen := (h.v.gk.b t (List.mem_of_getElem? ht)).2.1
  have C1 : Hid (Calls Tryz.prog 86 #[.pointer (some ⟨b, 0, none⟩), .slice x t.2.1.length c] W fun e w' => e = .returned (su (TR.setOf (TR.nm g) (TR.insO g p))) ∧ w' = W) := by
    show Calls _ _ _ _ _
    rw [hins]
    exact setOf_at h t.2.1 x c (Strs.sa hs).2 hgl
  have HOS : Hid (∀ (i x : Nat), st.order[i]? = some x → ∃ b2 off, oa = some ⟨b2, off, none⟩ ∧ W.cell? ⟨b2, off + i, none⟩ = some (.int .i64 (x : Int))) := hos
  have CNUM : Hid (∀ q : Nat, q < 12 → Calls Tryz.prog 106 #[.pointer (some ⟨b, 0, none⟩), .int .i64 (q : Int)] W fun e w' => e = .returned (.int .i64 ((g.1.length + q : Nat) : Int)) ∧ w' = W) := fun q hq => number_at h q hq
  have hil : TR.setOf (TR.nm g) (TR.insO g p) < 4294967296 := h.v.set_lt _
  have HND : Hid (∀ o, o < 12 → W.cell? ⟨b, 5 + o, none⟩ = some (su (TR.ndAt st.needs o))) := fun o ho => h.cn ho
  have HNL : Hid (∀ o, TR.ndAt st.needs o < 4294967296) := h.v.ndl
  have HOL : Hid (∀ x ∈ st.order, x < 12) := h.v.olt
  have HFL : Hid (∀ k, (st.order.take k).foldl (TR.needF g (TR.setOf (TR.nm g) (TR.insO g p)) st.needs) (TR.setOf (TR.nm g) (TR.insO g p)) < 4294967296) := fun k =>
    TR.needF_lt g _ _ 32 h.v.ndl _ _ hil
  have K1 : Hid (∀ v, v < 4294967296 → KX w b g sa sc (some ⟨ab, off, none⟩) ac vn (.slice oa st.order.length oc) ⟨st.there, st.order, st.needs.set p v⟩ (W.setCell ⟨b, 5 + p, none⟩ (su v))) := fun v hv => h.setN p v (by omega) hv
  have HTK : Hid (∀ v, v = TR.needN g st p → TR.take g st p = ⟨st.there ||| 2 ^ (g.1.length + p), st.order ++ [p], st.needs.set p v⟩) := fun v hv => by rw [hv]; rfl
  have HNN : Hid ((st.order.take st.order.length).foldl (TR.needF g (TR.setOf (TR.nm g) (TR.insO g p)) st.needs) (TR.setOf (TR.nm g) (TR.insO g p)) = TR.needN g st p) := by
    show _ = _
    rw [List.take_length]; rfl
  have hwl : w.heap.size ≤ b := h.wb
  clear h hs hr ht hins hos hgl hcp
  generalize TR.setOf (TR.nm g) (TR.insO g p) = ins at *
  go_enter Tryz.func88, Tryz.ntmps88
  go_wp2_with (go_at_call 86; refine C1.out.mono ?_; clear C1; rintro e w' ⟨rfl, hw'⟩; rw [hw']; clear hw' w')
  go_loop [5, 7, 25] (fun u5 u7 u25 => ∃ k : Nat, k ≤ st.order.length ∧ u25 = .int .i64 k ∧ u5 = su ((st.order.take k).foldl (TR.needF g ins st.needs) ins)) (fun _ _ u25 => st.order.length - (intOf u25).toNat)
  case atStart => exact ⟨0, Nat.zero_le _, rfl, rfl⟩
  case round =>
    obtain ⟨k, hk, rfl, rfl⟩ := hrel
    by_cases hlt : k < st.order.length
    · obtain ⟨o, ho⟩ : ∃ o, st.order[k]? = some o := ⟨st.order[k], List.getElem?_eq_getElem hlt⟩
      obtain ⟨b2, off2, rfl, hc⟩ := HOS.out k o ho
      have ho12 := HOL.out o (List.mem_of_getElem? ho)
      have hfl := HFL.out k
      have hcn := HND.out o ho12
      have hnl := HNL.out o
      have hst : (st.order.take (k + 1)).foldl (TR.needF g ins st.needs) ins = TR.needF g ins st.needs ((st.order.take k).foldl (TR.needF g ins st.needs) ins) o := by
        rw [List.take_add_one, ho, List.foldl_append]; rfl
      generalize (st.order.take k).foldl (TR.needF g ins st.needs) ins = acc at *
      have CN : Hid (Calls Tryz.prog 106 #[.pointer (some ⟨b, 0, none⟩), .int .i64 (o : Int)] W fun e w' => e = .returned (.int .i64 ((g.1.length + o : Nat) : Int)) ∧ w' = W) := CNUM.out o ho12
      obtain ⟨q, hq⟩ : ∃ q, ins.testBit (g.1.length + o) = q := ⟨_, rfl⟩
      have CH : Hid (Calls Tryz.prog 105 #[su ins, .int .i64 ((g.1.length + o : Nat) : Int)] W fun e w' => e = .returned (.bool q) ∧ w' = W) := by
        show Calls _ _ _ _ _
        rw [← hq]; exact has_at ins (g.1.length + o) hil (by omega) W
      generalize hM : g.1.length + o = M at *
      have hor := si_or hfl hnl
      cases q
      · have HST : Hid ((st.order.take (k + 1)).foldl (TR.needF g ins st.needs) ins = acc) := by
          show _ = _
          rw [hst]; unfold TR.needF; rw [hM, hq]; rfl
        clear hst ho hq hM
        go_wp2_with (first
          | (go_at_call 106; refine CN.out.mono ?_; rintro e w' ⟨rfl, hw'⟩; rw [hw']; clear hw' w')
          | (go_at_call 105; refine CH.out.mono ?_; rintro e w' ⟨rfl, hw'⟩; rw [hw']; clear hw' w'))
        go_round
        case rel => exact ⟨k + 1, by omega, by go_num, by rw [HST.out]⟩
        case measure => simp [intOf]; omega
      · have HST : Hid ((st.order.take (k + 1)).foldl (TR.needF g ins st.needs) ins = acc ||| TR.ndAt st.needs o) := by
          show _ = _
          rw [hst]; unfold TR.needF; rw [hM, hq]; rfl
        clear hst ho hq hM
        generalize TR.ndAt st.needs o = nd at *
        go_wp2_with (first
          | (go_at_call 106; refine CN.out.mono ?_; rintro e w' ⟨rfl, hw'⟩; rw [hw']; clear hw' w')
          | (go_at_call 105; refine CH.out.mono ?_; rintro e w' ⟨rfl, hw'⟩; rw [hw']; clear hw' w'))
        go_round
        case rel => exact ⟨k + 1, by omega, by go_num, by rw [HST.out]⟩
        case measure => simp [intOf]; omega
    · obtain rfl : k = st.order.length := by omega
      have hv0 := HFL.out st.order.length
      generalize (st.order.take st.order.length).foldl (TR.needF g ins st.needs) ins = nv at *
      have HT : Hid (TR.take g st p = ⟨st.there ||| 2 ^ (g.1.length + p), st.order ++ [p], st.needs.set p nv⟩) := HTK.out nv HNN.out
      have K2 := K1.out nv hv0
      have hcp := HND.out p (by omega)
      clear HTK HNN K1 HFL HNL HOL HND CNUM HOS
      go_wp2_with fail
      generalize W.setCell ⟨b, 5 + p, none⟩ (su nv) = W1 at *
      have h3 := K2.c3
      have f3 := K2.fz 3
      have hb1 := K2.lt
      simp only [] at h3
      have CN2 : Hid (Calls Tryz.prog 106 #[.pointer (some ⟨b, 0, none⟩), .int .i64 (p : Int)] W1.drew fun e w' => e = .returned (.int .i64 ((g.1.length + p : Nat) : Int)) ∧ w' = W1.drew) := number_at (K2.step ((Bl.refl W1).drewN 1)) p (by omega)
      have hth := K2.v.tl
      simp only [] at hth
      have hml : 2 ^ (g.1.length + p) < 4294967296 := Nat.lt_of_le_of_lt (Nat.pow_le_pow_right (by omega) (show g.1.length + p ≤ 20 by omega)) (by decide)
      have hsh := si_shl hml
      have hsh2 : IntKind.u32.wrap ((2 : Int) ^ (g.1.length + p)) = si (2 ^ (g.1.length + p)) := by rw [IntKind.wrap_u32']; exact hsh
      have hor := si_or hth hml
      have hM31 : g.1.length + p ≤ 31 := by omega
      have K3 : Hid (KX w b g sa sc (some ⟨ab, off, none⟩) ac vn (.slice oa st.order.length oc) ⟨st.there ||| 2 ^ (g.1.length + p), st.order, st.needs.set p nv⟩ ((W1.setCell ⟨b, 3, none⟩ (su (st.there ||| 2 ^ (g.1.length + p)))).drew)) :=
        (K2.setT _ (Nat.or_lt_two_pow (n := 32) hth hml)).step ((Bl.refl _).drewN 1)
      clear K2
      generalize g.1.length + p = MM at *
      generalize hTH : st.there ||| 2 ^ MM = TH at *
      generalize st.there = th at *
      refine wp_region_noPanic ?_
      refine wp_region_held_drew (S := fun _ => True) (by kernel_rfl) (trivial) (fun hHeld => ?_)
      refine wpAnyH_take (i := 0) rfl (by kernel_rfl) (by kernel_rfl) (by kernel_rfl) (fun _ _ _ h => h) (yi_move (by kernel_rfl) rfl rfl) (by assumption) ?_
      simp only [Act.put, List.getElem_toArray, List.getElem_cons_succ, List.getElem_cons_zero, List.setIfInBounds_toArray, List.set_cons_zero, List.set_cons_succ]
      refine wpAnyH_take (i := 1) (v := ?_) rfl (by kernel_rfl) (by kernel_rfl) (by kernel_rfl) (fun _ _ _ h => h) (Or.inl ⟨by kernel_rfl, ?_⟩) (by assumption) ?_
      rotate_left
      · (intro w hSw; (try dsimp only at hSw); go_simp; (try with_reducible rfl))
      simp only [Act.put, List.getElem_toArray, List.getElem_cons_succ, List.getElem_cons_zero, List.setIfInBounds_toArray, List.set_cons_zero, List.set_cons_succ]
      refine wpAnyH_take (i := 2) (v := ?_) rfl (by kernel_rfl) (by kernel_rfl) (by kernel_rfl) (fun _ _ _ h => h) (Or.inl ⟨by kernel_rfl, ?_⟩) (by assumption) ?_
      rotate_left
      · (intro w hSw; (try dsimp only at hSw); go_simp; (try with_reducible rfl))
      simp only [Act.put, List.getElem_toArray, List.getElem_cons_succ, List.getElem_cons_zero, List.setIfInBounds_toArray, List.set_cons_zero, List.set_cons_succ]
      refine wpAnyH_take (i := 4) rfl (by kernel_rfl) (by kernel_rfl) (by kernel_rfl) (fun _ _ _ h => h) (yi_move (by kernel_rfl) rfl rfl) (by assumption) ?_
      simp only [Act.put, List.getElem_toArray, List.getElem_cons_succ, List.getElem_cons_zero, List.setIfInBounds_toArray, List.set_cons_zero, List.set_cons_succ]
      refine wpAnyH_take (i := 5) rfl (by kernel_rfl) (by kernel_rfl) (by kernel_rfl) (fun _ _ _ h => h) (yi_move (by kernel_rfl) rfl rfl) (by assumption) ?_
      simp only [Act.put, List.getElem_toArray, List.getElem_cons_succ, List.getElem_cons_zero, List.setIfInBounds_toArray, List.set_cons_zero, List.set_cons_succ]
      refine wpAnyH_ready (rs := [3, 6]) (by kernel_rfl) (by simp) ?_
      refine AllReadyH.cons (o := _) rfl (fun K hK => ?_) ?_
      · go_simp
        refine hK.out _ _ (trivial) (fun hHeld => ?_)
        clear hK K
        (try simp only [Act.put, List.getElem_toArray, List.getElem_cons_succ, List.getElem_cons_zero, List.setIfInBounds_toArray, List.set_cons_zero, List.set_cons_succ])
        refine wpAnyH_ready (rs := [6]) (by kernel_rfl) (by simp) ?_
        refine AllReadyH.cons (o := _) rfl (fun K hK => ?_) AllReadyH.nil
        go_simp
        go_at_call 106; refine CN2.out.mono ?_; rintro e w' ⟨rfl, hw'⟩; rw [hw']; clear hw' w'
        refine hK.out _ _ (trivial) (fun hHeld => ?_)
        clear hK K
        (try simp only [Act.put, List.getElem_toArray, List.getElem_cons_succ, List.getElem_cons_zero, List.setIfInBounds_toArray, List.set_cons_zero, List.set_cons_succ])
        refine wpAnyH_take (i := 7) (v := ?_) rfl (by kernel_rfl) (by kernel_rfl) (by kernel_rfl) (fun _ _ _ h => h) (Or.inl ⟨by kernel_rfl, ?_⟩) (by assumption) ?_
        rotate_left
        · (intro w hSw; (try dsimp only at hSw); go_simp; (try with_reducible rfl))
        simp only [Act.put, List.getElem_toArray, List.getElem_cons_succ, List.getElem_cons_zero, List.setIfInBounds_toArray, List.set_cons_zero, List.set_cons_succ]
        refine wpAnyH_take (i := 8) (v := ?_) rfl (by kernel_rfl) (by kernel_rfl) (by kernel_rfl) (fun _ _ _ h => h) (Or.inl ⟨by kernel_rfl, ?_⟩) (by assumption) ?_
        rotate_left
        · (intro w hSw; (try dsimp only at hSw); go_simp; (try with_reducible rfl))
        simp only [Act.put, List.getElem_toArray, List.getElem_cons_succ, List.getElem_cons_zero, List.setIfInBounds_toArray, List.set_cons_zero, List.set_cons_succ]
        refine wpAnyH_take (i := 9) (v := ?_) rfl (by kernel_rfl) (by kernel_rfl) (by kernel_rfl) (fun _ _ _ h => h) (Or.inl ⟨by kernel_rfl, ?_⟩) (by assumption) ?_
        rotate_left
        · (intro w hSw; (try dsimp only at hSw); go_simp; (try with_reducible rfl))
        simp only [Act.put, List.getElem_toArray, List.getElem_cons_succ, List.getElem_cons_zero, List.setIfInBounds_toArray, List.set_cons_zero, List.set_cons_succ]
        refine wpAnyH_take (i := 10) (v := ?_) rfl (by kernel_rfl) (by kernel_rfl) (by kernel_rfl) (fun _ _ _ h => h) (Or.inl ⟨by kernel_rfl, ?_⟩) (by assumption) ?_
        rotate_left
        · (intro w hSw; (try dsimp only at hSw); go_simp; (try with_reducible rfl))
        simp only [Act.put, List.getElem_toArray, List.getElem_cons_succ, List.getElem_cons_zero, List.setIfInBounds_toArray, List.set_cons_zero, List.set_cons_succ]
        refine wpAnyH_ready (rs := [11]) (by kernel_rfl) (by simp) ?_
        refine AllReadyH.cons (o := _) rfl (fun K hK => ?_) AllReadyH.nil
        go_simp
        refine hK.out _ _ (trivial) (fun hHeld => ?_)
        clear hK K
        (try simp only [Act.put, List.getElem_toArray, List.getElem_cons_succ, List.getElem_cons_zero, List.setIfInBounds_toArray, List.set_cons_zero, List.set_cons_succ])
        refine wpAnyH_done (by kernel_rfl) ?_ _
        refine NoPanic.normal ?_
        generalize (W1.setCell ⟨b, 3, none⟩ (su TH)).drew = W2 at *
        have c4 := K3.out.c4
        have hb2 := K3.out.lt
        have OWN : Hid ((W2.alloc (.cells #[.int .i64 (p : Int)] 3)).ownsRow w.heap.size 3 1 (.slice oa st.order.length oc) st.order.length (st.order.map encI)) := (K3.out.step ((Bl.refl W2).alloc _)).v.o
        have hws : w.heap.size ≤ (W2.alloc (.cells #[.int .i64 (p : Int)] 3)).heap.size := by simp; omega
        have NEW : Hid ((W2.alloc (.cells #[.int .i64 (p : Int)] 3)).cell? ⟨W2.heap.size, 0, none⟩ = some (encI p)) := by
          show _ = _
          rw [Lib.cell_of_heap (heap_alloc_new W2 _)]; rfl
        have FIN : Hid (∀ v' w8, w8.ownsRow w.heap.size 3 1 v' (st.order ++ [p]).length ((st.order ++ [p]).map encI) → (W2.alloc (.cells #[.int .i64 (p : Int)] 3)).grownBy w8 (Value.slice oa st.order.length oc).ownBlock → KX w b g sa sc (some ⟨ab, off, none⟩) ac vn v' ⟨TH, st.order ++ [p], st.needs.set p nv⟩ (w8.setCell ⟨b, 4, none⟩ v') ∧ w8.cell? ⟨b, 4, none⟩ = some (.slice oa st.order.length oc) ∧ w8.frozen? ⟨b, 4, none⟩ = false) := fun v' w8 ho hg =>
          K3.out.setO ((Bl.refl W2).alloc _) p v' (by omega) hfit ho hg
        clear K3
        go_wp2_with (refine wl_appI rfl _ _ rfl w.heap.size st.order (.slice oa st.order.length oc) rfl OWN.out W2.heap.size p rfl NEW.out hws (by omega) (fun a' c' w8 ho8 hg8 => ?_); obtain ⟨HK8, c8, f8⟩ := FIN.out _ _ ho8 hg8; clear FIN OWN NEW ho8 hg8)
        refine bodyPost_end (results_none rfl _ _ _) rfl ?_
        rw [List.length_append] at HK8
        exact ⟨rfl, _, by rw [HT.out]; exact HK8⟩
      refine AllReadyH.cons (o := _) rfl (fun K hK => ?_) ?_
      · go_simp
        go_at_call 106; refine CN2.out.mono ?_; rintro e w' ⟨rfl, hw'⟩; rw [hw']; clear hw' w'
        refine hK.out _ _ (trivial) (fun hHeld => ?_)
        clear hK K
        (try simp only [Act.put, List.getElem_toArray, List.getElem_cons_succ, List.getElem_cons_zero, List.setIfInBounds_toArray, List.set_cons_zero, List.set_cons_succ])
        refine wpAnyH_take (i := 7) (v := ?_) rfl (by kernel_rfl) (by kernel_rfl) (by kernel_rfl) (fun _ _ _ h => h) (Or.inl ⟨by kernel_rfl, ?_⟩) (by assumption) ?_
        rotate_left
        · (intro w hSw; (try dsimp only at hSw); go_simp; (try with_reducible rfl))
        simp only [Act.put, List.getElem_toArray, List.getElem_cons_succ, List.getElem_cons_zero, List.setIfInBounds_toArray, List.set_cons_zero, List.set_cons_succ]
        refine wpAnyH_ready (rs := [3]) (by kernel_rfl) (by simp) ?_
        refine AllReadyH.cons (o := _) rfl (fun K hK => ?_) AllReadyH.nil
        go_simp
        refine hK.out _ _ (trivial) (fun hHeld => ?_)
        clear hK K
        (try simp only [Act.put, List.getElem_toArray, List.getElem_cons_succ, List.getElem_cons_zero, List.setIfInBounds_toArray, List.set_cons_zero, List.set_cons_succ])
        refine wpAnyH_take (i := 8) (v := ?_) rfl (by kernel_rfl) (by kernel_rfl) (by kernel_rfl) (fun _ _ _ h => h) (Or.inl ⟨by kernel_rfl, ?_⟩) (by assumption) ?_
        rotate_left
        · (intro w hSw; (try dsimp only at hSw); go_simp; (try with_reducible rfl))
        simp only [Act.put, List.getElem_toArray, List.getElem_cons_succ, List.getElem_cons_zero, List.setIfInBounds_toArray, List.set_cons_zero, List.set_cons_succ]
        refine wpAnyH_take (i := 9) (v := ?_) rfl (by kernel_rfl) (by kernel_rfl) (by kernel_rfl) (fun _ _ _ h => h) (Or.inl ⟨by kernel_rfl, ?_⟩) (by assumption) ?_
        rotate_left
        · (intro w hSw; (try dsimp only at hSw); go_simp; (try with_reducible rfl))
        simp only [Act.put, List.getElem_toArray, List.getElem_cons_succ, List.getElem_cons_zero, List.setIfInBounds_toArray, List.set_cons_zero, List.set_cons_succ]
        refine wpAnyH_take (i := 10) (v := ?_) rfl (by kernel_rfl) (by kernel_rfl) (by kernel_rfl) (fun _ _ _ h => h) (Or.inl ⟨by kernel_rfl, ?_⟩) (by assumption) ?_
        rotate_left
        · (intro w hSw; (try dsimp only at hSw); go_simp; (try with_reducible rfl))
        simp only [Act.put, List.getElem_toArray, List.getElem_cons_succ, List.getElem_cons_zero, List.setIfInBounds_toArray, List.set_cons_zero, List.set_cons_succ]
        refine wpAnyH_ready (rs := [11]) (by kernel_rfl) (by simp) ?_
        refine AllReadyH.cons (o := _) rfl (fun K hK => ?_) AllReadyH.nil
        go_simp
        refine hK.out _ _ (trivial) (fun hHeld => ?_)
        clear hK K
        (try simp only [Act.put, List.getElem_toArray, List.getElem_cons_succ, List.getElem_cons_zero, List.setIfInBounds_toArray, List.set_cons_zero, List.set_cons_succ])
        refine wpAnyH_done (by kernel_rfl) ?_ _
        refine NoPanic.normal ?_
        generalize (W1.setCell ⟨b, 3, none⟩ (su TH)).drew = W2 at *
        have c4 := K3.out.c4
        have hb2 := K3.out.lt
        have OWN : Hid ((W2.alloc (.cells #[.int .i64 (p : Int)] 3)).ownsRow w.heap.size 3 1 (.slice oa st.order.length oc) st.order.length (st.order.map encI)) := (K3.out.step ((Bl.refl W2).alloc _)).v.o
        have hws : w.heap.size ≤ (W2.alloc (.cells #[.int .i64 (p : Int)] 3)).heap.size := by simp; omega
        have NEW : Hid ((W2.alloc (.cells #[.int .i64 (p : Int)] 3)).cell? ⟨W2.heap.size, 0, none⟩ = some (encI p)) := by
          show _ = _
          rw [Lib.cell_of_heap (heap_alloc_new W2 _)]; rfl
        have FIN : Hid (∀ v' w8, w8.ownsRow w.heap.size 3 1 v' (st.order ++ [p]).length ((st.order ++ [p]).map encI) → (W2.alloc (.cells #[.int .i64 (p : Int)] 3)).grownBy w8 (Value.slice oa st.order.length oc).ownBlock → KX w b g sa sc (some ⟨ab, off, none⟩) ac vn v' ⟨TH, st.order ++ [p], st.needs.set p nv⟩ (w8.setCell ⟨b, 4, none⟩ v') ∧ w8.cell? ⟨b, 4, none⟩ = some (.slice oa st.order.length oc) ∧ w8.frozen? ⟨b, 4, none⟩ = false) := fun v' w8 ho hg =>
          K3.out.setO ((Bl.refl W2).alloc _) p v' (by omega) hfit ho hg
        clear K3
        go_wp2_with (refine wl_appI rfl _ _ rfl w.heap.size st.order (.slice oa st.order.length oc) rfl OWN.out W2.heap.size p rfl NEW.out hws (by omega) (fun a' c' w8 ho8 hg8 => ?_); obtain ⟨HK8, c8, f8⟩ := FIN.out _ _ ho8 hg8; clear FIN OWN NEW ho8 hg8)
        refine bodyPost_end (results_none rfl _ _ _) rfl ?_
        rw [List.length_append] at HK8
        exact ⟨rfl, _, by rw [HT.out]; exact HK8⟩
      exact AllReadyH.nil

end Go.Proofs.YtjbffhdccgmfpaaGreatDoor

/- trellis: isReady whole, arrange, allNames. -/
namespace Go.Proofs.YtjbffhdccgmfpaaGreatDoor
open Go.RowKit
set_option linter.unusedVariables false
set_option linter.unusedSimpArgs false

theorem isReady_x {w W : World} {b : Nat} {g : RC.Gr} {sa aa : Option Addr} {sc ac : Nat} {vn vo : Value} {st : TR.St} (h : KX w b g sa sc aa ac vn vo st W) (t : RC.Ac) (x : Option Addr) (c : Nat) (hv : Strs W.heap.size W (.slice x t.2.1.length c) t.2.1) (hn : t.2.1.length ≤ maxLen) :
    Calls Tryz.prog 87 #[.pointer (some ⟨b, 0, none⟩), .agg (acL t x c).toArray] W fun e w' => e = .returned (.bool (TR.ready g st.there t)) ∧ Bl W w' := by
  cases hq : decide (TR.setOf (TR.nm g) [t.1] &&& st.there = 0) with
  | false =>
    have e : TR.ready g st.there t = false := by unfold TR.ready; rw [hq]; rfl
    rw [e]; exact isReady_no h t x c hv hn hq
  | true =>
    have e : TR.ready g st.there t = TR.sub (TR.setOf (TR.nm g) t.2.1) st.there := by unfold TR.ready; rw [hq]; rfl
    rw [e]; exact isReady_yes h t x c hv hn hq
theorem indexReady {w W : World} {b : Nat} {g : RC.Gr} {sa aa : Option Addr} {sc ac : Nat} {vn vo : Value} {st : TR.St} (h : KX w b g sa sc aa ac vn vo st W) :
    Calls Tryz.prog 83 #[.slice aa g.2.length ac, .func (.func 87) #[.pointer (some ⟨b, 0, none⟩)] #[]] W fun e w' => e = .returned (.int .i64 (idxI (TR.ready g st.there) g.2)) ∧ Bl W w' :=
  IndexA_b _ _ (TR.ready g st.there) g.2 aa ac (Bl.refl W) (enters_of Tryz.func87 (by kernel_rfl) rfl) h.gaW.a h.v.gk.a (fun W' t x c ht hb hs => isReady_x (h.step hb) t x c hs (h.v.gk.b t ht).2.1)
theorem containsMiss {w W : World} {b : Nat} {g : RC.Gr} {sa aa : Option Addr} {sc ac : Nat} {vn vo : Value} {st : TR.St} (h : KX w b g sa sc aa ac vn vo st W) :
    Calls Tryz.prog 61 #[.slice aa g.2.length ac, .func (.func 62) #[.pointer (some ⟨b, 0, none⟩)] #[]] W fun e w' => e = .returned (.bool (TR.miss g)) ∧ Bl W w' :=
  ContainsA_b _ _ (TR.missA (TR.nm g)) g.2 aa ac (IndexA_b _ _ (TR.missA (TR.nm g)) g.2 aa ac (Bl.refl W) (enters_of Tryz.func62 (by kernel_rfl) rfl) h.gaW.a h.v.gk.a (fun W' t x c ht hb hs => misses_at (h.step hb) t x c hs (h.v.gk.b t ht).2.1))

/-- what arrange leaves behind -/
def ArrP (w : World) (b : Nat) (g : RC.Gr) (sa : Option Addr) (sc : Nat) (aa : Option Addr) (ac : Nat) (vn : Value) (e : Ending) (w' : World) : Prop :=
  (TR.arr g g.2.length (TR.st0 g) = none ∧ e = .returned (.bool false) ∧ Bl w w') ∨ (∃ st vo, TR.arr g g.2.length (TR.st0 g) = some st ∧ e = .returned (.bool true) ∧ KX w b g sa sc aa ac vn vo st w')
theorem arr_step (g : RC.Gr) (n : Nat) (st : TR.St) : TR.arr g (n + 1) st = match g.2.findIdx? (TR.ready g st.there) with | none => none | some p => TR.arr g n (TR.take g st p) := rfl

set_option maxRecDepth 8000 in
set_option maxHeartbeats 2000000 in
theorem arrange_x {w W : World} {b : Nat} {g : RC.Gr} {sa aa : Option Addr} {sc ac : Nat} {vn vo : Value} (h : KX w b g sa sc aa ac vn vo ⟨0, [], List.replicate 12 0⟩ W) :
    Calls Tryz.prog 63 #[.pointer (some ⟨b, 0, none⟩)] W (ArrP w b g sa sc aa ac vn) := by
  have h0 := h.c0
  have h1 := h.c1
  have h3 := h.c3
  have f3 := h.fz 3
  have hb := h.lt
  have hl2 := h.v.l2
  have C1 : Hid (Calls Tryz.prog 86 #[.pointer (some ⟨b, 0, none⟩), .slice sa g.1.length sc] W fun e w' => e = .returned (su (TR.setOf (TR.nm g) g.1)) ∧ w' = W) :=
    setOf_at h g.1 sa sc (Strs.sa h.gaW.s).2 h.v.gk.s
  have K1 := h.setT (TR.setOf (TR.nm g) g.1) (h.v.set_lt _)
  have HK1 : Hid (KX w b g sa sc aa ac vn vo (TR.st0 g) (W.setCell ⟨b, 3, none⟩ (su (TR.setOf (TR.nm g) g.1)))) := K1
  have h1' := K1.c1
  have hb' := K1.lt
  have HARR : Hid (ArrP w b g sa sc aa ac vn = fun e w' => (TR.arr g g.2.length (TR.st0 g) = none ∧ e = .returned (.bool false) ∧ Bl w w') ∨ (∃ st vo, TR.arr g g.2.length (TR.st0 g) = some st ∧ e = .returned (.bool true) ∧ KX w b g sa sc aa ac vn vo st w')) := rfl
  clear h K1
  generalize ArrP w b g sa sc aa ac vn = PP at *
  simp only [] at h3
  go_enter Tryz.func63, Tryz.ntmps63
  go_wp2_with (go_at_call 86; refine C1.out.mono ?_; clear C1; rintro e w' ⟨rfl, hw'⟩; rw [hw']; clear hw' w')
  generalize W.setCell ⟨b, 3, none⟩ (su (TR.setOf (TR.nm g) g.1)) = W1 at *
  clear h0 h1 h3 f3 hb
  go_loopw [3, 20] (fun u3 u20 wr => ∃ k : Nat, k ≤ g.2.length ∧ u20 = .int .i64 k ∧ ∃ st vo, KX w b g sa sc aa ac vn vo st wr ∧ st.order.length = k ∧ TR.arr g (g.2.length - k) st = TR.arr g g.2.length (TR.st0 g)) (fun _ u20 _ => g.2.length - (intOf u20).toNat)
  case atStart => exact ⟨0, Nat.zero_le _, rfl, _, _, HK1.out, rfl, rfl⟩
  case round =>
    obtain ⟨k, hk, rfl, st, vo', hx, hol, harr⟩ := hrel
    have HX : Hid (KX w b g sa sc aa ac vn vo' st wr) := hx
    have HA : Hid (TR.arr g (g.2.length - k) st = TR.arr g g.2.length (TR.st0 g)) := harr
    have hc1 := hx.c1
    have hbw := hx.lt
    clear hx harr HK1 h1' hb'
    by_cases hlt : k < g.2.length
    · have CI := indexReady HX.out
      have hs := arr_step g (g.2.length - (k + 1)) st
      rw [show g.2.length - (k + 1) + 1 = g.2.length - k by omega, HA.out] at hs
      cases hf : g.2.findIdx? (TR.ready g st.there) with
      | none =>
        rw [hf] at hs
        have CI2 : Hid (Calls Tryz.prog 83 #[.slice aa g.2.length ac, .func (.func 87) #[.pointer (some ⟨b, 0, none⟩)] #[]] wr fun e w' => e = .returned (.int .i64 (-1)) ∧ Bl wr w') := by
          have e : idxI (TR.ready g st.there) g.2 = -1 := by unfold idxI; rw [hf]
          rw [e] at CI; exact CI
        have HS : Hid (TR.arr g g.2.length (TR.st0 g) = none) := hs
        clear CI hs hf HA
        go_wp2_with (go_at_call 83; refine CI2.out.mono ?_; clear CI2; rintro e w' ⟨rfl, HB⟩)
        rw [HARR.out]
        exact Or.inl ⟨HS.out, rfl, HX.out.v.bl.step HB⟩
      | some p =>
        rw [hf] at hs
        have hp : p < g.2.length := (List.findIdx?_eq_some_iff_getElem.1 hf).1
        have CI2 : Hid (Calls Tryz.prog 83 #[.slice aa g.2.length ac, .func (.func 87) #[.pointer (some ⟨b, 0, none⟩)] #[]] wr fun e w' => e = .returned (.int .i64 (p : Int)) ∧ Bl wr w') := by
          have e : idxI (TR.ready g st.there) g.2 = (p : Int) := by unfold idxI; rw [hf]
          rw [e] at CI; exact CI
        have CT : Hid (∀ w2, Bl wr w2 → Calls Tryz.prog 88 #[.pointer (some ⟨b, 0, none⟩), .int .i64 (p : Int)] w2 fun e w' => e = .returned (.tuple #[]) ∧ ∃ vo', KX w b g sa sc aa ac vn vo' (TR.take g st p) w') := fun w2 hw2 => take_x (HX.out.step hw2) p hp (by omega)
        have HS : Hid (TR.arr g (g.2.length - (k + 1)) (TR.take g st p) = TR.arr g g.2.length (TR.st0 g)) := hs.symm
        have HOL : Hid ((TR.take g st p).order.length = k + 1) := by show _ = _; simp [TR.take, hol]
        clear CI hs hf HA hol
        go_wp2_with (first
          | (go_at_call 83; refine CI2.out.mono ?_; clear CI2; rintro e w' ⟨rfl, HB⟩)
          | (go_at_call 88; refine (CT.out _ HB).mono ?_; clear CT HB; rintro e w' ⟨rfl, vo2, HX2⟩))
        go_roundw
        case rel => exact ⟨k + 1, by omega, by go_num, _, _, HX2, HOL.out, HS.out⟩
        case measure => simp [intOf]; omega
    · obtain rfl : k = g.2.length := by omega
      have HS : Hid (TR.arr g g.2.length (TR.st0 g) = some st) := by
        show _ = _
        rw [← HA.out, Nat.sub_self]; rfl
      clear HA
      go_wp2_with fail
      rw [HARR.out]
      exact Or.inr ⟨_, _, HS.out, rfl, HX.out⟩

theorem Clone_x (l : List (List UInt8)) (a : Option Addr) (c : Nat) (W : World) (hv : TA.TS W a l) (hn : l.length ≤ 100000) :
    Calls Tryz.prog 81 #[.slice a l.length c] W fun e w' => ∃ v, e = .returned v ∧ w'.ownsRow W.heap.size 9 1 v l.length (l.map encS) ∧ Bl W w' := by
  cases l with
  | nil =>
    cases a with
    | none =>
      refine (Tryz.slices_Clone_string_nil 0 c W).mono ?_
      rintro e w' ⟨rfl, rfl⟩
      exact ⟨_, rfl, ⟨rfl, Or.inl ⟨rfl, rfl⟩⟩, Bl.refl _⟩
    | some ad =>
      refine (Tryz.slices_Clone_string_zero ad c W).mono ?_
      rintro e w' ⟨v, rfl, h1, _, h2⟩
      exact ⟨v, rfl, h1, h2⟩
  | cons t r =>
    obtain ⟨b, off, rfl, hb, _⟩ := hv 0 t rfl
    refine (cloneS b off c (t :: r) (Bl.refl W) (fun i u hu => ?_) hn).mono ?_
    · obtain ⟨b2, off2, e, _, hc⟩ := hv i u hu
      cases e; exact hc
    · rintro e w' ⟨a', c', rfl, h1, h2⟩
      exact ⟨_, rfl, h1, h2⟩

def nmT (g : RC.Gr) (k : Nat) : List (List UInt8) := g.1 ++ (g.2.take k).map (·.1)
theorem nmT_succ (g : RC.Gr) (k : Nat) (t : RC.Ac) (h : g.2[k]? = some t) : nmT g (k + 1) = nmT g k ++ [t.1] := by
  unfold nmT; rw [List.take_add_one, h]; simp
theorem nmT_all (g : RC.Gr) : nmT g g.2.length = TR.nm g := by unfold nmT TR.nm; rw [List.take_length]
set_option maxRecDepth 8000 in
set_option maxHeartbeats 2000000 in
theorem allNames_x (g : RC.Gr) (sa : Option Addr) (sc : Nat) (aa : Option Addr) (ac : Nat) (W : World) (hg : GA W.heap.size W g sa sc aa ac) (h1 : g.1.length ≤ 8) (h2 : g.2.length ≤ 12) :
    Calls Tryz.prog 59 #[.agg (gv g sa sc aa ac)] W fun e w' => ∃ v, e = .returned v ∧ w'.ownsRow W.heap.size 9 1 v (TR.nm g).length ((TR.nm g).map encS) ∧ Bl W w' := by
  have CC : Hid (∀ o, Calls Tryz.prog 81 #[.slice sa g.1.length sc] (W.alloc o) fun e w' => ∃ v, e = .returned v ∧ w'.ownsRow W.heap.size 9 1 v (nmT g 0).length ((nmT g 0).map encS) ∧ Bl (W.alloc o) w') := fun o => by
    refine (Clone_x g.1 sa sc (W.alloc o) (TA.ts_of (hg.s.bl ((Bl.refl W).alloc o))) (by omega)).mono ?_
    rintro e w' ⟨v, rfl, h3, h4⟩
    refine ⟨v, rfl, ?_, h4⟩
    have e0 : nmT g 0 = g.1 := by simp [nmT]
    rw [e0]
    exact ownsRow_base h3 (by simp)
  have HG : Hid (∀ W', Bl W W' → Acts W'.heap.size W' aa g.2) := fun W' hb => hg.a.bl hb
  have C1 : Hid (∀ T w1, Bl (W.alloc (.cells #[.slice sa g.1.length sc, .slice aa g.2.length ac] T)) w1 → W.heap.size < w1.heap.size ∧ w1.cell? ⟨W.heap.size, 1, none⟩ = some (.slice aa g.2.length ac) ∧ Bl W w1) := fun T w1 h => by
    have hz : W.heap.size < (W.alloc (.cells #[.slice sa g.1.length sc, .slice aa g.2.length ac] T)).heap.size := by simp
    refine ⟨Nat.lt_of_lt_of_le hz (Below.size h), ?_, ((Bl.refl W).alloc _).step h⟩
    rw [h.cell hz, Lib.cell_of_heap (heap_alloc_new W _)]; rfl
  have HALL : Hid (nmT g g.2.length = TR.nm g) := nmT_all g
  have HLE : Hid (∀ k, k ≤ g.2.length → (nmT g k).length ≤ 20) := fun k hk => by simp [nmT]; omega
  obtain ⟨fs, hum⟩ := undAc
  clear hg
  unfold gv
  go_enter Tryz.func59, Tryz.ntmps59
  go_wp2_with (go_at_call 81; refine (CC.out _).mono ?_; clear CC; rintro e w1 ⟨v0, rfl, ho0, hb0⟩; obtain ⟨hx1, hx2, HB1⟩ := C1.out _ _ hb0; clear C1 hb0)
  have HO0 : Hid (w1.ownsRow W.heap.size 9 1 v0 (nmT g 0).length ((nmT g 0).map encS)) := ho0
  have HB0 : Hid (Bl W w1) := HB1
  clear ho0 HB1 hx1 hx2
  go_loopw [3, 5, 12] (fun u3 u5 u12 wr => ∃ k : Nat, k ≤ g.2.length ∧ u12 = .int .i64 k ∧ wr.ownsRow W.heap.size 9 1 u3 (nmT g k).length ((nmT g k).map encS) ∧ Bl W wr) (fun _ _ u12 _ => g.2.length - (intOf u12).toNat)
  case atStart => exact ⟨0, Nat.zero_le _, rfl, HO0.out, HB0.out⟩
  case round =>
    obtain ⟨k, hk, rfl, ho, hb⟩ := hrel
    have HO : Hid (wr.ownsRow W.heap.size 9 1 u3 (nmT g k).length ((nmT g k).map encS)) := ho
    have HB : Hid (Bl W wr) := hb
    clear ho hb HO0 HB0
    by_cases hlt : k < g.2.length
    · obtain ⟨t, ht⟩ : ∃ t, g.2[k]? = some t := ⟨g.2[k], List.getElem?_eq_getElem hlt⟩
      obtain ⟨b, off, x, c, rfl, hab, hr, hs⟩ := HG.out _ HB.out k t ht
      have hnm := nmT_succ g k t ht
      have hle := HLE.out k (by omega)
      have hi := infoAc t x c
      have HR : Hid (wr.rangeAt b (off + k * 3) (acL t x c)) := hr
      obtain ⟨n, ins, code⟩ := t
      simp only [] at hnm
      have OWN : Hid (∀ o, ((wr.alloc o).alloc (.cells #[.string (M.bs n)] 9)).ownsRow W.heap.size 9 1 u3 (nmT g k).length ((nmT g k).map encS)) := fun o => ownsRow_belowT HO.out (((Bl.refl wr).alloc o).alloc _)
      have NEW : Hid (∀ o, TA.TS ((wr.alloc o).alloc (.cells #[.string (M.bs n)] 9)) (some ⟨wr.heap.size + 1, 0, none⟩) [n]) := fun o => by
        have := TA.ts_new (wr.alloc o) [n] 9
        simpa [encS] using this
      have hsz : ∀ o, W.heap.size ≤ ((wr.alloc o).alloc (.cells #[.string (M.bs n)] 9)).heap.size := fun o => by
        have := Below.size HB.out
        simp; omega
      have FIN : Hid (∀ o v' w8, w8.ownsRow W.heap.size 9 1 v' (nmT g k ++ [n]).length ((nmT g k ++ [n]).map encS) → ((wr.alloc o).alloc (.cells #[.string (M.bs n)] 9)).grownBy w8 u3.ownBlock → w8.ownsRow W.heap.size 9 1 v' (nmT g (k + 1)).length ((nmT g (k + 1)).map encS) ∧ Bl W w8) := fun o v' w8 h3 h4 => by
        rw [hnm]
        refine ⟨h3, Below.grown ((HB.out.alloc o).alloc _) h4 (hsz o) (fun q hq => (TA.owns_ge HO.out hq).1)⟩
      clear ht hr hs hnm HO
      unfold acL at hi HR
      simp only [] at hi HR
      go_wp2_with (first
        | (refine wpList_load_mid rfl 43 _ rfl b (off + k * 3) rfl _ _ HR.out hum rfl hi ?_; clear HR)
        | (refine TA.wl_app rfl _ _ rfl W.heap.size (nmT g k) u3 rfl (OWN.out _) (some ⟨wr.heap.size + 1, 0, none⟩) [n] 1 1 rfl rfl (NEW.out _) (hsz _) (by simp; omega) (fun v' w8 ho8 hg8 => ?_); obtain ⟨HO8, HB8⟩ := FIN.out _ _ _ ho8 hg8; clear FIN OWN NEW ho8 hg8))
      go_roundw
      case rel => exact ⟨k + 1, by omega, by go_num, HO8, HB8⟩
      case measure => simp [intOf]; omega
    · obtain rfl : k = g.2.length := by omega
      go_wp2_with fail
      go_ret
      exact ⟨_, rfl, by rw [← HALL.out]; exact HO.out, HB.out⟩
end Go.Proofs.YtjbffhdccgmfpaaGreatDoor

/- trellis: study. -/
namespace Go.Proofs.YtjbffhdccgmfpaaGreatDoor
open Go.RowKit
set_option linter.unusedVariables false
set_option linter.unusedSimpArgs false

def sZ : TR.St := ⟨0, [], List.replicate 12 0⟩
/-- what is known of nothing -/
def zk : Array Value := (kC ([], []) none 0 none 0 (.slice none 0 0) (.slice none 0 0) sZ).toArray
theorem zeroK (W : World) : (zeroValue 88).run Tryz.prog W = .ok (.agg zk) W := by kernel_rfl
theorem infoK : (Tryz.prog.info? 88).map (·.size) = some 17 := by kernel_rfl
theorem undK : ∃ fs, Tryz.prog.underlying 88 = some (.struct fs) := ⟨_, Tryz.underlying88⟩
theorem zk_size : zk.size = 17 := by simp [zk, kC, sZ]
theorem kC_size {g : RC.Gr} {sa aa : Option Addr} {sc ac : Nat} {vn vo : Value} {st : TR.St} (h : st.needs.length = 12) : (kC g sa sc aa ac vn vo st).toArray.size = 17 := by simp [kC, h]
theorem kC_one {g : RC.Gr} {sa aa : Option Addr} {sc ac n1 c1 n2 c2 : Nat} {a1 a2 : Option Addr} {st : TR.St} : (kC g sa sc aa ac (.slice a1 n1 c1) (.slice a2 n2 c2) st).toArray.all (·.oneCell') = true := by
  rw [Array.all_eq_true']
  intro v hv
  simp only [kC, List.mem_toArray, List.mem_append, List.mem_cons, List.not_mem_nil, or_false, List.mem_map] at hv
  rcases hv with (rfl | rfl | rfl | rfl | rfl) | ⟨x, _, rfl⟩ <;> rfl
theorem build53 (g : RC.Gr) (sa aa : Option Addr) (sc ac : Nat) (na : Option Addr) (n nc : Nat) (W : World) : (Instr.build 88 #[(0, .agg (gv g sa sc aa ac)), (1, .slice na n nc)]).run Tryz.prog W = .ok (.agg (kC g sa sc aa ac (.slice na n nc) (.slice none 0 0) sZ).toArray) W := by
  kernel_rfl
theorem build53z (W : World) : (Instr.build 88 #[]).run Tryz.prog W = .ok (.agg zk) W := by kernel_rfl
theorem results2_k {P : Program} {fn : Func} {p q : Tmp} {ty : TypeId} (h : fn.results = #[.cell p ty, .tmp q]) (tmps : Array Value) (w : World) (g : Nat) (t : TypeId) (cs : Array Value) (fr : Nat × Nat) (d : TypeDesc)
    (hp : tmps.getD p undef = .pointer (some ⟨g, 0, none⟩)) (hg : w.heap[g]? = some (.cells cs t fr))
    (hu : P.underlying ty = some d) (hd : (match d with | .struct _ | .array _ _ => true | _ => false) = true) (hi : (P.info? ty).map (·.size) = some cs.size) :
    (results fn tmps).run P w = .ok (.tuple #[.agg cs, tmps.getD q undef]) w := by
  have hp' : tmps[p]?.getD undef = .pointer (some ⟨g, 0, none⟩) := by simpa using hp
  simp [results, h, hp', asAddr, run_loadVar_row w g t ty cs fr d hg hu hd hi]
theorem stepk_store_row {P : Program} {ops : Array Oper} {o : Oper} {a : Act} {w : World} {K : Act → World → Prop} {Q : Exit → Act → World → Prop} {E : Prop} (hgd : o.guard = none) (ty : TypeId) (x y : Operand) (ho : o.op = .store ty x y)
    (g : Nat) (cells : Array Value) (hx : a.eval x = .pointer (some ⟨g, 0, none⟩)) (hy : a.eval y = .agg cells)
    (t : TypeId) (old : Array Value) (hg : w.heap[g]? = some (.cells old t (0, 0))) (hi : (P.info? ty).map (·.size) = some cells.size)
    (hold : old.size = cells.size) (h1 : cells.all (·.oneCell') = true)
    (h : K (a.put o.dst undef) (w.setRow g cells)) : if Region.wanted o (yielded ops a.tmps) = true then Oper.wp P o a w K Q else E := by
  have hw : Region.wanted o (yielded ops a.tmps) = true := by simp [Region.wanted, hgd]
  rw [if_pos hw]
  exact wp_store_row ty x y ho g cells hx hy t old hg hi hold h1 h
theorem yk_build {P : Program} {ops : Array Oper} {S : World → Prop} {o : Oper} {a : Act} {t : TypeId} {ps : Array (Nat × Operand)} {v : Value} (hw : Region.wanted o (yielded ops a.tmps) = true) (ho : o.op = .build t ps) (parts : Array (Nat × Value)) (hp : ps.toList.map (fun p => (p.1, a.eval p.2)) = parts.toList) (hr : ∀ w, (Instr.build t parts).run P w = .ok v w) : YieldsIf P ops S o v a :=
  .inl ⟨hw, fun w _ => by
    have hp' : (ps.map fun (i, x) => (i, a.eval x)) = parts := by rw [← Array.toList_inj, Array.toList_map]; exact hp
    unfold execOp; simp only [ho, hp', Sem.run_bind, hr, Result.andThen_ok, Sem.run_pure]⟩
/-- what is known of nothing, in whatever world -/
theorem kv_zero {w W : World} (h : Bl w W) : KV w ([], []) none 0 none 0 (.slice none 0 0) (.slice none 0 0) sZ W :=
  ⟨⟨rfl, Or.inl ⟨rfl, rfl⟩⟩, ⟨rfl, Or.inl ⟨rfl, rfl⟩⟩, ⟨Or.inl ⟨rfl, none, 0, rfl⟩, fun i t h => by simp at h⟩, h, by simp [sZ], by simp, by simp, by simp [sZ], by simp [sZ], by simp [sZ], fun o => by
    have : TR.ndAt sZ.needs o = 0 := by
      unfold TR.ndAt sZ
      simp only [List.getElem?_replicate]
      split <;> rfl
    rw [this]; decide, ⟨by simp, by simp, by simp, by simp⟩⟩
theorem KV.outer {w w1 W : World} {g : RC.Gr} {sa aa : Option Addr} {sc ac : Nat} {vn vo : Value} {st : TR.St} (h : KV w1 g sa sc aa ac vn vo st W) (hb : Bl w w1) (hg : GA w.heap.size w g sa sc aa ac) : KV w g sa sc aa ac vn vo st W :=
  ⟨ownsRow_base h.n (Below.size hb), ownsRow_base h.o (Below.size hb), hg, hb.step h.bl, h.len, h.l1, h.l2, h.ol, h.olt, h.tl, h.ndl, h.gk⟩
/-- what study leaves behind -/
def StP (w : World) (g : RC.Gr) (sa : Option Addr) (sc : Nat) (aa : Option Addr) (ac : Nat) (e : Ending) (w' : World) : Prop :=
  (TR.chk g ≠ 0 ∧ e = .returned (.tuple #[.agg zk, .int .i64 (TR.chk g : Int)]) ∧ Bl w w') ∨
  (TR.Good g ∧ ∃ vn vo, e = .returned (.tuple #[.agg (kC g sa sc aa ac vn vo (TR.fin g)).toArray, .int .i64 0]) ∧ KV w g sa sc aa ac vn vo (TR.fin g) w')
set_option maxRecDepth 8000 in
set_option maxHeartbeats 4000000 in
theorem study_1 (g : RC.Gr) (sa : Option Addr) (sc : Nat) (aa : Option Addr) (ac : Nat) {w W : World} (HB : Bl w W) (hgw : GA w.heap.size w g sa sc aa ac) (hk : grOk g) (hc : RC.can g = false) :
    Calls Tryz.prog 39 #[.agg (gv g sa sc aa ac)] W (StP w g sa sc aa ac) := by
  have hz := zk_size
  have h1 : zk.all (·.oneCell') = true := kC_one
  obtain ⟨fs, hum⟩ := undK
  have hzz : ∀ W, (zeroValue 88).run Tryz.prog W = .ok (.agg zk) W := zeroK
  have hbz : ∀ W, (Instr.build 88 #[]).run Tryz.prog W = .ok (.agg zk) W := build53z
  have HSTP : Hid (StP w g sa sc aa ac = fun e w' => (TR.chk g ≠ 0 ∧ e = .returned (.tuple #[.agg zk, .int .i64 (TR.chk g : Int)]) ∧ Bl w w') ∨ (TR.Good g ∧ ∃ vn vo, e = .returned (.tuple #[.agg (kC g sa sc aa ac vn vo (TR.fin g)).toArray, .int .i64 0]) ∧ KV w g sa sc aa ac vn vo (TR.fin g) w')) := rfl
  have hgW := hgw.bl HB
  have e1 : (W.alloc (.cells #[.slice sa g.1.length sc, .slice aa g.2.length ac] 25)).heap.size = W.heap.size + 1 := by simp
  have e2 : ∀ Z, ((W.alloc (.cells #[.slice sa g.1.length sc, .slice aa g.2.length ac] 25)).alloc (.cells Z 88)).heap.size = W.heap.size + 2 := fun Z => by simp
  have HH : Hid (∀ U, Bl ((W.alloc (.cells #[.slice sa g.1.length sc, .slice aa g.2.length ac] 25)).alloc (.cells zk 88)) U → U.heap[W.heap.size + 1]? = some (.cells zk 88 (0, 0)) ∧ U.cell? ⟨W.heap.size, 0, none⟩ = some (.slice sa g.1.length sc) ∧ U.cell? ⟨W.heap.size, 1, none⟩ = some (.slice aa g.2.length ac) ∧ W.heap.size + 1 < U.heap.size ∧ Bl w U ∧ ∀ C, Bl w (U.setRow (W.heap.size + 1) C)) := fun U hU => by
    have hs := Below.size hU
    rw [e2] at hs
    have hb1 : ((W.alloc (.cells #[.slice sa g.1.length sc, .slice aa g.2.length ac] 25)).alloc (.cells zk 88)).heap[W.heap.size + 1]? = some (.cells zk 88 (0, 0)) := by rw [← e1]; exact heap_alloc_new _ _
    have hb2 : ((W.alloc (.cells #[.slice sa g.1.length sc, .slice aa g.2.length ac] 25)).alloc (.cells zk 88)).heap[W.heap.size]? = some (.cells #[.slice sa g.1.length sc, .slice aa g.2.length ac] 25 (0, 0)) := by
      rw [Below.block ((Bl.refl (W.alloc (.cells #[.slice sa g.1.length sc, .slice aa g.2.length ac] 25))).alloc _) _ (by rw [e1]; omega)]; exact heap_alloc_new W _
    have hbw : Bl w U := ((HB.alloc _).alloc _).step hU
    have hwz : w.heap.size ≤ W.heap.size := Below.size HB
    refine ⟨by rw [Below.block hU _ (by rw [e2]; omega)]; exact hb1, ?_, ?_, by omega, hbw, fun C => below_setRow hbw (by omega) C⟩
    · rw [Bl.cell hU (by rw [e2]; omega), Lib.cell_of_heap hb2]; rfl
    · rw [Bl.cell hU (by rw [e2]; omega), Lib.cell_of_heap hb2]; rfl
  have CP : Hid (Calls Tryz.prog 58 #[.agg (gv g sa sc aa ac)] ((W.alloc (.cells #[.slice sa g.1.length sc, .slice aa g.2.length ac] 25)).alloc (.cells zk 88)) fun e w' => e = .returned (.tuple #[.string (M.bs []), .int .i64 1]) ∧ Bl ((W.alloc (.cells #[.slice sa g.1.length sc, .slice aa g.2.length ac] 25)).alloc (.cells zk 88)) w') := Print_no g sa sc aa ac (Bl.refl _) (hgW.bl (((Bl.refl W).alloc _).alloc _)) hk hc
  have hchk : TR.chk g = 1 := by unfold TR.chk; rw [if_pos hc]
  rw [hchk] at HSTP
  clear hgW hgw HB hk hc hchk
  generalize zk = Z at *
  generalize StP w g sa sc aa ac = PP at *
  unfold gv at CP ⊢
  go_enter Tryz.func39, Tryz.ntmps39
  go_wp2_with (first
    | (go_at_call 58; refine CP.out.mono ?_; clear CP; rintro e w1 ⟨rfl, HB1⟩; obtain ⟨H1, H2, H3, H4, H5, H6⟩ := HH.out _ HB1; have HR : Hid _ := H1; clear H1)
    | (refine wpList_store_row rfl 88 _ _ rfl (W.heap.size + 1) Z rfl rfl 88 Z HR.out (by rw [hz]; exact infoK) rfl h1 ?_))
  refine bodyPost_ret (results2_k rfl _ _ _ 88 Z (0, 0) _ rfl (setRow_heap _ _ _ _ _ _ HR.out) hum rfl (by rw [hz]; exact infoK)) rfl ?_
  rw [HSTP.out]
  exact Or.inl ⟨by decide, rfl, H6 _⟩
theorem ownsRow_setRowK {B n k b : Nat} {e T : TypeId} {v : Value} {xs : List Value} {w : World} {C D : Array Value} {fr : Nat × Nat} (h : w.ownsRow B e k v n xs) (hb : w.heap[b]? = some (.cells C T fr)) (hne : e ≠ T) : (w.setRow b D).ownsRow B e k v n xs := by
  obtain ⟨h0, h1 | ⟨g', cap, cur, h1, h2, h3, h4⟩⟩ := h
  · exact ⟨h0, Or.inl h1⟩
  · refine ⟨h0, Or.inr ⟨g', cap, cur, h1, h2, ?_, h4⟩⟩
    have hgb : b ≠ g' := fun e2 => by
      subst e2
      rw [hb] at h3
      simp only [Option.some.injEq, Obj.cells.injEq] at h3
      exact hne h3.2.1.symm
    show (Array.modify _ b _)[g']? = _
    rw [Array.getElem?_modify, if_neg hgb]; exact h3
theorem mkKX {w1 U : World} {kb : Nat} {g : RC.Gr} {sa aa na : Option Addr} {sc ac nc : Nat} (hb : Bl w1 U) (hw : w1.heap.size ≤ kb) {C0 : Array Value} (hblk : U.heap[kb]? = some (.cells C0 88 (0, 0)))
    (hn : U.ownsRow w1.heap.size 9 1 (.slice na (TR.nm g).length nc) (TR.nm g).length ((TR.nm g).map encS)) (hga : GA w1.heap.size w1 g sa sc aa ac) (h1 : g.1.length ≤ 8) (h2 : g.2.length ≤ 12) (hk : grOk g) :
    KX w1 kb g sa sc aa ac (.slice na (TR.nm g).length nc) (.slice none 0 0) sZ (U.setRow kb (kC g sa sc aa ac (.slice na (TR.nm g).length nc) (.slice none 0 0) sZ).toArray) :=
  ⟨⟨ownsRow_setRowK hn hblk (by decide), ⟨rfl, Or.inl ⟨rfl, rfl⟩⟩, hga, below_setRow hb hw _, by simp [sZ], h1, h2, by simp [sZ], by simp [sZ], by simp [sZ], (kv_zero (Bl.refl w1)).ndl, hk⟩, setRow_heap _ _ _ _ _ _ hblk, hw⟩
set_option maxRecDepth 8000 in
set_option maxHeartbeats 4000000 in
theorem study_21 (g : RC.Gr) (sa : Option Addr) (sc : Nat) (aa : Option Addr) (ac : Nat) {w W : World} (HB : Bl w W) (hgw : GA w.heap.size w g sa sc aa ac) (hk : grOk g) (hc : RC.can g = true) (hd : ¬ (TR.nm g).Nodup) :
    Calls Tryz.prog 39 #[.agg (gv g sa sc aa ac)] W (StP w g sa sc aa ac) := by
  have hz := zk_size
  have h1 : zk.all (·.oneCell') = true := kC_one
  obtain ⟨fs, hum⟩ := undK
  have hzz : ∀ W, (zeroValue 88).run Tryz.prog W = .ok (.agg zk) W := zeroK
  have hbz : ∀ W, (Instr.build 88 #[]).run Tryz.prog W = .ok (.agg zk) W := build53z
  have HSTP : Hid (StP w g sa sc aa ac = fun e w' => (TR.chk g ≠ 0 ∧ e = .returned (.tuple #[.agg zk, .int .i64 (TR.chk g : Int)]) ∧ Bl w w') ∨ (TR.Good g ∧ ∃ vn vo, e = .returned (.tuple #[.agg (kC g sa sc aa ac vn vo (TR.fin g)).toArray, .int .i64 0]) ∧ KV w g sa sc aa ac vn vo (TR.fin g) w')) := rfl
  have hgW := hgw.bl HB
  have e1 : (W.alloc (.cells #[.slice sa g.1.length sc, .slice aa g.2.length ac] 25)).heap.size = W.heap.size + 1 := by simp
  have e2 : ∀ Z, ((W.alloc (.cells #[.slice sa g.1.length sc, .slice aa g.2.length ac] 25)).alloc (.cells Z 88)).heap.size = W.heap.size + 2 := fun Z => by simp
  have HH : Hid (∀ U, Bl ((W.alloc (.cells #[.slice sa g.1.length sc, .slice aa g.2.length ac] 25)).alloc (.cells zk 88)) U → U.heap[W.heap.size + 1]? = some (.cells zk 88 (0, 0)) ∧ U.cell? ⟨W.heap.size, 0, none⟩ = some (.slice sa g.1.length sc) ∧ U.cell? ⟨W.heap.size, 1, none⟩ = some (.slice aa g.2.length ac) ∧ W.heap.size + 1 < U.heap.size ∧ Bl w U ∧ ∀ C, Bl w (U.setRow (W.heap.size + 1) C)) := fun U hU => by
    have hs := Below.size hU
    rw [e2] at hs
    have hb1 : ((W.alloc (.cells #[.slice sa g.1.length sc, .slice aa g.2.length ac] 25)).alloc (.cells zk 88)).heap[W.heap.size + 1]? = some (.cells zk 88 (0, 0)) := by rw [← e1]; exact heap_alloc_new _ _
    have hb2 : ((W.alloc (.cells #[.slice sa g.1.length sc, .slice aa g.2.length ac] 25)).alloc (.cells zk 88)).heap[W.heap.size]? = some (.cells #[.slice sa g.1.length sc, .slice aa g.2.length ac] 25 (0, 0)) := by
      rw [Below.block ((Bl.refl (W.alloc (.cells #[.slice sa g.1.length sc, .slice aa g.2.length ac] 25))).alloc _) _ (by rw [e1]; omega)]; exact heap_alloc_new W _
    have hbw : Bl w U := ((HB.alloc _).alloc _).step hU
    have hwz : w.heap.size ≤ W.heap.size := Below.size HB
    refine ⟨by rw [Below.block hU _ (by rw [e2]; omega)]; exact hb1, ?_, ?_, by omega, hbw, fun C => below_setRow hbw (by omega) C⟩
    · rw [Bl.cell hU (by rw [e2]; omega), Lib.cell_of_heap hb2]; rfl
    · rw [Bl.cell hU (by rw [e2]; omega), Lib.cell_of_heap hb2]; rfl
  have CP : Hid (Calls Tryz.prog 58 #[.agg (gv g sa sc aa ac)] ((W.alloc (.cells #[.slice sa g.1.length sc, .slice aa g.2.length ac] 25)).alloc (.cells zk 88)) fun e w' => e = .returned (.tuple #[.string (M.bs (RC.text g)), .int .i64 0]) ∧ Bl ((W.alloc (.cells #[.slice sa g.1.length sc, .slice aa g.2.length ac] 25)).alloc (.cells zk 88)) w') := Print_yes g sa sc aa ac (Bl.refl _) (hgW.bl (((Bl.refl W).alloc _).alloc _)) hk hc
  have hl := TR.can_le hc
  have hl1 := hl.1
  have hl2 := hl.2
  have HGK : Hid (grOk g) := hk
  have HGW : Hid (∀ U, Bl ((W.alloc (.cells #[.slice sa g.1.length sc, .slice aa g.2.length ac] 25)).alloc (.cells zk 88)) U → GA U.heap.size U g sa sc aa ac) := fun U hU => (hgW.bl (((Bl.refl W).alloc _).alloc _)).bl hU
  have HGw : Hid (GA w.heap.size w g sa sc aa ac) := hgw
  have CNN : Hid (∀ w1 U, Bl ((W.alloc (.cells #[.slice sa g.1.length sc, .slice aa g.2.length ac] 25)).alloc (.cells zk 88)) w1 → Bl w1 U → Calls Tryz.prog 59 #[.agg (gv g sa sc aa ac)] U fun e w' => ∃ na nc, e = .returned (.slice na (TR.nm g).length nc) ∧ w'.ownsRow w1.heap.size 9 1 (.slice na (TR.nm g).length nc) (TR.nm g).length ((TR.nm g).map encS) ∧ Bl U w') := fun w1 U h0 hU => by
    refine (allNames_x g sa sc aa ac U ((hgW.bl (((Bl.refl W).alloc _).alloc _)).bl (h0.step hU)) hl1 hl2).mono ?_
    rintro e w' ⟨v, rfl, h3, h4⟩
    obtain ⟨na, nc, rfl⟩ := own_shape h3
    exact ⟨na, nc, rfl, ownsRow_base h3 (Below.size hU), h4⟩
  have HD : Hid ((!decide (TR.nm g).Nodup) = true) := by
    show _ = _
    simp [hd]
  have hchk : TR.chk g = 21 := by
    unfold TR.chk
    rw [if_neg (by simp [hc]), if_pos hd]
  rw [hchk] at HSTP
  clear hchk
  clear hd
  clear hgW hgw HB hk hc hl
  have hbz' := hbz
  generalize hZ : zk = Z at *
  generalize StP w g sa sc aa ac = PP at *
  go_enter Tryz.func39, Tryz.ntmps39
  unfold gv at CP ⊢
  go_wp2_with (first
    | (go_at_call 58; refine CP.out.mono ?_; clear CP; rintro e w1 ⟨rfl, HB1⟩; obtain ⟨H1, H2, H3, H4, H5, H6⟩ := HH.out _ HB1))
  have HGA : Hid (GA w1.heap.size w1 g sa sc aa ac) := HGW.out _ HB1
  have CN : Hid (∀ U, Bl w1 U → Calls Tryz.prog 59 #[.agg (gv g sa sc aa ac)] U fun e w' => ∃ na nc, e = .returned (.slice na (TR.nm g).length nc) ∧ w'.ownsRow w1.heap.size 9 1 (.slice na (TR.nm g).length nc) (TR.nm g).length ((TR.nm g).map encS) ∧ Bl U w') := fun U hU => CNN.out w1 U HB1 hU
  have KP : Hid (∀ U, Bl w1 U → U.cell? ⟨W.heap.size, 0, none⟩ = some (.slice sa g.1.length sc) ∧ U.cell? ⟨W.heap.size, 1, none⟩ = some (.slice aa g.2.length ac)) := fun U hU => ⟨(HH.out U (HB1.step hU)).2.1, (HH.out U (HB1.step hU)).2.2.1⟩
  have HH5 : Hid (∀ U, Bl w1 U → U.heap[W.heap.size + 1]? = some (.cells Z 88 (0, 0)) ∧ U.cell? ⟨W.heap.size, 1, none⟩ = some (.slice aa g.2.length ac) ∧ W.heap.size < U.heap.size ∧ (∀ C, Bl w (U.setRow (W.heap.size + 1) C)) ∧ Bl w U) := fun U hU => by
    obtain ⟨q1, q2, q3, q4, q5, q6⟩ := HH.out U (HB1.step hU)
    exact ⟨q1, q3, by omega, q6, q5⟩
  have HBw : Hid (Bl w w1) := H5
  clear H1 H2 H3 H4 H5 H6 HH CNN HGW HB1
  refine wp_region_noPanic ?_
  refine wp_region_held_drew (S := fun U => U.cell? ⟨W.heap.size, 0, none⟩ = some (.slice sa g.1.length sc) ∧ U.cell? ⟨W.heap.size, 1, none⟩ = some (.slice aa g.2.length ac)) (by kernel_rfl) (KP.out _ ((Bl.refl w1).drewN 1)) (fun hHeld => ?_)
  refine wpAnyH_take (i := 0) (v := ?_) rfl (by kernel_rfl) (by kernel_rfl) (by kernel_rfl) (fun _ _ _ h => h) (Or.inl ⟨by kernel_rfl, ?_⟩) (by assumption) ?_
  rotate_left
  · (intro w hSw; (try dsimp only at hSw); go_simp; (try with_reducible rfl))
  simp only [Act.put, List.getElem_toArray, List.getElem_cons_succ, List.getElem_cons_zero, List.setIfInBounds_toArray, List.set_cons_zero, List.set_cons_succ]
  refine wpAnyH_take (i := 1) (v := ?_) rfl (by kernel_rfl) (by kernel_rfl) (by kernel_rfl) (fun _ _ _ h => h) (Or.inl ⟨by kernel_rfl, ?_⟩) (by assumption) ?_
  rotate_left
  · (intro w hSw; (try dsimp only at hSw); go_simp; (try with_reducible rfl))
  simp only [Act.put, List.getElem_toArray, List.getElem_cons_succ, List.getElem_cons_zero, List.setIfInBounds_toArray, List.set_cons_zero, List.set_cons_succ]
  refine wpAnyH_ready (rs := [2, 4]) (by kernel_rfl) (by simp) ?_
  refine AllReadyH.cons (o := _) rfl (fun K hK => ?_) ?_
  · go_simp
    go_at_call 59; refine (CN.out _ ((Bl.refl w1).drewN 1)).mono ?_; rintro e w3 ⟨na, nc, rfl, HON, HB3⟩
    have HB4 : Bl w1 w3 := ((Bl.refl w1).drewN 1).step HB3
    refine hK.out _ _ (KP.out _ HB4) (fun hHeld => ?_)
    clear hK K
    (try simp only [Act.put, List.getElem_toArray, List.getElem_cons_succ, List.getElem_cons_zero, List.setIfInBounds_toArray, List.set_cons_zero, List.set_cons_succ])
    refine wpAnyH_take (i := 3) (v := .agg (kC g sa sc aa ac (.slice na (TR.nm g).length nc) (.slice none 0 0) sZ).toArray) rfl (by kernel_rfl) (by kernel_rfl) (by kernel_rfl) (fun _ _ _ h => h) (yk_build (by kernel_rfl) rfl #[(0, .agg (gv g sa sc aa ac)), (1, .slice na (TR.nm g).length nc)] (by rfl) (fun w => build53 g sa aa sc ac na (TR.nm g).length nc w)) (by assumption) ?_
    simp only [Act.put, List.getElem_toArray, List.getElem_cons_succ, List.getElem_cons_zero, List.setIfInBounds_toArray, List.set_cons_zero, List.set_cons_succ]
    refine wpAnyH_ready (rs := [4]) (by kernel_rfl) (by simp) ?_
    refine AllReadyH.cons (o := _) rfl (fun K hK => ?_) AllReadyH.nil
    go_simp
    refine hK.out _ _ (KP.out _ (HB4.alloc _)) (fun hHeld => ?_)
    clear hK K
    (try simp only [Act.put, List.getElem_toArray, List.getElem_cons_succ, List.getElem_cons_zero, List.setIfInBounds_toArray, List.set_cons_zero, List.set_cons_succ])
    have HBK : Hid ((w3.alloc (.cells Z 88)).heap[w3.heap.size]? = some (.cells Z 88 (0, 0))) := heap_alloc_new _ _
    have K5 : Hid (KX w1 w3.heap.size g sa sc aa ac (.slice na (TR.nm g).length nc) (.slice none 0 0) sZ ((w3.alloc (.cells Z 88)).setRow w3.heap.size (kC g sa sc aa ac (.slice na (TR.nm g).length nc) (.slice none 0 0) sZ).toArray)) := mkKX (HB4.alloc _) (Below.size HB4) HBK.out (ownsRow_belowT HON ((Bl.refl w3).alloc _)) HGA.out hl1 hl2 HGK.out
    refine wpAnyH_ready (rs := [5]) (by kernel_rfl) (by simp) ?_
    refine AllReadyH.cons (o := _) rfl (fun K hK => ?_) AllReadyH.nil
    refine stepk_store_row rfl 88 _ _ rfl w3.heap.size (kC g sa sc aa ac (.slice na (TR.nm g).length nc) (.slice none 0 0) sZ).toArray (by rfl) (by rfl) 88 Z HBK.out (by rw [kC_size (by simp [sZ])]; exact infoK) (by rw [kC_size (by simp [sZ])]; exact hz) kC_one (hK.out _ _ (KP.out _ K5.out.v.bl) (fun hHeld => ?_))
    clear hK K
    (try simp only [Act.put, List.getElem_toArray, List.getElem_cons_succ, List.getElem_cons_zero, List.setIfInBounds_toArray, List.set_cons_zero, List.set_cons_succ])
    refine wpAnyH_done (by kernel_rfl) ?_ _
    refine NoPanic.normal ?_
    generalize (w3.alloc (.cells Z 88)).setRow w3.heap.size (kC g sa sc aa ac (.slice na (TR.nm g).length nc) (.slice none 0 0) sZ).toArray = W5 at *
    clear HBK HON HB3 HB4
    generalize w3.heap.size = kb at *
    obtain ⟨H1, H2, H3, H4, H5⟩ := HH5.out _ K5.out.v.bl
    have hkb := K5.out.lt
    have CT : Hid (Calls Tryz.prog 60 #[.pointer (some ⟨kb, 0, none⟩)] W5 fun e w' => e = .returned (.bool true) ∧ w' = W5) := by
      have := hasTwins_at K5.out
      rw [HD.out] at this; exact this
    have HR : Hid _ := H1
    clear H1
    go_wp2_with (first
      | (go_at_call 60; refine CT.out.mono ?_; clear CT; rintro e w' ⟨rfl, hw'⟩; rw [hw']; clear hw' w')
      | (refine wpList_store_row rfl 88 _ _ rfl (W.heap.size + 1) Z rfl rfl 88 Z HR.out (by rw [hz]; exact infoK) rfl h1 ?_))
    refine bodyPost_ret (results2_k rfl _ _ _ 88 Z (0, 0) _ rfl (setRow_heap _ _ _ _ _ _ HR.out) hum rfl (by rw [hz]; exact infoK)) rfl ?_
    rw [HSTP.out]
    exact Or.inl ⟨by decide, rfl, H4 _⟩
  refine AllReadyH.cons (o := _) rfl (fun K hK => ?_) ?_
  · go_simp
    refine hK.out _ _ (KP.out _ (((Bl.refl w1).drewN 1).alloc _)) (fun hHeld => ?_)
    clear hK K
    (try simp only [Act.put, List.getElem_toArray, List.getElem_cons_succ, List.getElem_cons_zero, List.setIfInBounds_toArray, List.set_cons_zero, List.set_cons_succ])
    refine wpAnyH_ready (rs := [2]) (by kernel_rfl) (by simp) ?_
    refine AllReadyH.cons (o := _) rfl (fun K hK => ?_) AllReadyH.nil
    go_simp
    go_at_call 59; refine (CN.out _ (((Bl.refl w1).drewN 1).alloc _)).mono ?_; rintro e w3 ⟨na, nc, rfl, HON, HB3⟩
    have HB4 : Bl w1 w3 := (((Bl.refl w1).drewN 1).alloc _).step HB3
    refine hK.out _ _ (KP.out _ HB4) (fun hHeld => ?_)
    clear hK K
    (try simp only [Act.put, List.getElem_toArray, List.getElem_cons_succ, List.getElem_cons_zero, List.setIfInBounds_toArray, List.set_cons_zero, List.set_cons_succ])
    refine wpAnyH_take (i := 3) (v := .agg (kC g sa sc aa ac (.slice na (TR.nm g).length nc) (.slice none 0 0) sZ).toArray) rfl (by kernel_rfl) (by kernel_rfl) (by kernel_rfl) (fun _ _ _ h => h) (yk_build (by kernel_rfl) rfl #[(0, .agg (gv g sa sc aa ac)), (1, .slice na (TR.nm g).length nc)] (by rfl) (fun w => build53 g sa aa sc ac na (TR.nm g).length nc w)) (by assumption) ?_
    simp only [Act.put, List.getElem_toArray, List.getElem_cons_succ, List.getElem_cons_zero, List.setIfInBounds_toArray, List.set_cons_zero, List.set_cons_succ]
    have HBK : Hid (w3.heap[w1.heap.size]? = some (.cells Z 88 (0, 0))) := by
      show _ = _
      rw [Below.block HB3 _ (by simp)]; exact heap_alloc_new w1.drew _
    have K5 : Hid (KX w1 w1.heap.size g sa sc aa ac (.slice na (TR.nm g).length nc) (.slice none 0 0) sZ (w3.setRow w1.heap.size (kC g sa sc aa ac (.slice na (TR.nm g).length nc) (.slice none 0 0) sZ).toArray)) := mkKX HB4 (Nat.le_refl _) HBK.out HON HGA.out hl1 hl2 HGK.out
    refine wpAnyH_ready (rs := [5]) (by kernel_rfl) (by simp) ?_
    refine AllReadyH.cons (o := _) rfl (fun K hK => ?_) AllReadyH.nil
    refine stepk_store_row rfl 88 _ _ rfl w1.heap.size (kC g sa sc aa ac (.slice na (TR.nm g).length nc) (.slice none 0 0) sZ).toArray (by rfl) (by rfl) 88 Z HBK.out (by rw [kC_size (by simp [sZ])]; exact infoK) (by rw [kC_size (by simp [sZ])]; exact hz) kC_one (hK.out _ _ (KP.out _ K5.out.v.bl) (fun hHeld => ?_))
    clear hK K
    (try simp only [Act.put, List.getElem_toArray, List.getElem_cons_succ, List.getElem_cons_zero, List.setIfInBounds_toArray, List.set_cons_zero, List.set_cons_succ])
    refine wpAnyH_done (by kernel_rfl) ?_ _
    refine NoPanic.normal ?_
    generalize w3.setRow w1.heap.size (kC g sa sc aa ac (.slice na (TR.nm g).length nc) (.slice none 0 0) sZ).toArray = W5 at *
    clear HBK HON HB3 HB4
    generalize hkb : w1.heap.size = kb at *
    clear hkb
    obtain ⟨H1, H2, H3, H4, H5⟩ := HH5.out _ K5.out.v.bl
    have hkb := K5.out.lt
    have CT : Hid (Calls Tryz.prog 60 #[.pointer (some ⟨kb, 0, none⟩)] W5 fun e w' => e = .returned (.bool true) ∧ w' = W5) := by
      have := hasTwins_at K5.out
      rw [HD.out] at this; exact this
    have HR : Hid _ := H1
    clear H1
    go_wp2_with (first
      | (go_at_call 60; refine CT.out.mono ?_; clear CT; rintro e w' ⟨rfl, hw'⟩; rw [hw']; clear hw' w')
      | (refine wpList_store_row rfl 88 _ _ rfl (W.heap.size + 1) Z rfl rfl 88 Z HR.out (by rw [hz]; exact infoK) rfl h1 ?_))
    refine bodyPost_ret (results2_k rfl _ _ _ 88 Z (0, 0) _ rfl (setRow_heap _ _ _ _ _ _ HR.out) hum rfl (by rw [hz]; exact infoK)) rfl ?_
    rw [HSTP.out]
    exact Or.inl ⟨by decide, rfl, H4 _⟩
  exact AllReadyH.nil
set_option maxRecDepth 8000 in
set_option maxHeartbeats 4000000 in
theorem study_22 (g : RC.Gr) (sa : Option Addr) (sc : Nat) (aa : Option Addr) (ac : Nat) {w W : World} (HB : Bl w W) (hgw : GA w.heap.size w g sa sc aa ac) (hk : grOk g) (hc : RC.can g = true) (hd : (TR.nm g).Nodup) (hm : TR.miss g = true) :
    Calls Tryz.prog 39 #[.agg (gv g sa sc aa ac)] W (StP w g sa sc aa ac) := by
  have hz := zk_size
  have h1 : zk.all (·.oneCell') = true := kC_one
  obtain ⟨fs, hum⟩ := undK
  have hzz : ∀ W, (zeroValue 88).run Tryz.prog W = .ok (.agg zk) W := zeroK
  have hbz : ∀ W, (Instr.build 88 #[]).run Tryz.prog W = .ok (.agg zk) W := build53z
  have HSTP : Hid (StP w g sa sc aa ac = fun e w' => (TR.chk g ≠ 0 ∧ e = .returned (.tuple #[.agg zk, .int .i64 (TR.chk g : Int)]) ∧ Bl w w') ∨ (TR.Good g ∧ ∃ vn vo, e = .returned (.tuple #[.agg (kC g sa sc aa ac vn vo (TR.fin g)).toArray, .int .i64 0]) ∧ KV w g sa sc aa ac vn vo (TR.fin g) w')) := rfl
  have hgW := hgw.bl HB
  have e1 : (W.alloc (.cells #[.slice sa g.1.length sc, .slice aa g.2.length ac] 25)).heap.size = W.heap.size + 1 := by simp
  have e2 : ∀ Z, ((W.alloc (.cells #[.slice sa g.1.length sc, .slice aa g.2.length ac] 25)).alloc (.cells Z 88)).heap.size = W.heap.size + 2 := fun Z => by simp
  have HH : Hid (∀ U, Bl ((W.alloc (.cells #[.slice sa g.1.length sc, .slice aa g.2.length ac] 25)).alloc (.cells zk 88)) U → U.heap[W.heap.size + 1]? = some (.cells zk 88 (0, 0)) ∧ U.cell? ⟨W.heap.size, 0, none⟩ = some (.slice sa g.1.length sc) ∧ U.cell? ⟨W.heap.size, 1, none⟩ = some (.slice aa g.2.length ac) ∧ W.heap.size + 1 < U.heap.size ∧ Bl w U ∧ ∀ C, Bl w (U.setRow (W.heap.size + 1) C)) := fun U hU => by
    have hs := Below.size hU
    rw [e2] at hs
    have hb1 : ((W.alloc (.cells #[.slice sa g.1.length sc, .slice aa g.2.length ac] 25)).alloc (.cells zk 88)).heap[W.heap.size + 1]? = some (.cells zk 88 (0, 0)) := by rw [← e1]; exact heap_alloc_new _ _
    have hb2 : ((W.alloc (.cells #[.slice sa g.1.length sc, .slice aa g.2.length ac] 25)).alloc (.cells zk 88)).heap[W.heap.size]? = some (.cells #[.slice sa g.1.length sc, .slice aa g.2.length ac] 25 (0, 0)) := by
      rw [Below.block ((Bl.refl (W.alloc (.cells #[.slice sa g.1.length sc, .slice aa g.2.length ac] 25))).alloc _) _ (by rw [e1]; omega)]; exact heap_alloc_new W _
    have hbw : Bl w U := ((HB.alloc _).alloc _).step hU
    have hwz : w.heap.size ≤ W.heap.size := Below.size HB
    refine ⟨by rw [Below.block hU _ (by rw [e2]; omega)]; exact hb1, ?_, ?_, by omega, hbw, fun C => below_setRow hbw (by omega) C⟩
    · rw [Bl.cell hU (by rw [e2]; omega), Lib.cell_of_heap hb2]; rfl
    · rw [Bl.cell hU (by rw [e2]; omega), Lib.cell_of_heap hb2]; rfl
  have CP : Hid (Calls Tryz.prog 58 #[.agg (gv g sa sc aa ac)] ((W.alloc (.cells #[.slice sa g.1.length sc, .slice aa g.2.length ac] 25)).alloc (.cells zk 88)) fun e w' => e = .returned (.tuple #[.string (M.bs (RC.text g)), .int .i64 0]) ∧ Bl ((W.alloc (.cells #[.slice sa g.1.length sc, .slice aa g.2.length ac] 25)).alloc (.cells zk 88)) w') := Print_yes g sa sc aa ac (Bl.refl _) (hgW.bl (((Bl.refl W).alloc _).alloc _)) hk hc
  have hl := TR.can_le hc
  have hl1 := hl.1
  have hl2 := hl.2
  have HGK : Hid (grOk g) := hk
  have HGW : Hid (∀ U, Bl ((W.alloc (.cells #[.slice sa g.1.length sc, .slice aa g.2.length ac] 25)).alloc (.cells zk 88)) U → GA U.heap.size U g sa sc aa ac) := fun U hU => (hgW.bl (((Bl.refl W).alloc _).alloc _)).bl hU
  have HGw : Hid (GA w.heap.size w g sa sc aa ac) := hgw
  have CNN : Hid (∀ w1 U, Bl ((W.alloc (.cells #[.slice sa g.1.length sc, .slice aa g.2.length ac] 25)).alloc (.cells zk 88)) w1 → Bl w1 U → Calls Tryz.prog 59 #[.agg (gv g sa sc aa ac)] U fun e w' => ∃ na nc, e = .returned (.slice na (TR.nm g).length nc) ∧ w'.ownsRow w1.heap.size 9 1 (.slice na (TR.nm g).length nc) (TR.nm g).length ((TR.nm g).map encS) ∧ Bl U w') := fun w1 U h0 hU => by
    refine (allNames_x g sa sc aa ac U ((hgW.bl (((Bl.refl W).alloc _).alloc _)).bl (h0.step hU)) hl1 hl2).mono ?_
    rintro e w' ⟨v, rfl, h3, h4⟩
    obtain ⟨na, nc, rfl⟩ := own_shape h3
    exact ⟨na, nc, rfl, ownsRow_base h3 (Below.size hU), h4⟩
  have HD : Hid ((!decide (TR.nm g).Nodup) = false) := by
    show _ = _
    simp [hd]
  have HM : Hid (TR.miss g = true) := hm
  have hchk : TR.chk g = 22 := by
    unfold TR.chk
    rw [if_neg (by simp [hc]), if_neg (by simp [hd]), if_pos hm]
  rw [hchk] at HSTP
  clear hchk
  clear hd hm
  clear hgW hgw HB hk hc hl
  have hbz' := hbz
  generalize hZ : zk = Z at *
  generalize StP w g sa sc aa ac = PP at *
  go_enter Tryz.func39, Tryz.ntmps39
  unfold gv at CP ⊢
  go_wp2_with (first
    | (go_at_call 58; refine CP.out.mono ?_; clear CP; rintro e w1 ⟨rfl, HB1⟩; obtain ⟨H1, H2, H3, H4, H5, H6⟩ := HH.out _ HB1))
  have HGA : Hid (GA w1.heap.size w1 g sa sc aa ac) := HGW.out _ HB1
  have CN : Hid (∀ U, Bl w1 U → Calls Tryz.prog 59 #[.agg (gv g sa sc aa ac)] U fun e w' => ∃ na nc, e = .returned (.slice na (TR.nm g).length nc) ∧ w'.ownsRow w1.heap.size 9 1 (.slice na (TR.nm g).length nc) (TR.nm g).length ((TR.nm g).map encS) ∧ Bl U w') := fun U hU => CNN.out w1 U HB1 hU
  have KP : Hid (∀ U, Bl w1 U → U.cell? ⟨W.heap.size, 0, none⟩ = some (.slice sa g.1.length sc) ∧ U.cell? ⟨W.heap.size, 1, none⟩ = some (.slice aa g.2.length ac)) := fun U hU => ⟨(HH.out U (HB1.step hU)).2.1, (HH.out U (HB1.step hU)).2.2.1⟩
  have HH5 : Hid (∀ U, Bl w1 U → U.heap[W.heap.size + 1]? = some (.cells Z 88 (0, 0)) ∧ U.cell? ⟨W.heap.size, 1, none⟩ = some (.slice aa g.2.length ac) ∧ W.heap.size < U.heap.size ∧ (∀ C, Bl w (U.setRow (W.heap.size + 1) C)) ∧ Bl w U) := fun U hU => by
    obtain ⟨q1, q2, q3, q4, q5, q6⟩ := HH.out U (HB1.step hU)
    exact ⟨q1, q3, by omega, q6, q5⟩
  have HBw : Hid (Bl w w1) := H5
  clear H1 H2 H3 H4 H5 H6 HH CNN HGW HB1
  refine wp_region_noPanic ?_
  refine wp_region_held_drew (S := fun U => U.cell? ⟨W.heap.size, 0, none⟩ = some (.slice sa g.1.length sc) ∧ U.cell? ⟨W.heap.size, 1, none⟩ = some (.slice aa g.2.length ac)) (by kernel_rfl) (KP.out _ ((Bl.refl w1).drewN 1)) (fun hHeld => ?_)
  refine wpAnyH_take (i := 0) (v := ?_) rfl (by kernel_rfl) (by kernel_rfl) (by kernel_rfl) (fun _ _ _ h => h) (Or.inl ⟨by kernel_rfl, ?_⟩) (by assumption) ?_
  rotate_left
  · (intro w hSw; (try dsimp only at hSw); go_simp; (try with_reducible rfl))
  simp only [Act.put, List.getElem_toArray, List.getElem_cons_succ, List.getElem_cons_zero, List.setIfInBounds_toArray, List.set_cons_zero, List.set_cons_succ]
  refine wpAnyH_take (i := 1) (v := ?_) rfl (by kernel_rfl) (by kernel_rfl) (by kernel_rfl) (fun _ _ _ h => h) (Or.inl ⟨by kernel_rfl, ?_⟩) (by assumption) ?_
  rotate_left
  · (intro w hSw; (try dsimp only at hSw); go_simp; (try with_reducible rfl))
  simp only [Act.put, List.getElem_toArray, List.getElem_cons_succ, List.getElem_cons_zero, List.setIfInBounds_toArray, List.set_cons_zero, List.set_cons_succ]
  refine wpAnyH_ready (rs := [2, 4]) (by kernel_rfl) (by simp) ?_
  refine AllReadyH.cons (o := _) rfl (fun K hK => ?_) ?_
  · go_simp
    go_at_call 59; refine (CN.out _ ((Bl.refl w1).drewN 1)).mono ?_; rintro e w3 ⟨na, nc, rfl, HON, HB3⟩
    have HB4 : Bl w1 w3 := ((Bl.refl w1).drewN 1).step HB3
    refine hK.out _ _ (KP.out _ HB4) (fun hHeld => ?_)
    clear hK K
    (try simp only [Act.put, List.getElem_toArray, List.getElem_cons_succ, List.getElem_cons_zero, List.setIfInBounds_toArray, List.set_cons_zero, List.set_cons_succ])
    refine wpAnyH_take (i := 3) (v := .agg (kC g sa sc aa ac (.slice na (TR.nm g).length nc) (.slice none 0 0) sZ).toArray) rfl (by kernel_rfl) (by kernel_rfl) (by kernel_rfl) (fun _ _ _ h => h) (yk_build (by kernel_rfl) rfl #[(0, .agg (gv g sa sc aa ac)), (1, .slice na (TR.nm g).length nc)] (by rfl) (fun w => build53 g sa aa sc ac na (TR.nm g).length nc w)) (by assumption) ?_
    simp only [Act.put, List.getElem_toArray, List.getElem_cons_succ, List.getElem_cons_zero, List.setIfInBounds_toArray, List.set_cons_zero, List.set_cons_succ]
    refine wpAnyH_ready (rs := [4]) (by kernel_rfl) (by simp) ?_
    refine AllReadyH.cons (o := _) rfl (fun K hK => ?_) AllReadyH.nil
    go_simp
    refine hK.out _ _ (KP.out _ (HB4.alloc _)) (fun hHeld => ?_)
    clear hK K
    (try simp only [Act.put, List.getElem_toArray, List.getElem_cons_succ, List.getElem_cons_zero, List.setIfInBounds_toArray, List.set_cons_zero, List.set_cons_succ])
    have HBK : Hid ((w3.alloc (.cells Z 88)).heap[w3.heap.size]? = some (.cells Z 88 (0, 0))) := heap_alloc_new _ _
    have K5 : Hid (KX w1 w3.heap.size g sa sc aa ac (.slice na (TR.nm g).length nc) (.slice none 0 0) sZ ((w3.alloc (.cells Z 88)).setRow w3.heap.size (kC g sa sc aa ac (.slice na (TR.nm g).length nc) (.slice none 0 0) sZ).toArray)) := mkKX (HB4.alloc _) (Below.size HB4) HBK.out (ownsRow_belowT HON ((Bl.refl w3).alloc _)) HGA.out hl1 hl2 HGK.out
    refine wpAnyH_ready (rs := [5]) (by kernel_rfl) (by simp) ?_
    refine AllReadyH.cons (o := _) rfl (fun K hK => ?_) AllReadyH.nil
    refine stepk_store_row rfl 88 _ _ rfl w3.heap.size (kC g sa sc aa ac (.slice na (TR.nm g).length nc) (.slice none 0 0) sZ).toArray (by rfl) (by rfl) 88 Z HBK.out (by rw [kC_size (by simp [sZ])]; exact infoK) (by rw [kC_size (by simp [sZ])]; exact hz) kC_one (hK.out _ _ (KP.out _ K5.out.v.bl) (fun hHeld => ?_))
    clear hK K
    (try simp only [Act.put, List.getElem_toArray, List.getElem_cons_succ, List.getElem_cons_zero, List.setIfInBounds_toArray, List.set_cons_zero, List.set_cons_succ])
    refine wpAnyH_done (by kernel_rfl) ?_ _
    refine NoPanic.normal ?_
    generalize (w3.alloc (.cells Z 88)).setRow w3.heap.size (kC g sa sc aa ac (.slice na (TR.nm g).length nc) (.slice none 0 0) sZ).toArray = W5 at *
    clear HBK HON HB3 HB4
    generalize w3.heap.size = kb at *
    obtain ⟨H1, H2, H3, H4, H5⟩ := HH5.out _ K5.out.v.bl
    have hkb := K5.out.lt
    have CT : Hid (Calls Tryz.prog 60 #[.pointer (some ⟨kb, 0, none⟩)] W5 fun e w' => e = .returned (.bool false) ∧ w' = W5) := by
      have := hasTwins_at K5.out
      rw [HD.out] at this; exact this
    have CM : Hid (Calls Tryz.prog 61 #[.slice aa g.2.length ac, .func (.func 62) #[.pointer (some ⟨kb, 0, none⟩)] #[]] W5 fun e w' => e = .returned (.bool true) ∧ Bl W5 w') := by
      have := containsMiss K5.out
      rw [HM.out] at this; exact this
    go_wp2_with (first
      | (go_at_call 60; refine CT.out.mono ?_; clear CT; rintro e w' ⟨rfl, hw'⟩; rw [hw']; clear hw' w')
      | (go_at_call 61; refine CM.out.mono ?_; clear CM H1 H2 H3 H4 H5; rintro e w6 ⟨rfl, HB6⟩; obtain ⟨H1, H2, H3, H4, H5⟩ := HH5.out _ (K5.out.v.bl.step HB6); have HR : Hid _ := H1; clear H1)
      | (refine wpList_store_row rfl 88 _ _ rfl (W.heap.size + 1) Z rfl rfl 88 Z HR.out (by rw [hz]; exact infoK) rfl h1 ?_))
    refine bodyPost_ret (results2_k rfl _ _ _ 88 Z (0, 0) _ rfl (setRow_heap _ _ _ _ _ _ HR.out) hum rfl (by rw [hz]; exact infoK)) rfl ?_
    rw [HSTP.out]
    exact Or.inl ⟨by decide, rfl, H4 _⟩
  refine AllReadyH.cons (o := _) rfl (fun K hK => ?_) ?_
  · go_simp
    refine hK.out _ _ (KP.out _ (((Bl.refl w1).drewN 1).alloc _)) (fun hHeld => ?_)
    clear hK K
    (try simp only [Act.put, List.getElem_toArray, List.getElem_cons_succ, List.getElem_cons_zero, List.setIfInBounds_toArray, List.set_cons_zero, List.set_cons_succ])
    refine wpAnyH_ready (rs := [2]) (by kernel_rfl) (by simp) ?_
    refine AllReadyH.cons (o := _) rfl (fun K hK => ?_) AllReadyH.nil
    go_simp
    go_at_call 59; refine (CN.out _ (((Bl.refl w1).drewN 1).alloc _)).mono ?_; rintro e w3 ⟨na, nc, rfl, HON, HB3⟩
    have HB4 : Bl w1 w3 := (((Bl.refl w1).drewN 1).alloc _).step HB3
    refine hK.out _ _ (KP.out _ HB4) (fun hHeld => ?_)
    clear hK K
    (try simp only [Act.put, List.getElem_toArray, List.getElem_cons_succ, List.getElem_cons_zero, List.setIfInBounds_toArray, List.set_cons_zero, List.set_cons_succ])
    refine wpAnyH_take (i := 3) (v := .agg (kC g sa sc aa ac (.slice na (TR.nm g).length nc) (.slice none 0 0) sZ).toArray) rfl (by kernel_rfl) (by kernel_rfl) (by kernel_rfl) (fun _ _ _ h => h) (yk_build (by kernel_rfl) rfl #[(0, .agg (gv g sa sc aa ac)), (1, .slice na (TR.nm g).length nc)] (by rfl) (fun w => build53 g sa aa sc ac na (TR.nm g).length nc w)) (by assumption) ?_
    simp only [Act.put, List.getElem_toArray, List.getElem_cons_succ, List.getElem_cons_zero, List.setIfInBounds_toArray, List.set_cons_zero, List.set_cons_succ]
    have HBK : Hid (w3.heap[w1.heap.size]? = some (.cells Z 88 (0, 0))) := by
      show _ = _
      rw [Below.block HB3 _ (by simp)]; exact heap_alloc_new w1.drew _
    have K5 : Hid (KX w1 w1.heap.size g sa sc aa ac (.slice na (TR.nm g).length nc) (.slice none 0 0) sZ (w3.setRow w1.heap.size (kC g sa sc aa ac (.slice na (TR.nm g).length nc) (.slice none 0 0) sZ).toArray)) := mkKX HB4 (Nat.le_refl _) HBK.out HON HGA.out hl1 hl2 HGK.out
    refine wpAnyH_ready (rs := [5]) (by kernel_rfl) (by simp) ?_
    refine AllReadyH.cons (o := _) rfl (fun K hK => ?_) AllReadyH.nil
    refine stepk_store_row rfl 88 _ _ rfl w1.heap.size (kC g sa sc aa ac (.slice na (TR.nm g).length nc) (.slice none 0 0) sZ).toArray (by rfl) (by rfl) 88 Z HBK.out (by rw [kC_size (by simp [sZ])]; exact infoK) (by rw [kC_size (by simp [sZ])]; exact hz) kC_one (hK.out _ _ (KP.out _ K5.out.v.bl) (fun hHeld => ?_))
    clear hK K
    (try simp only [Act.put, List.getElem_toArray, List.getElem_cons_succ, List.getElem_cons_zero, List.setIfInBounds_toArray, List.set_cons_zero, List.set_cons_succ])
    refine wpAnyH_done (by kernel_rfl) ?_ _
    refine NoPanic.normal ?_
    generalize w3.setRow w1.heap.size (kC g sa sc aa ac (.slice na (TR.nm g).length nc) (.slice none 0 0) sZ).toArray = W5 at *
    clear HBK HON HB3 HB4
    generalize hkb : w1.heap.size = kb at *
    clear hkb
    obtain ⟨H1, H2, H3, H4, H5⟩ := HH5.out _ K5.out.v.bl
    have hkb := K5.out.lt
    have CT : Hid (Calls Tryz.prog 60 #[.pointer (some ⟨kb, 0, none⟩)] W5 fun e w' => e = .returned (.bool false) ∧ w' = W5) := by
      have := hasTwins_at K5.out
      rw [HD.out] at this; exact this
    have CM : Hid (Calls Tryz.prog 61 #[.slice aa g.2.length ac, .func (.func 62) #[.pointer (some ⟨kb, 0, none⟩)] #[]] W5 fun e w' => e = .returned (.bool true) ∧ Bl W5 w') := by
      have := containsMiss K5.out
      rw [HM.out] at this; exact this
    go_wp2_with (first
      | (go_at_call 60; refine CT.out.mono ?_; clear CT; rintro e w' ⟨rfl, hw'⟩; rw [hw']; clear hw' w')
      | (go_at_call 61; refine CM.out.mono ?_; clear CM H1 H2 H3 H4 H5; rintro e w6 ⟨rfl, HB6⟩; obtain ⟨H1, H2, H3, H4, H5⟩ := HH5.out _ (K5.out.v.bl.step HB6); have HR : Hid _ := H1; clear H1)
      | (refine wpList_store_row rfl 88 _ _ rfl (W.heap.size + 1) Z rfl rfl 88 Z HR.out (by rw [hz]; exact infoK) rfl h1 ?_))
    refine bodyPost_ret (results2_k rfl _ _ _ 88 Z (0, 0) _ rfl (setRow_heap _ _ _ _ _ _ HR.out) hum rfl (by rw [hz]; exact infoK)) rfl ?_
    rw [HSTP.out]
    exact Or.inl ⟨by decide, rfl, H4 _⟩
  exact AllReadyH.nil
set_option maxRecDepth 8000 in
set_option maxHeartbeats 4000000 in
theorem study_23 (g : RC.Gr) (sa : Option Addr) (sc : Nat) (aa : Option Addr) (ac : Nat) {w W : World} (HB : Bl w W) (hgw : GA w.heap.size w g sa sc aa ac) (hk : grOk g) (hc : RC.can g = true) (hd : (TR.nm g).Nodup) (hm : TR.miss g = false) (ha : TR.arr g g.2.length (TR.st0 g) = none) :
    Calls Tryz.prog 39 #[.agg (gv g sa sc aa ac)] W (StP w g sa sc aa ac) := by
  have hz := zk_size
  have h1 : zk.all (·.oneCell') = true := kC_one
  obtain ⟨fs, hum⟩ := undK
  have hzz : ∀ W, (zeroValue 88).run Tryz.prog W = .ok (.agg zk) W := zeroK
  have hbz : ∀ W, (Instr.build 88 #[]).run Tryz.prog W = .ok (.agg zk) W := build53z
  have HSTP : Hid (StP w g sa sc aa ac = fun e w' => (TR.chk g ≠ 0 ∧ e = .returned (.tuple #[.agg zk, .int .i64 (TR.chk g : Int)]) ∧ Bl w w') ∨ (TR.Good g ∧ ∃ vn vo, e = .returned (.tuple #[.agg (kC g sa sc aa ac vn vo (TR.fin g)).toArray, .int .i64 0]) ∧ KV w g sa sc aa ac vn vo (TR.fin g) w')) := rfl
  have hgW := hgw.bl HB
  have e1 : (W.alloc (.cells #[.slice sa g.1.length sc, .slice aa g.2.length ac] 25)).heap.size = W.heap.size + 1 := by simp
  have e2 : ∀ Z, ((W.alloc (.cells #[.slice sa g.1.length sc, .slice aa g.2.length ac] 25)).alloc (.cells Z 88)).heap.size = W.heap.size + 2 := fun Z => by simp
  have HH : Hid (∀ U, Bl ((W.alloc (.cells #[.slice sa g.1.length sc, .slice aa g.2.length ac] 25)).alloc (.cells zk 88)) U → U.heap[W.heap.size + 1]? = some (.cells zk 88 (0, 0)) ∧ U.cell? ⟨W.heap.size, 0, none⟩ = some (.slice sa g.1.length sc) ∧ U.cell? ⟨W.heap.size, 1, none⟩ = some (.slice aa g.2.length ac) ∧ W.heap.size + 1 < U.heap.size ∧ Bl w U ∧ ∀ C, Bl w (U.setRow (W.heap.size + 1) C)) := fun U hU => by
    have hs := Below.size hU
    rw [e2] at hs
    have hb1 : ((W.alloc (.cells #[.slice sa g.1.length sc, .slice aa g.2.length ac] 25)).alloc (.cells zk 88)).heap[W.heap.size + 1]? = some (.cells zk 88 (0, 0)) := by rw [← e1]; exact heap_alloc_new _ _
    have hb2 : ((W.alloc (.cells #[.slice sa g.1.length sc, .slice aa g.2.length ac] 25)).alloc (.cells zk 88)).heap[W.heap.size]? = some (.cells #[.slice sa g.1.length sc, .slice aa g.2.length ac] 25 (0, 0)) := by
      rw [Below.block ((Bl.refl (W.alloc (.cells #[.slice sa g.1.length sc, .slice aa g.2.length ac] 25))).alloc _) _ (by rw [e1]; omega)]; exact heap_alloc_new W _
    have hbw : Bl w U := ((HB.alloc _).alloc _).step hU
    have hwz : w.heap.size ≤ W.heap.size := Below.size HB
    refine ⟨by rw [Below.block hU _ (by rw [e2]; omega)]; exact hb1, ?_, ?_, by omega, hbw, fun C => below_setRow hbw (by omega) C⟩
    · rw [Bl.cell hU (by rw [e2]; omega), Lib.cell_of_heap hb2]; rfl
    · rw [Bl.cell hU (by rw [e2]; omega), Lib.cell_of_heap hb2]; rfl
  have CP : Hid (Calls Tryz.prog 58 #[.agg (gv g sa sc aa ac)] ((W.alloc (.cells #[.slice sa g.1.length sc, .slice aa g.2.length ac] 25)).alloc (.cells zk 88)) fun e w' => e = .returned (.tuple #[.string (M.bs (RC.text g)), .int .i64 0]) ∧ Bl ((W.alloc (.cells #[.slice sa g.1.length sc, .slice aa g.2.length ac] 25)).alloc (.cells zk 88)) w') := Print_yes g sa sc aa ac (Bl.refl _) (hgW.bl (((Bl.refl W).alloc _).alloc _)) hk hc
  have hl := TR.can_le hc
  have hl1 := hl.1
  have hl2 := hl.2
  have HGK : Hid (grOk g) := hk
  have HGW : Hid (∀ U, Bl ((W.alloc (.cells #[.slice sa g.1.length sc, .slice aa g.2.length ac] 25)).alloc (.cells zk 88)) U → GA U.heap.size U g sa sc aa ac) := fun U hU => (hgW.bl (((Bl.refl W).alloc _).alloc _)).bl hU
  have HGw : Hid (GA w.heap.size w g sa sc aa ac) := hgw
  have CNN : Hid (∀ w1 U, Bl ((W.alloc (.cells #[.slice sa g.1.length sc, .slice aa g.2.length ac] 25)).alloc (.cells zk 88)) w1 → Bl w1 U → Calls Tryz.prog 59 #[.agg (gv g sa sc aa ac)] U fun e w' => ∃ na nc, e = .returned (.slice na (TR.nm g).length nc) ∧ w'.ownsRow w1.heap.size 9 1 (.slice na (TR.nm g).length nc) (TR.nm g).length ((TR.nm g).map encS) ∧ Bl U w') := fun w1 U h0 hU => by
    refine (allNames_x g sa sc aa ac U ((hgW.bl (((Bl.refl W).alloc _).alloc _)).bl (h0.step hU)) hl1 hl2).mono ?_
    rintro e w' ⟨v, rfl, h3, h4⟩
    obtain ⟨na, nc, rfl⟩ := own_shape h3
    exact ⟨na, nc, rfl, ownsRow_base h3 (Below.size hU), h4⟩
  have HD : Hid ((!decide (TR.nm g).Nodup) = false) := by
    show _ = _
    simp [hd]
  have HM : Hid (TR.miss g = false) := hm
  have HA : Hid (TR.arr g g.2.length (TR.st0 g) = none) := ha
  have hchk : TR.chk g = 23 := by
    unfold TR.chk
    rw [if_neg (by simp [hc]), if_neg (by simp [hd]), if_neg (by simp [hm]), ha]
  rw [hchk] at HSTP
  clear hchk
  clear hd hm ha
  clear hgW hgw HB hk hc hl
  have hbz' := hbz
  generalize hZ : zk = Z at *
  generalize StP w g sa sc aa ac = PP at *
  go_enter Tryz.func39, Tryz.ntmps39
  unfold gv at CP ⊢
  go_wp2_with (first
    | (go_at_call 58; refine CP.out.mono ?_; clear CP; rintro e w1 ⟨rfl, HB1⟩; obtain ⟨H1, H2, H3, H4, H5, H6⟩ := HH.out _ HB1))
  have HGA : Hid (GA w1.heap.size w1 g sa sc aa ac) := HGW.out _ HB1
  have CN : Hid (∀ U, Bl w1 U → Calls Tryz.prog 59 #[.agg (gv g sa sc aa ac)] U fun e w' => ∃ na nc, e = .returned (.slice na (TR.nm g).length nc) ∧ w'.ownsRow w1.heap.size 9 1 (.slice na (TR.nm g).length nc) (TR.nm g).length ((TR.nm g).map encS) ∧ Bl U w') := fun U hU => CNN.out w1 U HB1 hU
  have KP : Hid (∀ U, Bl w1 U → U.cell? ⟨W.heap.size, 0, none⟩ = some (.slice sa g.1.length sc) ∧ U.cell? ⟨W.heap.size, 1, none⟩ = some (.slice aa g.2.length ac)) := fun U hU => ⟨(HH.out U (HB1.step hU)).2.1, (HH.out U (HB1.step hU)).2.2.1⟩
  have HH5 : Hid (∀ U, Bl w1 U → U.heap[W.heap.size + 1]? = some (.cells Z 88 (0, 0)) ∧ U.cell? ⟨W.heap.size, 1, none⟩ = some (.slice aa g.2.length ac) ∧ W.heap.size < U.heap.size ∧ (∀ C, Bl w (U.setRow (W.heap.size + 1) C)) ∧ Bl w U) := fun U hU => by
    obtain ⟨q1, q2, q3, q4, q5, q6⟩ := HH.out U (HB1.step hU)
    exact ⟨q1, q3, by omega, q6, q5⟩
  have HBw : Hid (Bl w w1) := H5
  clear H1 H2 H3 H4 H5 H6 HH CNN HGW HB1
  refine wp_region_noPanic ?_
  refine wp_region_held_drew (S := fun U => U.cell? ⟨W.heap.size, 0, none⟩ = some (.slice sa g.1.length sc) ∧ U.cell? ⟨W.heap.size, 1, none⟩ = some (.slice aa g.2.length ac)) (by kernel_rfl) (KP.out _ ((Bl.refl w1).drewN 1)) (fun hHeld => ?_)
  refine wpAnyH_take (i := 0) (v := ?_) rfl (by kernel_rfl) (by kernel_rfl) (by kernel_rfl) (fun _ _ _ h => h) (Or.inl ⟨by kernel_rfl, ?_⟩) (by assumption) ?_
  rotate_left
  · (intro w hSw; (try dsimp only at hSw); go_simp; (try with_reducible rfl))
  simp only [Act.put, List.getElem_toArray, List.getElem_cons_succ, List.getElem_cons_zero, List.setIfInBounds_toArray, List.set_cons_zero, List.set_cons_succ]
  refine wpAnyH_take (i := 1) (v := ?_) rfl (by kernel_rfl) (by kernel_rfl) (by kernel_rfl) (fun _ _ _ h => h) (Or.inl ⟨by kernel_rfl, ?_⟩) (by assumption) ?_
  rotate_left
  · (intro w hSw; (try dsimp only at hSw); go_simp; (try with_reducible rfl))
  simp only [Act.put, List.getElem_toArray, List.getElem_cons_succ, List.getElem_cons_zero, List.setIfInBounds_toArray, List.set_cons_zero, List.set_cons_succ]
  refine wpAnyH_ready (rs := [2, 4]) (by kernel_rfl) (by simp) ?_
  refine AllReadyH.cons (o := _) rfl (fun K hK => ?_) ?_
  · go_simp
    go_at_call 59; refine (CN.out _ ((Bl.refl w1).drewN 1)).mono ?_; rintro e w3 ⟨na, nc, rfl, HON, HB3⟩
    have HB4 : Bl w1 w3 := ((Bl.refl w1).drewN 1).step HB3
    refine hK.out _ _ (KP.out _ HB4) (fun hHeld => ?_)
    clear hK K
    (try simp only [Act.put, List.getElem_toArray, List.getElem_cons_succ, List.getElem_cons_zero, List.setIfInBounds_toArray, List.set_cons_zero, List.set_cons_succ])
    refine wpAnyH_take (i := 3) (v := .agg (kC g sa sc aa ac (.slice na (TR.nm g).length nc) (.slice none 0 0) sZ).toArray) rfl (by kernel_rfl) (by kernel_rfl) (by kernel_rfl) (fun _ _ _ h => h) (yk_build (by kernel_rfl) rfl #[(0, .agg (gv g sa sc aa ac)), (1, .slice na (TR.nm g).length nc)] (by rfl) (fun w => build53 g sa aa sc ac na (TR.nm g).length nc w)) (by assumption) ?_
    simp only [Act.put, List.getElem_toArray, List.getElem_cons_succ, List.getElem_cons_zero, List.setIfInBounds_toArray, List.set_cons_zero, List.set_cons_succ]
    refine wpAnyH_ready (rs := [4]) (by kernel_rfl) (by simp) ?_
    refine AllReadyH.cons (o := _) rfl (fun K hK => ?_) AllReadyH.nil
    go_simp
    refine hK.out _ _ (KP.out _ (HB4.alloc _)) (fun hHeld => ?_)
    clear hK K
    (try simp only [Act.put, List.getElem_toArray, List.getElem_cons_succ, List.getElem_cons_zero, List.setIfInBounds_toArray, List.set_cons_zero, List.set_cons_succ])
    have HBK : Hid ((w3.alloc (.cells Z 88)).heap[w3.heap.size]? = some (.cells Z 88 (0, 0))) := heap_alloc_new _ _
    have K5 : Hid (KX w1 w3.heap.size g sa sc aa ac (.slice na (TR.nm g).length nc) (.slice none 0 0) sZ ((w3.alloc (.cells Z 88)).setRow w3.heap.size (kC g sa sc aa ac (.slice na (TR.nm g).length nc) (.slice none 0 0) sZ).toArray)) := mkKX (HB4.alloc _) (Below.size HB4) HBK.out (ownsRow_belowT HON ((Bl.refl w3).alloc _)) HGA.out hl1 hl2 HGK.out
    refine wpAnyH_ready (rs := [5]) (by kernel_rfl) (by simp) ?_
    refine AllReadyH.cons (o := _) rfl (fun K hK => ?_) AllReadyH.nil
    refine stepk_store_row rfl 88 _ _ rfl w3.heap.size (kC g sa sc aa ac (.slice na (TR.nm g).length nc) (.slice none 0 0) sZ).toArray (by rfl) (by rfl) 88 Z HBK.out (by rw [kC_size (by simp [sZ])]; exact infoK) (by rw [kC_size (by simp [sZ])]; exact hz) kC_one (hK.out _ _ (KP.out _ K5.out.v.bl) (fun hHeld => ?_))
    clear hK K
    (try simp only [Act.put, List.getElem_toArray, List.getElem_cons_succ, List.getElem_cons_zero, List.setIfInBounds_toArray, List.set_cons_zero, List.set_cons_succ])
    refine wpAnyH_done (by kernel_rfl) ?_ _
    refine NoPanic.normal ?_
    generalize (w3.alloc (.cells Z 88)).setRow w3.heap.size (kC g sa sc aa ac (.slice na (TR.nm g).length nc) (.slice none 0 0) sZ).toArray = W5 at *
    clear HBK HON HB3 HB4
    generalize w3.heap.size = kb at *
    obtain ⟨H1, H2, H3, H4, H5⟩ := HH5.out _ K5.out.v.bl
    have hkb := K5.out.lt
    have CT : Hid (Calls Tryz.prog 60 #[.pointer (some ⟨kb, 0, none⟩)] W5 fun e w' => e = .returned (.bool false) ∧ w' = W5) := by
      have := hasTwins_at K5.out
      rw [HD.out] at this; exact this
    have CM : Hid (Calls Tryz.prog 61 #[.slice aa g.2.length ac, .func (.func 62) #[.pointer (some ⟨kb, 0, none⟩)] #[]] W5 fun e w' => e = .returned (.bool false) ∧ Bl W5 w') := by
      have := containsMiss K5.out
      rw [HM.out] at this; exact this
    have CA : Hid (∀ w6, Bl W5 w6 → Calls Tryz.prog 63 #[.pointer (some ⟨kb, 0, none⟩)] w6 fun e w' => e = .returned (.bool false) ∧ Bl w1 w') := fun w6 h6 => by
      refine (arrange_x (K5.out.step h6)).mono ?_
      rintro e w' (⟨_, rfl, hb⟩ | ⟨st, vo, h, _⟩)
      · exact ⟨rfl, hb⟩
      · rw [HA.out] at h; cases h
    go_wp2_with (first
      | (go_at_call 60; refine CT.out.mono ?_; clear CT; rintro e w' ⟨rfl, hw'⟩; rw [hw']; clear hw' w')
      | (go_at_call 61; refine CM.out.mono ?_; clear CM H1 H2 H3 H4 H5; rintro e w6 ⟨rfl, HB6⟩)
      | (go_at_call 63; refine (CA.out _ HB6).mono ?_; clear CA HB6; rintro e w7 ⟨rfl, HB7⟩; obtain ⟨H1, H2, H3, H4, H5⟩ := HH5.out _ HB7; have HR : Hid _ := H1; clear H1)
      | (refine wpList_store_row rfl 88 _ _ rfl (W.heap.size + 1) Z rfl rfl 88 Z HR.out (by rw [hz]; exact infoK) rfl h1 ?_))
    refine bodyPost_ret (results2_k rfl _ _ _ 88 Z (0, 0) _ rfl (setRow_heap _ _ _ _ _ _ HR.out) hum rfl (by rw [hz]; exact infoK)) rfl ?_
    rw [HSTP.out]
    exact Or.inl ⟨by decide, rfl, H4 _⟩
  refine AllReadyH.cons (o := _) rfl (fun K hK => ?_) ?_
  · go_simp
    refine hK.out _ _ (KP.out _ (((Bl.refl w1).drewN 1).alloc _)) (fun hHeld => ?_)
    clear hK K
    (try simp only [Act.put, List.getElem_toArray, List.getElem_cons_succ, List.getElem_cons_zero, List.setIfInBounds_toArray, List.set_cons_zero, List.set_cons_succ])
    refine wpAnyH_ready (rs := [2]) (by kernel_rfl) (by simp) ?_
    refine AllReadyH.cons (o := _) rfl (fun K hK => ?_) AllReadyH.nil
    go_simp
    go_at_call 59; refine (CN.out _ (((Bl.refl w1).drewN 1).alloc _)).mono ?_; rintro e w3 ⟨na, nc, rfl, HON, HB3⟩
    have HB4 : Bl w1 w3 := (((Bl.refl w1).drewN 1).alloc _).step HB3
    refine hK.out _ _ (KP.out _ HB4) (fun hHeld => ?_)
    clear hK K
    (try simp only [Act.put, List.getElem_toArray, List.getElem_cons_succ, List.getElem_cons_zero, List.setIfInBounds_toArray, List.set_cons_zero, List.set_cons_succ])
    refine wpAnyH_take (i := 3) (v := .agg (kC g sa sc aa ac (.slice na (TR.nm g).length nc) (.slice none 0 0) sZ).toArray) rfl (by kernel_rfl) (by kernel_rfl) (by kernel_rfl) (fun _ _ _ h => h) (yk_build (by kernel_rfl) rfl #[(0, .agg (gv g sa sc aa ac)), (1, .slice na (TR.nm g).length nc)] (by rfl) (fun w => build53 g sa aa sc ac na (TR.nm g).length nc w)) (by assumption) ?_
    simp only [Act.put, List.getElem_toArray, List.getElem_cons_succ, List.getElem_cons_zero, List.setIfInBounds_toArray, List.set_cons_zero, List.set_cons_succ]
    have HBK : Hid (w3.heap[w1.heap.size]? = some (.cells Z 88 (0, 0))) := by
      show _ = _
      rw [Below.block HB3 _ (by simp)]; exact heap_alloc_new w1.drew _
    have K5 : Hid (KX w1 w1.heap.size g sa sc aa ac (.slice na (TR.nm g).length nc) (.slice none 0 0) sZ (w3.setRow w1.heap.size (kC g sa sc aa ac (.slice na (TR.nm g).length nc) (.slice none 0 0) sZ).toArray)) := mkKX HB4 (Nat.le_refl _) HBK.out HON HGA.out hl1 hl2 HGK.out
    refine wpAnyH_ready (rs := [5]) (by kernel_rfl) (by simp) ?_
    refine AllReadyH.cons (o := _) rfl (fun K hK => ?_) AllReadyH.nil
    refine stepk_store_row rfl 88 _ _ rfl w1.heap.size (kC g sa sc aa ac (.slice na (TR.nm g).length nc) (.slice none 0 0) sZ).toArray (by rfl) (by rfl) 88 Z HBK.out (by rw [kC_size (by simp [sZ])]; exact infoK) (by rw [kC_size (by simp [sZ])]; exact hz) kC_one (hK.out _ _ (KP.out _ K5.out.v.bl) (fun hHeld => ?_))
    clear hK K
    (try simp only [Act.put, List.getElem_toArray, List.getElem_cons_succ, List.getElem_cons_zero, List.setIfInBounds_toArray, List.set_cons_zero, List.set_cons_succ])
    refine wpAnyH_done (by kernel_rfl) ?_ _
    refine NoPanic.normal ?_
    generalize w3.setRow w1.heap.size (kC g sa sc aa ac (.slice na (TR.nm g).length nc) (.slice none 0 0) sZ).toArray = W5 at *
    clear HBK HON HB3 HB4
    generalize hkb : w1.heap.size = kb at *
    clear hkb
    obtain ⟨H1, H2, H3, H4, H5⟩ := HH5.out _ K5.out.v.bl
    have hkb := K5.out.lt
    have CT : Hid (Calls Tryz.prog 60 #[.pointer (some ⟨kb, 0, none⟩)] W5 fun e w' => e = .returned (.bool false) ∧ w' = W5) := by
      have := hasTwins_at K5.out
      rw [HD.out] at this; exact this
    have CM : Hid (Calls Tryz.prog 61 #[.slice aa g.2.length ac, .func (.func 62) #[.pointer (some ⟨kb, 0, none⟩)] #[]] W5 fun e w' => e = .returned (.bool false) ∧ Bl W5 w') := by
      have := containsMiss K5.out
      rw [HM.out] at this; exact this
    have CA : Hid (∀ w6, Bl W5 w6 → Calls Tryz.prog 63 #[.pointer (some ⟨kb, 0, none⟩)] w6 fun e w' => e = .returned (.bool false) ∧ Bl w1 w') := fun w6 h6 => by
      refine (arrange_x (K5.out.step h6)).mono ?_
      rintro e w' (⟨_, rfl, hb⟩ | ⟨st, vo, h, _⟩)
      · exact ⟨rfl, hb⟩
      · rw [HA.out] at h; cases h
    go_wp2_with (first
      | (go_at_call 60; refine CT.out.mono ?_; clear CT; rintro e w' ⟨rfl, hw'⟩; rw [hw']; clear hw' w')
      | (go_at_call 61; refine CM.out.mono ?_; clear CM H1 H2 H3 H4 H5; rintro e w6 ⟨rfl, HB6⟩)
      | (go_at_call 63; refine (CA.out _ HB6).mono ?_; clear CA HB6; rintro e w7 ⟨rfl, HB7⟩; obtain ⟨H1, H2, H3, H4, H5⟩ := HH5.out _ HB7; have HR : Hid _ := H1; clear H1)
      | (refine wpList_store_row rfl 88 _ _ rfl (W.heap.size + 1) Z rfl rfl 88 Z HR.out (by rw [hz]; exact infoK) rfl h1 ?_))
    refine bodyPost_ret (results2_k rfl _ _ _ 88 Z (0, 0) _ rfl (setRow_heap _ _ _ _ _ _ HR.out) hum rfl (by rw [hz]; exact infoK)) rfl ?_
    rw [HSTP.out]
    exact Or.inl ⟨by decide, rfl, H4 _⟩
  exact AllReadyH.nil
set_option maxRecDepth 8000 in
set_option maxHeartbeats 4000000 in
theorem study_0 (g : RC.Gr) (sa : Option Addr) (sc : Nat) (aa : Option Addr) (ac : Nat) {w W : World} (HB : Bl w W) (hgw : GA w.heap.size w g sa sc aa ac) (hk : grOk g) (hc : RC.can g = true) (hd : (TR.nm g).Nodup) (hm : TR.miss g = false) (ha : TR.arr g g.2.length (TR.st0 g) = some (TR.fin g)) :
    Calls Tryz.prog 39 #[.agg (gv g sa sc aa ac)] W (StP w g sa sc aa ac) := by
  have hz := zk_size
  have h1 : zk.all (·.oneCell') = true := kC_one
  obtain ⟨fs, hum⟩ := undK
  have hzz : ∀ W, (zeroValue 88).run Tryz.prog W = .ok (.agg zk) W := zeroK
  have hbz : ∀ W, (Instr.build 88 #[]).run Tryz.prog W = .ok (.agg zk) W := build53z
  have HSTP : Hid (StP w g sa sc aa ac = fun e w' => (TR.chk g ≠ 0 ∧ e = .returned (.tuple #[.agg zk, .int .i64 (TR.chk g : Int)]) ∧ Bl w w') ∨ (TR.Good g ∧ ∃ vn vo, e = .returned (.tuple #[.agg (kC g sa sc aa ac vn vo (TR.fin g)).toArray, .int .i64 0]) ∧ KV w g sa sc aa ac vn vo (TR.fin g) w')) := rfl
  have hgW := hgw.bl HB
  have e1 : (W.alloc (.cells #[.slice sa g.1.length sc, .slice aa g.2.length ac] 25)).heap.size = W.heap.size + 1 := by simp
  have e2 : ∀ Z, ((W.alloc (.cells #[.slice sa g.1.length sc, .slice aa g.2.length ac] 25)).alloc (.cells Z 88)).heap.size = W.heap.size + 2 := fun Z => by simp
  have HH : Hid (∀ U, Bl ((W.alloc (.cells #[.slice sa g.1.length sc, .slice aa g.2.length ac] 25)).alloc (.cells zk 88)) U → U.heap[W.heap.size + 1]? = some (.cells zk 88 (0, 0)) ∧ U.cell? ⟨W.heap.size, 0, none⟩ = some (.slice sa g.1.length sc) ∧ U.cell? ⟨W.heap.size, 1, none⟩ = some (.slice aa g.2.length ac) ∧ W.heap.size + 1 < U.heap.size ∧ Bl w U ∧ ∀ C, Bl w (U.setRow (W.heap.size + 1) C)) := fun U hU => by
    have hs := Below.size hU
    rw [e2] at hs
    have hb1 : ((W.alloc (.cells #[.slice sa g.1.length sc, .slice aa g.2.length ac] 25)).alloc (.cells zk 88)).heap[W.heap.size + 1]? = some (.cells zk 88 (0, 0)) := by rw [← e1]; exact heap_alloc_new _ _
    have hb2 : ((W.alloc (.cells #[.slice sa g.1.length sc, .slice aa g.2.length ac] 25)).alloc (.cells zk 88)).heap[W.heap.size]? = some (.cells #[.slice sa g.1.length sc, .slice aa g.2.length ac] 25 (0, 0)) := by
      rw [Below.block ((Bl.refl (W.alloc (.cells #[.slice sa g.1.length sc, .slice aa g.2.length ac] 25))).alloc _) _ (by rw [e1]; omega)]; exact heap_alloc_new W _
    have hbw : Bl w U := ((HB.alloc _).alloc _).step hU
    have hwz : w.heap.size ≤ W.heap.size := Below.size HB
    refine ⟨by rw [Below.block hU _ (by rw [e2]; omega)]; exact hb1, ?_, ?_, by omega, hbw, fun C => below_setRow hbw (by omega) C⟩
    · rw [Bl.cell hU (by rw [e2]; omega), Lib.cell_of_heap hb2]; rfl
    · rw [Bl.cell hU (by rw [e2]; omega), Lib.cell_of_heap hb2]; rfl
  have CP : Hid (Calls Tryz.prog 58 #[.agg (gv g sa sc aa ac)] ((W.alloc (.cells #[.slice sa g.1.length sc, .slice aa g.2.length ac] 25)).alloc (.cells zk 88)) fun e w' => e = .returned (.tuple #[.string (M.bs (RC.text g)), .int .i64 0]) ∧ Bl ((W.alloc (.cells #[.slice sa g.1.length sc, .slice aa g.2.length ac] 25)).alloc (.cells zk 88)) w') := Print_yes g sa sc aa ac (Bl.refl _) (hgW.bl (((Bl.refl W).alloc _).alloc _)) hk hc
  have hl := TR.can_le hc
  have hl1 := hl.1
  have hl2 := hl.2
  have HGK : Hid (grOk g) := hk
  have HGW : Hid (∀ U, Bl ((W.alloc (.cells #[.slice sa g.1.length sc, .slice aa g.2.length ac] 25)).alloc (.cells zk 88)) U → GA U.heap.size U g sa sc aa ac) := fun U hU => (hgW.bl (((Bl.refl W).alloc _).alloc _)).bl hU
  have HGw : Hid (GA w.heap.size w g sa sc aa ac) := hgw
  have CNN : Hid (∀ w1 U, Bl ((W.alloc (.cells #[.slice sa g.1.length sc, .slice aa g.2.length ac] 25)).alloc (.cells zk 88)) w1 → Bl w1 U → Calls Tryz.prog 59 #[.agg (gv g sa sc aa ac)] U fun e w' => ∃ na nc, e = .returned (.slice na (TR.nm g).length nc) ∧ w'.ownsRow w1.heap.size 9 1 (.slice na (TR.nm g).length nc) (TR.nm g).length ((TR.nm g).map encS) ∧ Bl U w') := fun w1 U h0 hU => by
    refine (allNames_x g sa sc aa ac U ((hgW.bl (((Bl.refl W).alloc _).alloc _)).bl (h0.step hU)) hl1 hl2).mono ?_
    rintro e w' ⟨v, rfl, h3, h4⟩
    obtain ⟨na, nc, rfl⟩ := own_shape h3
    exact ⟨na, nc, rfl, ownsRow_base h3 (Below.size hU), h4⟩
  have HD : Hid ((!decide (TR.nm g).Nodup) = false) := by
    show _ = _
    simp [hd]
  have HM : Hid (TR.miss g = false) := hm
  have HA : Hid (TR.arr g g.2.length (TR.st0 g) = some (TR.fin g)) := ha
  have HGD : Hid (TR.Good g) := ⟨hc, hd, hm, ha⟩
  clear hd hm ha
  clear hgW hgw HB hk hc hl
  have hbz' := hbz
  generalize hZ : zk = Z at *
  generalize StP w g sa sc aa ac = PP at *
  go_enter Tryz.func39, Tryz.ntmps39
  unfold gv at CP ⊢
  go_wp2_with (first
    | (go_at_call 58; refine CP.out.mono ?_; clear CP; rintro e w1 ⟨rfl, HB1⟩; obtain ⟨H1, H2, H3, H4, H5, H6⟩ := HH.out _ HB1))
  have HGA : Hid (GA w1.heap.size w1 g sa sc aa ac) := HGW.out _ HB1
  have CN : Hid (∀ U, Bl w1 U → Calls Tryz.prog 59 #[.agg (gv g sa sc aa ac)] U fun e w' => ∃ na nc, e = .returned (.slice na (TR.nm g).length nc) ∧ w'.ownsRow w1.heap.size 9 1 (.slice na (TR.nm g).length nc) (TR.nm g).length ((TR.nm g).map encS) ∧ Bl U w') := fun U hU => CNN.out w1 U HB1 hU
  have KP : Hid (∀ U, Bl w1 U → U.cell? ⟨W.heap.size, 0, none⟩ = some (.slice sa g.1.length sc) ∧ U.cell? ⟨W.heap.size, 1, none⟩ = some (.slice aa g.2.length ac)) := fun U hU => ⟨(HH.out U (HB1.step hU)).2.1, (HH.out U (HB1.step hU)).2.2.1⟩
  have HH5 : Hid (∀ U, Bl w1 U → U.heap[W.heap.size + 1]? = some (.cells Z 88 (0, 0)) ∧ U.cell? ⟨W.heap.size, 1, none⟩ = some (.slice aa g.2.length ac) ∧ W.heap.size < U.heap.size ∧ (∀ C, Bl w (U.setRow (W.heap.size + 1) C)) ∧ Bl w U) := fun U hU => by
    obtain ⟨q1, q2, q3, q4, q5, q6⟩ := HH.out U (HB1.step hU)
    exact ⟨q1, q3, by omega, q6, q5⟩
  have HBw : Hid (Bl w w1) := H5
  clear H1 H2 H3 H4 H5 H6 HH CNN HGW HB1
  refine wp_region_noPanic ?_
  refine wp_region_held_drew (S := fun U => U.cell? ⟨W.heap.size, 0, none⟩ = some (.slice sa g.1.length sc) ∧ U.cell? ⟨W.heap.size, 1, none⟩ = some (.slice aa g.2.length ac)) (by kernel_rfl) (KP.out _ ((Bl.refl w1).drewN 1)) (fun hHeld => ?_)
  refine wpAnyH_take (i := 0) (v := ?_) rfl (by kernel_rfl) (by kernel_rfl) (by kernel_rfl) (fun _ _ _ h => h) (Or.inl ⟨by kernel_rfl, ?_⟩) (by assumption) ?_
  rotate_left
  · (intro w hSw; (try dsimp only at hSw); go_simp; (try with_reducible rfl))
  simp only [Act.put, List.getElem_toArray, List.getElem_cons_succ, List.getElem_cons_zero, List.setIfInBounds_toArray, List.set_cons_zero, List.set_cons_succ]
  refine wpAnyH_take (i := 1) (v := ?_) rfl (by kernel_rfl) (by kernel_rfl) (by kernel_rfl) (fun _ _ _ h => h) (Or.inl ⟨by kernel_rfl, ?_⟩) (by assumption) ?_
  rotate_left
  · (intro w hSw; (try dsimp only at hSw); go_simp; (try with_reducible rfl))
  simp only [Act.put, List.getElem_toArray, List.getElem_cons_succ, List.getElem_cons_zero, List.setIfInBounds_toArray, List.set_cons_zero, List.set_cons_succ]
  refine wpAnyH_ready (rs := [2, 4]) (by kernel_rfl) (by simp) ?_
  refine AllReadyH.cons (o := _) rfl (fun K hK => ?_) ?_
  · go_simp
    go_at_call 59; refine (CN.out _ ((Bl.refl w1).drewN 1)).mono ?_; rintro e w3 ⟨na, nc, rfl, HON, HB3⟩
    have HB4 : Bl w1 w3 := ((Bl.refl w1).drewN 1).step HB3
    refine hK.out _ _ (KP.out _ HB4) (fun hHeld => ?_)
    clear hK K
    (try simp only [Act.put, List.getElem_toArray, List.getElem_cons_succ, List.getElem_cons_zero, List.setIfInBounds_toArray, List.set_cons_zero, List.set_cons_succ])
    refine wpAnyH_take (i := 3) (v := .agg (kC g sa sc aa ac (.slice na (TR.nm g).length nc) (.slice none 0 0) sZ).toArray) rfl (by kernel_rfl) (by kernel_rfl) (by kernel_rfl) (fun _ _ _ h => h) (yk_build (by kernel_rfl) rfl #[(0, .agg (gv g sa sc aa ac)), (1, .slice na (TR.nm g).length nc)] (by rfl) (fun w => build53 g sa aa sc ac na (TR.nm g).length nc w)) (by assumption) ?_
    simp only [Act.put, List.getElem_toArray, List.getElem_cons_succ, List.getElem_cons_zero, List.setIfInBounds_toArray, List.set_cons_zero, List.set_cons_succ]
    refine wpAnyH_ready (rs := [4]) (by kernel_rfl) (by simp) ?_
    refine AllReadyH.cons (o := _) rfl (fun K hK => ?_) AllReadyH.nil
    go_simp
    refine hK.out _ _ (KP.out _ (HB4.alloc _)) (fun hHeld => ?_)
    clear hK K
    (try simp only [Act.put, List.getElem_toArray, List.getElem_cons_succ, List.getElem_cons_zero, List.setIfInBounds_toArray, List.set_cons_zero, List.set_cons_succ])
    have HBK : Hid ((w3.alloc (.cells Z 88)).heap[w3.heap.size]? = some (.cells Z 88 (0, 0))) := heap_alloc_new _ _
    have K5 : Hid (KX w1 w3.heap.size g sa sc aa ac (.slice na (TR.nm g).length nc) (.slice none 0 0) sZ ((w3.alloc (.cells Z 88)).setRow w3.heap.size (kC g sa sc aa ac (.slice na (TR.nm g).length nc) (.slice none 0 0) sZ).toArray)) := mkKX (HB4.alloc _) (Below.size HB4) HBK.out (ownsRow_belowT HON ((Bl.refl w3).alloc _)) HGA.out hl1 hl2 HGK.out
    refine wpAnyH_ready (rs := [5]) (by kernel_rfl) (by simp) ?_
    refine AllReadyH.cons (o := _) rfl (fun K hK => ?_) AllReadyH.nil
    refine stepk_store_row rfl 88 _ _ rfl w3.heap.size (kC g sa sc aa ac (.slice na (TR.nm g).length nc) (.slice none 0 0) sZ).toArray (by rfl) (by rfl) 88 Z HBK.out (by rw [kC_size (by simp [sZ])]; exact infoK) (by rw [kC_size (by simp [sZ])]; exact hz) kC_one (hK.out _ _ (KP.out _ K5.out.v.bl) (fun hHeld => ?_))
    clear hK K
    (try simp only [Act.put, List.getElem_toArray, List.getElem_cons_succ, List.getElem_cons_zero, List.setIfInBounds_toArray, List.set_cons_zero, List.set_cons_succ])
    refine wpAnyH_done (by kernel_rfl) ?_ _
    refine NoPanic.normal ?_
    generalize (w3.alloc (.cells Z 88)).setRow w3.heap.size (kC g sa sc aa ac (.slice na (TR.nm g).length nc) (.slice none 0 0) sZ).toArray = W5 at *
    clear HBK HON HB3 HB4
    generalize w3.heap.size = kb at *
    obtain ⟨H1, H2, H3, H4, H5⟩ := HH5.out _ K5.out.v.bl
    have hkb := K5.out.lt
    have CT : Hid (Calls Tryz.prog 60 #[.pointer (some ⟨kb, 0, none⟩)] W5 fun e w' => e = .returned (.bool false) ∧ w' = W5) := by
      have := hasTwins_at K5.out
      rw [HD.out] at this; exact this
    have CM : Hid (Calls Tryz.prog 61 #[.slice aa g.2.length ac, .func (.func 62) #[.pointer (some ⟨kb, 0, none⟩)] #[]] W5 fun e w' => e = .returned (.bool false) ∧ Bl W5 w') := by
      have := containsMiss K5.out
      rw [HM.out] at this; exact this
    have CA : Hid (∀ w6, Bl W5 w6 → Calls Tryz.prog 63 #[.pointer (some ⟨kb, 0, none⟩)] w6 fun e w' => e = .returned (.bool true) ∧ ∃ oa oc, KX w1 kb g sa sc aa ac (.slice na (TR.nm g).length nc) (.slice oa (TR.fin g).order.length oc) (TR.fin g) w') := fun w6 h6 => by
      refine (arrange_x (K5.out.step h6)).mono ?_
      rintro e w' (⟨h, _⟩ | ⟨st, vo, h, rfl, hx⟩)
      · rw [HA.out] at h; cases h
      · rw [HA.out] at h; cases h
        obtain ⟨oa, oc, rfl⟩ := own_shape hx.v.o
        exact ⟨rfl, oa, oc, hx⟩
    go_wp2_with (first
      | (go_at_call 60; refine CT.out.mono ?_; clear CT; rintro e w' ⟨rfl, hw'⟩; rw [hw']; clear hw' w')
      | (go_at_call 61; refine CM.out.mono ?_; clear CM H1 H2 H3 H4 H5; rintro e w6 ⟨rfl, HB6⟩)
      | (go_at_call 63; refine (CA.out _ HB6).mono ?_; clear CA HB6; rintro e w7 ⟨rfl, oa, oc, KX7⟩; have HX7 : Hid _ := KX7; obtain ⟨H1, H2, H3, H4, H5⟩ := HH5.out _ KX7.v.bl; have HR : Hid _ := H1; clear H1 KX7)
      | (refine wpList_load_row rfl 88 _ rfl kb rfl 88 _ (0, 0) _ HX7.out.blk hum rfl (by rw [kC_size HX7.out.v.len]; exact infoK) ?_)
      | (refine wpList_store_row rfl 88 _ _ rfl (W.heap.size + 1) (kC g sa sc aa ac (.slice na (TR.nm g).length nc) (.slice oa (TR.fin g).order.length oc) (TR.fin g)).toArray rfl rfl 88 Z HR.out (by rw [kC_size HX7.out.v.len]; exact infoK) (by rw [kC_size HX7.out.v.len]; exact hz) kC_one ?_))
    refine bodyPost_ret (results2_k rfl _ _ _ 88 _ (0, 0) _ rfl (setRow_heap _ _ _ _ _ _ HR.out) hum rfl (by rw [kC_size HX7.out.v.len]; exact infoK)) rfl ?_
    rw [HSTP.out]
    refine Or.inr ⟨HGD.out, _, _, rfl, ?_⟩
    have HV := KV.outer HX7.out.v HBw.out HGw.out
    exact ⟨ownsRow_setRowK HV.n HR.out (by decide), ownsRow_setRowK HV.o HR.out (by decide), HV.ga, H4 _, HV.len, HV.l1, HV.l2, HV.ol, HV.olt, HV.tl, HV.ndl, HV.gk⟩
  refine AllReadyH.cons (o := _) rfl (fun K hK => ?_) ?_
  · go_simp
    refine hK.out _ _ (KP.out _ (((Bl.refl w1).drewN 1).alloc _)) (fun hHeld => ?_)
    clear hK K
    (try simp only [Act.put, List.getElem_toArray, List.getElem_cons_succ, List.getElem_cons_zero, List.setIfInBounds_toArray, List.set_cons_zero, List.set_cons_succ])
    refine wpAnyH_ready (rs := [2]) (by kernel_rfl) (by simp) ?_
    refine AllReadyH.cons (o := _) rfl (fun K hK => ?_) AllReadyH.nil
    go_simp
    go_at_call 59; refine (CN.out _ (((Bl.refl w1).drewN 1).alloc _)).mono ?_; rintro e w3 ⟨na, nc, rfl, HON, HB3⟩
    have HB4 : Bl w1 w3 := (((Bl.refl w1).drewN 1).alloc _).step HB3
    refine hK.out _ _ (KP.out _ HB4) (fun hHeld => ?_)
    clear hK K
    (try simp only [Act.put, List.getElem_toArray, List.getElem_cons_succ, List.getElem_cons_zero, List.setIfInBounds_toArray, List.set_cons_zero, List.set_cons_succ])
    refine wpAnyH_take (i := 3) (v := .agg (kC g sa sc aa ac (.slice na (TR.nm g).length nc) (.slice none 0 0) sZ).toArray) rfl (by kernel_rfl) (by kernel_rfl) (by kernel_rfl) (fun _ _ _ h => h) (yk_build (by kernel_rfl) rfl #[(0, .agg (gv g sa sc aa ac)), (1, .slice na (TR.nm g).length nc)] (by rfl) (fun w => build53 g sa aa sc ac na (TR.nm g).length nc w)) (by assumption) ?_
    simp only [Act.put, List.getElem_toArray, List.getElem_cons_succ, List.getElem_cons_zero, List.setIfInBounds_toArray, List.set_cons_zero, List.set_cons_succ]
    have HBK : Hid (w3.heap[w1.heap.size]? = some (.cells Z 88 (0, 0))) := by
      show _ = _
      rw [Below.block HB3 _ (by simp)]; exact heap_alloc_new w1.drew _
    have K5 : Hid (KX w1 w1.heap.size g sa sc aa ac (.slice na (TR.nm g).length nc) (.slice none 0 0) sZ (w3.setRow w1.heap.size (kC g sa sc aa ac (.slice na (TR.nm g).length nc) (.slice none 0 0) sZ).toArray)) := mkKX HB4 (Nat.le_refl _) HBK.out HON HGA.out hl1 hl2 HGK.out
    refine wpAnyH_ready (rs := [5]) (by kernel_rfl) (by simp) ?_
    refine AllReadyH.cons (o := _) rfl (fun K hK => ?_) AllReadyH.nil
    refine stepk_store_row rfl 88 _ _ rfl w1.heap.size (kC g sa sc aa ac (.slice na (TR.nm g).length nc) (.slice none 0 0) sZ).toArray (by rfl) (by rfl) 88 Z HBK.out (by rw [kC_size (by simp [sZ])]; exact infoK) (by rw [kC_size (by simp [sZ])]; exact hz) kC_one (hK.out _ _ (KP.out _ K5.out.v.bl) (fun hHeld => ?_))
    clear hK K
    (try simp only [Act.put, List.getElem_toArray, List.getElem_cons_succ, List.getElem_cons_zero, List.setIfInBounds_toArray, List.set_cons_zero, List.set_cons_succ])
    refine wpAnyH_done (by kernel_rfl) ?_ _
    refine NoPanic.normal ?_
    generalize w3.setRow w1.heap.size (kC g sa sc aa ac (.slice na (TR.nm g).length nc) (.slice none 0 0) sZ).toArray = W5 at *
    clear HBK HON HB3 HB4
    generalize hkb : w1.heap.size = kb at *
    clear hkb
    obtain ⟨H1, H2, H3, H4, H5⟩ := HH5.out _ K5.out.v.bl
    have hkb := K5.out.lt
    have CT : Hid (Calls Tryz.prog 60 #[.pointer (some ⟨kb, 0, none⟩)] W5 fun e w' => e = .returned (.bool false) ∧ w' = W5) := by
      have := hasTwins_at K5.out
      rw [HD.out] at this; exact this
    have CM : Hid (Calls Tryz.prog 61 #[.slice aa g.2.length ac, .func (.func 62) #[.pointer (some ⟨kb, 0, none⟩)] #[]] W5 fun e w' => e = .returned (.bool false) ∧ Bl W5 w') := by
      have := containsMiss K5.out
      rw [HM.out] at this; exact this
    have CA : Hid (∀ w6, Bl W5 w6 → Calls Tryz.prog 63 #[.pointer (some ⟨kb, 0, none⟩)] w6 fun e w' => e = .returned (.bool true) ∧ ∃ oa oc, KX w1 kb g sa sc aa ac (.slice na (TR.nm g).length nc) (.slice oa (TR.fin g).order.length oc) (TR.fin g) w') := fun w6 h6 => by
      refine (arrange_x (K5.out.step h6)).mono ?_
      rintro e w' (⟨h, _⟩ | ⟨st, vo, h, rfl, hx⟩)
      · rw [HA.out] at h; cases h
      · rw [HA.out] at h; cases h
        obtain ⟨oa, oc, rfl⟩ := own_shape hx.v.o
        exact ⟨rfl, oa, oc, hx⟩
    go_wp2_with (first
      | (go_at_call 60; refine CT.out.mono ?_; clear CT; rintro e w' ⟨rfl, hw'⟩; rw [hw']; clear hw' w')
      | (go_at_call 61; refine CM.out.mono ?_; clear CM H1 H2 H3 H4 H5; rintro e w6 ⟨rfl, HB6⟩)
      | (go_at_call 63; refine (CA.out _ HB6).mono ?_; clear CA HB6; rintro e w7 ⟨rfl, oa, oc, KX7⟩; have HX7 : Hid _ := KX7; obtain ⟨H1, H2, H3, H4, H5⟩ := HH5.out _ KX7.v.bl; have HR : Hid _ := H1; clear H1 KX7)
      | (refine wpList_load_row rfl 88 _ rfl kb rfl 88 _ (0, 0) _ HX7.out.blk hum rfl (by rw [kC_size HX7.out.v.len]; exact infoK) ?_)
      | (refine wpList_store_row rfl 88 _ _ rfl (W.heap.size + 1) (kC g sa sc aa ac (.slice na (TR.nm g).length nc) (.slice oa (TR.fin g).order.length oc) (TR.fin g)).toArray rfl rfl 88 Z HR.out (by rw [kC_size HX7.out.v.len]; exact infoK) (by rw [kC_size HX7.out.v.len]; exact hz) kC_one ?_))
    refine bodyPost_ret (results2_k rfl _ _ _ 88 _ (0, 0) _ rfl (setRow_heap _ _ _ _ _ _ HR.out) hum rfl (by rw [kC_size HX7.out.v.len]; exact infoK)) rfl ?_
    rw [HSTP.out]
    refine Or.inr ⟨HGD.out, _, _, rfl, ?_⟩
    have HV := KV.outer HX7.out.v HBw.out HGw.out
    exact ⟨ownsRow_setRowK HV.n HR.out (by decide), ownsRow_setRowK HV.o HR.out (by decide), HV.ga, H4 _, HV.len, HV.l1, HV.l2, HV.ol, HV.olt, HV.tl, HV.ndl, HV.gk⟩
  exact AllReadyH.nil
theorem study_x (g : RC.Gr) (sa : Option Addr) (sc : Nat) (aa : Option Addr) (ac : Nat) {w W : World} (HB : Bl w W) (hgw : GA w.heap.size w g sa sc aa ac) (hk : grOk g) :
    Calls Tryz.prog 39 #[.agg (gv g sa sc aa ac)] W (StP w g sa sc aa ac) := by
  by_cases hc : RC.can g = false
  · exact study_1 g sa sc aa ac HB hgw hk hc
  have hc' : RC.can g = true := by simpa using hc
  by_cases hd : (TR.nm g).Nodup
  · by_cases hm : TR.miss g = true
    · exact study_22 g sa sc aa ac HB hgw hk hc' hd hm
    · have hm' : TR.miss g = false := by simpa using hm
      cases ha : TR.arr g g.2.length (TR.st0 g) with
      | none => exact study_23 g sa sc aa ac HB hgw hk hc' hd hm' ha
      | some st =>
        have e : TR.fin g = st := by unfold TR.fin; rw [ha]; rfl
        rw [← e] at ha
        exact study_0 g sa sc aa ac HB hgw hk hc' hd hm' ha
  · exact study_21 g sa sc aa ac HB hgw hk hc' hd
end Go.Proofs.YtjbffhdccgmfpaaGreatDoor

/- trellis: Check, Order. -/
namespace Go.Proofs.YtjbffhdccgmfpaaGreatDoor
open Go.RowKit
set_option linter.unusedVariables false
set_option linter.unusedSimpArgs false

/-- of which build something is known, and what -/
def KR (g g' : RC.Gr) (st : TR.St) : Prop := (TR.Good g ∧ g' = g ∧ st = TR.fin g) ∨ (TR.chk g ≠ 0 ∧ g' = ([], []) ∧ st = sZ)
theorem study_k (g : RC.Gr) (sa : Option Addr) (sc : Nat) (aa : Option Addr) (ac : Nat) {w W : World} (HB : Bl w W) (hgw : GA w.heap.size w g sa sc aa ac) (hk : grOk g) :
    Calls Tryz.prog 39 #[.agg (gv g sa sc aa ac)] W fun e w' => ∃ g' sa' sc' aa' ac' na nn nc oa on oc st, e = .returned (.tuple #[.agg (kC g' sa' sc' aa' ac' (.slice na nn nc) (.slice oa on oc) st).toArray, .int .i64 (TR.chk g : Int)]) ∧ KV w g' sa' sc' aa' ac' (.slice na nn nc) (.slice oa on oc) st w' ∧ KR g g' st := by
  refine (study_x g sa sc aa ac HB hgw hk).mono ?_
  rintro e w' (⟨h, rfl, hb⟩ | ⟨h, vn, vo, rfl, hv⟩)
  · exact ⟨_, _, _, _, _, _, _, _, _, _, _, _, rfl, kv_zero hb, Or.inr ⟨h, rfl, rfl⟩⟩
  · obtain ⟨na, nc, rfl⟩ := own_shape hv.n
    obtain ⟨oa, oc, rfl⟩ := own_shape hv.o
    exact ⟨g, sa, sc, aa, ac, na, _, nc, oa, _, oc, _, by rw [TR.chk_zero.2 h]; rfl, hv, Or.inl ⟨h, rfl, rfl⟩⟩
theorem KV.put {w W : World} {g : RC.Gr} {sa aa na oa : Option Addr} {sc ac nn nc on oc : Nat} {st : TR.St} (h : KV w g sa sc aa ac (.slice na nn nc) (.slice oa on oc) st W) (Z : Array Value) (hz : Z.size = 17) :
    KX w W.heap.size g sa sc aa ac (.slice na nn nc) (.slice oa on oc) st ((W.alloc (.cells Z 88)).setRow W.heap.size (kC g sa sc aa ac (.slice na nn nc) (.slice oa on oc) st).toArray) := by
  have h1 := h.step ((Bl.refl W).alloc (.cells Z 88))
  have hn : (W.alloc (.cells Z 88)).heap[W.heap.size]? = some (.cells Z 88 (0, 0)) := heap_alloc_new _ _
  have hs := Below.size h.bl
  exact ⟨⟨ownsRow_setRowK h1.n hn (by decide), ownsRow_setRowK h1.o hn (by decide), h.ga, below_setRow h1.bl hs _, h.len, h.l1, h.l2, h.ol, h.olt, h.tl, h.ndl, h.gk⟩, setRow_heap _ _ _ _ _ _ hn, hs⟩
/-- numbers in memory -/
def IA (w : World) (a : Option Addr) (l : List Nat) : Prop := ∀ (i x : Nat), l[i]? = some x → ∃ b off, a = some ⟨b, off, none⟩ ∧ b < w.heap.size ∧ w.cell? ⟨b, off + i, none⟩ = some (.int .i64 (x : Int))
theorem IA.bl {w w' : World} {a : Option Addr} {l : List Nat} (h : IA w a l) (hb : Bl w w') : IA w' a l := fun i x hx => by
  obtain ⟨b, off, h1, h2, h3⟩ := h i x hx
  exact ⟨b, off, h1, Nat.lt_of_lt_of_le h2 (Below.size hb), by rw [Bl.cell hb h2]; exact h3⟩
theorem ia_of {N : Nat} {w : World} {v : Value} {l : List Nat} (h : w.ownsRow N 3 1 v l.length (l.map encI)) : ∃ a c, v = .slice a l.length c ∧ IA w a l := by
  obtain ⟨h0, ⟨rfl, h1⟩ | ⟨g', cap, cur, rfl, _, h3, h4, h5, h6, h7⟩⟩ := h
  · have : l = [] := List.length_eq_zero_iff.1 h1
    exact ⟨none, 0, by rw [h1], fun i x hx => by rw [this] at hx; simp at hx⟩
  · refine ⟨some ⟨g', 0, none⟩, cap, rfl, fun i x hx => ⟨g', 0, rfl, TA.lt_heap h3, ?_⟩⟩
    rw [Lib.cell_of_heap h3, Nat.zero_add]
    have hi : i < l.length := (List.getElem?_eq_some_iff.1 hx).1
    have h8 : (cur.toList.take (l.length * 1))[i]? = (l.map encI)[i]? := by rw [h7]
    rw [List.getElem?_take_of_lt (by omega), List.getElem?_map, hx] at h8
    simpa [encI] using h8

set_option maxRecDepth 8000 in
set_option maxHeartbeats 2000000 in
theorem Check_x (g : RC.Gr) (sa : Option Addr) (sc : Nat) (aa : Option Addr) (ac : Nat) {w W : World} (HB : Bl w W) (hg : GA W.heap.size W g sa sc aa ac) (hk : grOk g) :
    Calls Tryz.prog 21 #[.agg (gv g sa sc aa ac)] W fun e w' => e = .returned (.int .i64 (TR.chk g : Int)) ∧ Bl w w' := by
  have hz := zk_size
  have hzz : ∀ W, (zeroValue 88).run Tryz.prog W = .ok (.agg zk) W := zeroK
  have CS : Hid (∀ o, Calls Tryz.prog 39 #[.agg (gv g sa sc aa ac)] (W.alloc o) fun e w' => ∃ g' sa' sc' aa' ac' na nn nc oa on oc st, e = .returned (.tuple #[.agg (kC g' sa' sc' aa' ac' (.slice na nn nc) (.slice oa on oc) st).toArray, .int .i64 (TR.chk g : Int)]) ∧ KV W g' sa' sc' aa' ac' (.slice na nn nc) (.slice oa on oc) st w' ∧ KR g g' st) := fun o =>
    study_k g sa sc aa ac ((Bl.refl W).alloc o) hg hk
  have HB0 : Hid (Bl w W) := HB
  clear HB hg hk
  generalize TR.chk g = ck at *
  generalize zk = Z at *
  unfold gv at CS ⊢
  go_enter Tryz.func21, Tryz.ntmps21
  go_wp2_with (first
    | (go_at_call 39; refine (CS.out _).mono ?_; clear CS; rintro e w1 ⟨g', sa', sc', aa', ac', na, nn, nc, oa, on, oc, st, rfl, HV, HR⟩; have hkl := kC_size (g := g') (sa := sa') (aa := aa') (sc := sc') (ac := ac') (vn := .slice na nn nc) (vo := .slice oa on oc) HV.len; have hko := kC_one (g := g') (sa := sa') (aa := aa') (sc := sc') (ac := ac') (a1 := na) (n1 := nn) (c1 := nc) (a2 := oa) (n2 := on) (c2 := oc) (st := st); have KP : Hid _ := (HV.put Z hz).v.bl; have HN : Hid ((w1.alloc (.cells Z 88)).heap[w1.heap.size]? = some (.cells Z 88 (0, 0))) := heap_alloc_new _ _; clear HV HR; generalize (kC g' sa' sc' aa' ac' (.slice na nn nc) (.slice oa on oc) st).toArray = KC at *)
    | (refine wpList_store_row rfl 88 _ _ rfl w1.heap.size KC rfl rfl 88 Z HN.out (by rw [hkl]; exact infoK) (by rw [hkl]; exact hz) hko ?_))
  go_ret
  exact ⟨rfl, HB0.out.step KP.out⟩

theorem KR.order {g g' : RC.Gr} {st : TR.St} (h : KR g g' st) : st.order = if TR.chk g = 0 then (TR.fin g).order else [] := by
  rcases h with ⟨h, rfl, rfl⟩ | ⟨h, rfl, rfl⟩
  · rw [if_pos (TR.chk_zero.2 h)]
  · rw [if_neg h]; rfl
/-- what Order answers -/
def ordL (g : RC.Gr) : List Nat := if TR.chk g = 0 then (TR.fin g).order else []
set_option maxRecDepth 8000 in
set_option maxHeartbeats 2000000 in
theorem Order_x (g : RC.Gr) (sa : Option Addr) (sc : Nat) (aa : Option Addr) (ac : Nat) {w W : World} (HB : Bl w W) (hg : GA W.heap.size W g sa sc aa ac) (hk : grOk g) :
    Calls Tryz.prog 42 #[.agg (gv g sa sc aa ac)] W fun e w' => ∃ a c, e = .returned (.slice a (ordL g).length c) ∧ IA w' a (ordL g) ∧ Bl w w' := by
  have hz := zk_size
  have hzz : ∀ W, (zeroValue 88).run Tryz.prog W = .ok (.agg zk) W := zeroK
  have CS : Hid (∀ o, Calls Tryz.prog 39 #[.agg (gv g sa sc aa ac)] (W.alloc o) fun e w' => ∃ g' sa' sc' aa' ac' na nn nc oa on oc st, e = .returned (.tuple #[.agg (kC g' sa' sc' aa' ac' (.slice na nn nc) (.slice oa on oc) st).toArray, .int .i64 (TR.chk g : Int)]) ∧ KV W g' sa' sc' aa' ac' (.slice na nn nc) (.slice oa on oc) st w' ∧ KR g g' st) := fun o =>
    study_k g sa sc aa ac ((Bl.refl W).alloc o) hg hk
  have HB0 : Hid (Bl w W) := HB
  clear HB hg hk
  generalize zk = Z at *
  unfold gv at CS ⊢
  go_enter Tryz.func42, Tryz.ntmps42
  go_wp2_with (first
    | (go_at_call 39; refine (CS.out _).mono ?_; clear CS; rintro e w1 ⟨g', sa', sc', aa', ac', na, nn, nc, oa, on, oc, st, rfl, HV, HR⟩; have hkl := kC_size (g := g') (sa := sa') (aa := aa') (sc := sc') (ac := ac') (vn := .slice na nn nc) (vo := .slice oa on oc) HV.len; have hko := kC_one (g := g') (sa := sa') (aa := aa') (sc := sc') (ac := ac') (a1 := na) (n1 := nn) (c1 := nc) (a2 := oa) (n2 := on) (c2 := oc) (st := st); have KP : Hid _ := HV.put Z hz; have HKR : Hid _ := HR.order; have HN : Hid ((w1.alloc (.cells Z 88)).heap[w1.heap.size]? = some (.cells Z 88 (0, 0))) := heap_alloc_new _ _; have c4 := KP.out.c4; have hlt := KP.out.lt; clear HV HR; generalize (kC g' sa' sc' aa' ac' (.slice na nn nc) (.slice oa on oc) st).toArray = KC at *)
    | (refine wpList_store_row rfl 88 _ _ rfl w1.heap.size KC rfl rfl 88 Z HN.out (by rw [hkl]; exact infoK) (by rw [hkl]; exact hz) hko ?_))
  go_ret
  obtain ⟨a, c, e1, e2⟩ := ia_of KP.out.v.o
  have e3 : st.order = ordL g := HKR.out
  rw [e3] at e1 e2
  exact ⟨a, c, by rw [← e1]; rfl, e2, HB0.out.step KP.out.v.bl⟩
end Go.Proofs.YtjbffhdccgmfpaaGreatDoor
