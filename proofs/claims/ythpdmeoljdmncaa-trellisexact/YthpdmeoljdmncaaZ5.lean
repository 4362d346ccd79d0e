/- trellis: take. -/
import Derived.Test.YthpdmeoljdmncaaZ4
import Derived.Deep.AppendLies
namespace Go.Proofs.Ythpdmeoljdmncaa
open Go.RowKit
set_option linter.unusedVariables false
set_option linter.unusedSimpArgs false

/-- a number is appended to a row of one's own -/
theorem wl_appI {ops : Array Oper} {rest : List Oper} {o : Oper} {a : Act} {w : World} {Q : Exit → Act → World → Prop} (hgd : o.guard = none) (s x : Operand)
    (ho : o.op = .call { callee := .builtin .append, args := #[s, x], argTypes := #[31, 31] }) (base : Nat) (ks : List Nat) (v : Value) (hs : a.eval s = v) (hown : w.ownsRow base 3 1 v ks.length (ks.map encI))
    (g0 p : Nat) (hx : a.eval x = .slice (some ⟨g0, 0, none⟩) 1 1) (hc : w.cell? ⟨g0, 0, none⟩ = some (encI p)) (hbase : base ≤ w.heap.size) (hn : ks.length ≤ 100000)
    (h : ∀ a' c' w', w'.ownsRow base 3 1 (.slice a' (ks ++ [p]).length c') (ks ++ [p]).length ((ks ++ [p]).map encI) → w.grownBy w' v.ownBlock → wpList Try.prog ops Q rest (a.put o.dst (.slice a' (ks ++ [p]).length c')) w') : wpList Try.prog ops Q (o :: rest) a w := by
  obtain ⟨i0, hi0, hz0, hz1, hz2⟩ := TA.info_partsT (show (Try.prog.info? 3).map (fun i => (i.zero, i.size, i.bytes)) = some (some (.int .i64 0), 1, 8) by kernel_rfl)
  refine wpList_append_lies _ hgd s x 31 ho base 3 i0 (.int .i64 0) 1 8 Try.underlying31 hi0 hz0 hz1 hz2 rfl (by decide) v ks.length (ks.map encI) hs hown ⟨g0, 0, none⟩ 1 1 [encI p] hx rfl (fun j u hu => ?_) (fun u hu => by simp at hu; subst hu; rfl) (by decide) (by unfold maxLen; omega) (by omega) hbase w.heap.size rfl (fun g cap w' h1 h2 h3 h4 => ?_)
  · rcases j with _ | j
    · cases hu; exact hc
    · simp at hu
  · have e : (ks ++ [p]).length = ks.length + 1 := by simp
    have e2 : (ks ++ [p]).map encI = ks.map encI ++ [encI p] := by simp
    have := h (some ⟨g, 0, none⟩) cap w'
    rw [e, e2] at this
    exact this h1 h2
theorem ownsRow_setK {B n k b i : Nat} {e T : TypeId} {v u : Value} {xs : List Value} {w : World} {C : Array Value} {fr : Nat × Nat} (h : w.ownsRow B e k v n xs) (hb : w.heap[b]? = some (.cells C T fr)) (hne : e ≠ T) : (w.setCell ⟨b, i, none⟩ u).ownsRow B e k v n xs := by
  obtain ⟨h0, h1 | ⟨g', cap, cur, h1, h2, h3, h4⟩⟩ := h
  · exact ⟨h0, Or.inl h1⟩
  · refine ⟨h0, Or.inr ⟨g', cap, cur, h1, h2, ?_, h4⟩⟩
    rw [heap_setCell_otherR]
    · exact h3
    · intro e2
      subst e2
      rw [hb] at h3
      simp only [Option.some.injEq, Obj.cells.injEq] at h3
      exact hne h3.2.1.symm
section
variable {w W : World} {b : Nat} {g : RC.Gr} {sa aa : Option Addr} {sc ac : Nat} {vn vo : Value} {st : TR.St}
theorem KX.blS (h : KX w b g sa sc aa ac vn vo st W) (i : Nat) (u : Value) : Bl w (W.setCell ⟨b, i, none⟩ u) := Below.setCell h.v.bl h.wb _
theorem KX.setN (h : KX w b g sa sc aa ac vn vo st W) (p v : Nat) (hp : p < 12) (hv : v < 4294967296) : KX w b g sa sc aa ac vn vo ⟨st.there, st.order, st.needs.set p v⟩ (W.setCell ⟨b, 5 + p, none⟩ (su v)) := by
  refine ⟨⟨ownsRow_setK h.v.n h.blk (by decide), ownsRow_setK h.v.o h.blk (by decide), h.v.ga, h.blS _ _, by simp [h.v.len], h.v.l1, h.v.l2, h.v.ol, h.v.olt, h.v.tl, fun o => ?_, h.v.gk⟩, ?_, h.wb⟩
  · rw [TR.ndAt_set (by rw [h.v.len]; exact hp)]
    split
    · exact hv
    · exact h.v.ndl o
  · rw [heap_setCell_rowR h.blk]
    congr 2
    rw [List.setIfInBounds_toArray]
    congr 1
    unfold kC
    rw [List.set_append_right _ _ (by simp)]
    simp [List.map_set]
theorem KX.setT (h : KX w b g sa sc aa ac vn vo st W) (v : Nat) (hv : v < 4294967296) : KX w b g sa sc aa ac vn vo ⟨v, st.order, st.needs⟩ (W.setCell ⟨b, 3, none⟩ (su v)) := by
  refine ⟨⟨ownsRow_setK h.v.n h.blk (by decide), ownsRow_setK h.v.o h.blk (by decide), h.v.ga, h.blS _ _, h.v.len, h.v.l1, h.v.l2, h.v.ol, h.v.olt, hv, h.v.ndl, h.v.gk⟩, ?_, h.wb⟩
  rw [heap_setCell_rowR h.blk]
  rfl
theorem KX.setO (h : KX w b g sa sc aa ac vn vo st W) {W1 w8 : World} (hb : Bl W W1) (p : Nat) (v' : Value) (hp : p < 12) (hl : st.order.length < 12) (ho : w8.ownsRow w.heap.size 3 1 v' (st.order ++ [p]).length ((st.order ++ [p]).map encI)) (hg : W1.grownBy w8 vo.ownBlock) :
    KX w b g sa sc aa ac vn v' ⟨st.there, st.order ++ [p], st.needs⟩ (w8.setCell ⟨b, 4, none⟩ v') ∧ w8.cell? ⟨b, 4, none⟩ = some vo ∧ w8.frozen? ⟨b, 4, none⟩ = false := by
  have h1 := h.step hb
  have hne : some b ≠ vo.ownBlock := fun e => by
    obtain ⟨_, ⟨rfl, _⟩ | ⟨g', cap, cur, rfl, _, h3, _⟩⟩ := h1.v.o
    · cases e
    · simp only [Value.ownBlock, Option.some.injEq] at e
      subst e
      have h4 := h1.blk
      rw [h3] at h4
      simp only [Option.some.injEq, Obj.cells.injEq] at h4
      exact absurd h4.2.1 (by decide)
  have hblk : w8.heap[b]? = some (.cells (kC g sa sc aa ac vn vo st).toArray 53 (0, 0)) := by rw [hg.block b (TA.lt_heap h1.blk) hne]; exact h1.blk
  have hz : w.heap.size ≤ W1.heap.size := Below.size h1.v.bl
  have hB : Below w.heap.size w w8 := Below.grown h1.v.bl hg hz (fun k hk => (TA.owns_ge h1.v.o hk).1)
  refine ⟨⟨⟨ownsRow_setK (ownsRow_grown h1.v.n h1.v.o (by decide) hg) hblk (by decide), ownsRow_setK ho hblk (by decide), h.v.ga, hB.setCell h.wb _, h.v.len, h.v.l1, h.v.l2, by simp; omega, fun x hx => ?_, h.v.tl, h.v.ndl, h.v.gk⟩, ?_, h.wb⟩, by rw [Lib.cell_of_heap hblk]; rfl, by simp [World.frozen?, hblk]⟩
  · rcases List.mem_append.1 hx with h' | h'
    · exact h.v.olt x h'
    · simp at h'; omega
  · rw [heap_setCell_rowR hblk]
    rfl
/-- the order's places -/
theorem KX.os (h : KX w b g sa sc aa ac vn vo st W) : ∃ oa oc, vo = .slice oa st.order.length oc ∧ ∀ (i x : Nat), st.order[i]? = some x → ∃ b2 off, oa = some ⟨b2, off, none⟩ ∧ W.cell? ⟨b2, off + i, none⟩ = some (.int .i64 (x : Int)) := by
  obtain ⟨h0, ⟨rfl, h1⟩ | ⟨g', cap, cur, rfl, _, h3, h4, h5, h6, h7⟩⟩ := h.v.o
  · have : st.order = [] := List.length_eq_zero_iff.1 h1
    exact ⟨none, 0, by rw [h1], fun i x hx => by rw [this] at hx; simp at hx⟩
  · refine ⟨some ⟨g', 0, none⟩, cap, rfl, fun i x hx => ⟨g', 0, rfl, ?_⟩⟩
    rw [Lib.cell_of_heap h3, Nat.zero_add]
    have hi : i < st.order.length := (List.getElem?_eq_some_iff.1 hx).1
    have h8 : (cur.toList.take (st.order.length * 1))[i]? = (st.order.map encI)[i]? := by rw [h7]
    rw [List.getElem?_take_of_lt (by omega), List.getElem?_map, hx] at h8
    simpa [encI] using h8
end
set_option maxRecDepth 8000 in
set_option maxHeartbeats 4000000 in
theorem take_x {w W : World} {b : Nat} {g : RC.Gr} {sa aa : Option Addr} {sc ac : Nat} {vn vo : Value} {st : TR.St} (h : KX w b g sa sc aa ac vn vo st W) (p : Nat) (hp : p < g.2.length) (hfit : st.order.length < 12) :
    Calls Try.prog 61 #[.pointer (some ⟨b, 0, none⟩), .int .i64 (p : Int)] W fun e w' => e = .returned (.tuple #[]) ∧ ∃ vo', KX w b g sa sc aa ac vn vo' (TR.take g st p) w' := by
  have hl1 := h.v.l1
  have hl2 := h.v.l2
  obtain ⟨t, ht⟩ : ∃ t, g.2[p]? = some t := ⟨g.2[p], List.getElem?_eq_getElem hp⟩
  obtain ⟨ab, off, x, c, rfl, hab, hr, hs⟩ := h.gaW.a p t ht
  have hins := TR.insO_of ht
  obtain ⟨oa, oc, rfl, hos⟩ := h.os
  have hcin : W.cell? ⟨ab, off + p * 3 + 1, none⟩ = some (.slice x t.2.1.length c) := hr 1 _ rfl
  have h1 := h.c1
  have h4 := h.c4
  have hbl := h.lt
  have hfz := h.fz (5 + p)
  have hcp := h.cn (show p < 12 by omega)
  have hgl : t.2.1.length ≤ maxLen := (h.v.gk.b t (List.mem_of_getElem? ht)).2.1
  have C1 : Hid (Calls Try.prog 33 #[.pointer (some ⟨b, 0, none⟩), .slice x t.2.1.length c] W fun e w' => e = .returned (su (TR.setOf (TR.nm g) (TR.insO g p))) ∧ w' = W) := by
    show Calls _ _ _ _ _
    rw [hins]
    exact setOf_at h t.2.1 x c (Strs.sa hs).2 hgl
  have HOS : Hid (∀ (i x : Nat), st.order[i]? = some x → ∃ b2 off, oa = some ⟨b2, off, none⟩ ∧ W.cell? ⟨b2, off + i, none⟩ = some (.int .i64 (x : Int))) := hos
  have CNUM : Hid (∀ q : Nat, q < 12 → Calls Try.prog 38 #[.pointer (some ⟨b, 0, none⟩), .int .i64 (q : Int)] W fun e w' => e = .returned (.int .i64 ((g.1.length + q : Nat) : Int)) ∧ w' = W) := fun q hq => number_at h q hq
  have hil : TR.setOf (TR.nm g) (TR.insO g p) < 4294967296 := h.v.set_lt _
  have HND : Hid (∀ o, o < 12 → W.cell? ⟨b, 5 + o, none⟩ = some (su (TR.ndAt st.needs o))) := fun o ho => h.cn ho
  have HNL : Hid (∀ o, TR.ndAt st.needs o < 4294967296) := h.v.ndl
  have HOL : Hid (∀ x ∈ st.order, x < 12) := h.v.olt
  have HFL : Hid (∀ k, (st.order.take k).foldl (TR.needF g (TR.setOf (TR.nm g) (TR.insO g p)) st.needs) (TR.setOf (TR.nm g) (TR.insO g p)) < 4294967296) := fun k =>
    TR.needF_lt g _ _ 32 h.v.ndl _ _ hil
  have K1 : Hid (∀ v, v < 4294967296 → KX w b g sa sc (some ⟨ab, off, none⟩) ac vn (.slice oa st.order.length oc) ⟨st.there, st.order, st.needs.set p v⟩ (W.setCell ⟨b, 5 + p, none⟩ (su v))) := fun v hv => h.setN p v (by omega) hv
  have HTK : Hid (∀ v, v = TR.needN g st p → TR.take g st p = ⟨st.there ||| 2 ^ (g.1.length + p), st.order ++ [p], st.needs.set p v⟩) := fun v hv => by rw [hv]; rfl
  have HNN : Hid ((st.order.take st.order.length).foldl (TR.needF g (TR.setOf (TR.nm g) (TR.insO g p)) st.needs) (TR.setOf (TR.nm g) (TR.insO g p)) = TR.needN g st p) := by
    show _ = _
    rw [List.take_length]; rfl
  have hwl : w.heap.size ≤ b := h.wb
  clear h hs hr ht hins hos hgl hcp
  generalize TR.setOf (TR.nm g) (TR.insO g p) = ins at *
  go_enter Try.func61, Try.ntmps61
  go_wp2_with (go_at_call 33; refine C1.out.mono ?_; clear C1; rintro e w' ⟨rfl, hw'⟩; rw [hw']; clear hw' w')
  go_loop [5, 7, 25] (fun u5 u7 u25 => ∃ k : Nat, k ≤ st.order.length ∧ u25 = .int .i64 k ∧ u5 = su ((st.order.take k).foldl (TR.needF g ins st.needs) ins)) (fun _ _ u25 => st.order.length - (intOf u25).toNat)
  case atStart => exact ⟨0, Nat.zero_le _, rfl, rfl⟩
  case round =>
    obtain ⟨k, hk, rfl, rfl⟩ := hrel
    by_cases hlt : k < st.order.length
    · obtain ⟨o, ho⟩ : ∃ o, st.order[k]? = some o := ⟨st.order[k], List.getElem?_eq_getElem hlt⟩
      obtain ⟨b2, off2, rfl, hc⟩ := HOS.out k o ho
      have ho12 := HOL.out o (List.mem_of_getElem? ho)
      have hfl := HFL.out k
      have hcn := HND.out o ho12
      have hnl := HNL.out o
      have hst : (st.order.take (k + 1)).foldl (TR.needF g ins st.needs) ins = TR.needF g ins st.needs ((st.order.take k).foldl (TR.needF g ins st.needs) ins) o := by
        rw [List.take_add_one, ho, List.foldl_append]; rfl
      generalize (st.order.take k).foldl (TR.needF g ins st.needs) ins = acc at *
      have CN : Hid (Calls Try.prog 38 #[.pointer (some ⟨b, 0, none⟩), .int .i64 (o : Int)] W fun e w' => e = .returned (.int .i64 ((g.1.length + o : Nat) : Int)) ∧ w' = W) := CNUM.out o ho12
      obtain ⟨q, hq⟩ : ∃ q, ins.testBit (g.1.length + o) = q := ⟨_, rfl⟩
      have CH : Hid (Calls Try.prog 37 #[su ins, .int .i64 ((g.1.length + o : Nat) : Int)] W fun e w' => e = .returned (.bool q) ∧ w' = W) := by
        show Calls _ _ _ _ _
        rw [← hq]; exact has_at ins (g.1.length + o) hil (by omega) W
      generalize hM : g.1.length + o = M at *
      have hor := si_or hfl hnl
      cases q
      · have HST : Hid ((st.order.take (k + 1)).foldl (TR.needF g ins st.needs) ins = acc) := by
          show _ = _
          rw [hst]; unfold TR.needF; rw [hM, hq]; rfl
        clear hst ho hq hM
        go_wp2_with (first
          | (go_at_call 38; refine CN.out.mono ?_; rintro e w' ⟨rfl, hw'⟩; rw [hw']; clear hw' w')
          | (go_at_call 37; refine CH.out.mono ?_; rintro e w' ⟨rfl, hw'⟩; rw [hw']; clear hw' w'))
        go_round
        case rel => exact ⟨k + 1, by omega, by go_num, by rw [HST.out]⟩
        case measure => simp [intOf]; omega
      · have HST : Hid ((st.order.take (k + 1)).foldl (TR.needF g ins st.needs) ins = acc ||| TR.ndAt st.needs o) := by
          show _ = _
          rw [hst]; unfold TR.needF; rw [hM, hq]; rfl
        clear hst ho hq hM
        generalize TR.ndAt st.needs o = nd at *
        go_wp2_with (first
          | (go_at_call 38; refine CN.out.mono ?_; rintro e w' ⟨rfl, hw'⟩; rw [hw']; clear hw' w')
          | (go_at_call 37; refine CH.out.mono ?_; rintro e w' ⟨rfl, hw'⟩; rw [hw']; clear hw' w'))
        go_round
        case rel => exact ⟨k + 1, by omega, by go_num, by rw [HST.out]⟩
        case measure => simp [intOf]; omega
    · obtain rfl : k = st.order.length := by omega
      have hv0 := HFL.out st.order.length
      generalize (st.order.take st.order.length).foldl (TR.needF g ins st.needs) ins = nv at *
      have HT : Hid (TR.take g st p = ⟨st.there ||| 2 ^ (g.1.length + p), st.order ++ [p], st.needs.set p nv⟩) := HTK.out nv HNN.out
      have K2 := K1.out nv hv0
      have hcp := HND.out p (by omega)
      clear HTK HNN K1 HFL HNL HOL HND CNUM HOS
      go_wp2_with fail
      generalize W.setCell ⟨b, 5 + p, none⟩ (su nv) = W1 at *
      have h3 := K2.c3
      have f3 := K2.fz 3
      have hb1 := K2.lt
      simp only [] at h3
      have CN2 : Hid (Calls Try.prog 38 #[.pointer (some ⟨b, 0, none⟩), .int .i64 (p : Int)] W1.drew fun e w' => e = .returned (.int .i64 ((g.1.length + p : Nat) : Int)) ∧ w' = W1.drew) := number_at (K2.step ((Bl.refl W1).drewN 1)) p (by omega)
      have hth := K2.v.tl
      simp only [] at hth
      have hml : 2 ^ (g.1.length + p) < 4294967296 := Nat.lt_of_le_of_lt (Nat.pow_le_pow_right (by omega) (show g.1.length + p ≤ 20 by omega)) (by decide)
      have hsh := si_shl hml
      have hsh2 : IntKind.u32.wrap ((2 : Int) ^ (g.1.length + p)) = si (2 ^ (g.1.length + p)) := by rw [IntKind.wrap_u32']; exact hsh
      have hor := si_or hth hml
      have hM31 : g.1.length + p ≤ 31 := by omega
      have K3 : Hid (KX w b g sa sc (some ⟨ab, off, none⟩) ac vn (.slice oa st.order.length oc) ⟨st.there ||| 2 ^ (g.1.length + p), st.order, st.needs.set p nv⟩ ((W1.setCell ⟨b, 3, none⟩ (su (st.there ||| 2 ^ (g.1.length + p)))).drew)) :=
        (K2.setT _ (Nat.or_lt_two_pow (n := 32) hth hml)).step ((Bl.refl _).drewN 1)
      clear K2
      generalize g.1.length + p = MM at *
      generalize hTH : st.there ||| 2 ^ MM = TH at *
      generalize st.there = th at *
      refine wp_region_noPanic ?_
      refine wp_region_held_drew (S := fun _ => True) (by kernel_rfl) (trivial) (fun hHeld => ?_)
      refine wpAnyH_take (i := 0) rfl (by kernel_rfl) (by kernel_rfl) (by kernel_rfl) (fun _ _ _ h => h) (yi_move (by kernel_rfl) rfl rfl) (by assumption) ?_
      simp only [Act.put, List.getElem_toArray, List.getElem_cons_succ, List.getElem_cons_zero, List.setIfInBounds_toArray, List.set_cons_zero, List.set_cons_succ]
      refine wpAnyH_take (i := 1) (v := ?_) rfl (by kernel_rfl) (by kernel_rfl) (by kernel_rfl) (fun _ _ _ h => h) (Or.inl ⟨by kernel_rfl, ?_⟩) (by assumption) ?_
      rotate_left
      · (intro w hSw; (try dsimp only at hSw); go_simp; (try with_reducible rfl))
      simp only [Act.put, List.getElem_toArray, List.getElem_cons_succ, List.getElem_cons_zero, List.setIfInBounds_toArray, List.set_cons_zero, List.set_cons_succ]
      refine wpAnyH_take (i := 2) (v := ?_) rfl (by kernel_rfl) (by kernel_rfl) (by kernel_rfl) (fun _ _ _ h => h) (Or.inl ⟨by kernel_rfl, ?_⟩) (by assumption) ?_
      rotate_left
      · (intro w hSw; (try dsimp only at hSw); go_simp; (try with_reducible rfl))
      simp only [Act.put, List.getElem_toArray, List.getElem_cons_succ, List.getElem_cons_zero, List.setIfInBounds_toArray, List.set_cons_zero, List.set_cons_succ]
      refine wpAnyH_take (i := 4) rfl (by kernel_rfl) (by kernel_rfl) (by kernel_rfl) (fun _ _ _ h => h) (yi_move (by kernel_rfl) rfl rfl) (by assumption) ?_
      simp only [Act.put, List.getElem_toArray, List.getElem_cons_succ, List.getElem_cons_zero, List.setIfInBounds_toArray, List.set_cons_zero, List.set_cons_succ]
      refine wpAnyH_take (i := 5) rfl (by kernel_rfl) (by kernel_rfl) (by kernel_rfl) (fun _ _ _ h => h) (yi_move (by kernel_rfl) rfl rfl) (by assumption) ?_
      simp only [Act.put, List.getElem_toArray, List.getElem_cons_succ, List.getElem_cons_zero, List.setIfInBounds_toArray, List.set_cons_zero, List.set_cons_succ]
      refine wpAnyH_ready (rs := [3, 6]) (by kernel_rfl) (by simp) ?_
      refine AllReadyH.cons (o := _) rfl (fun K hK => ?_) ?_
      · go_simp
        refine hK.out _ _ (trivial) (fun hHeld => ?_)
        clear hK K
        (try simp only [Act.put, List.getElem_toArray, List.getElem_cons_succ, List.getElem_cons_zero, List.setIfInBounds_toArray, List.set_cons_zero, List.set_cons_succ])
        refine wpAnyH_ready (rs := [6]) (by kernel_rfl) (by simp) ?_
        refine AllReadyH.cons (o := _) rfl (fun K hK => ?_) AllReadyH.nil
        go_simp
        go_at_call 38; refine CN2.out.mono ?_; rintro e w' ⟨rfl, hw'⟩; rw [hw']; clear hw' w'
        refine hK.out _ _ (trivial) (fun hHeld => ?_)
        clear hK K
        (try simp only [Act.put, List.getElem_toArray, List.getElem_cons_succ, List.getElem_cons_zero, List.setIfInBounds_toArray, List.set_cons_zero, List.set_cons_succ])
        refine wpAnyH_take (i := 7) (v := ?_) rfl (by kernel_rfl) (by kernel_rfl) (by kernel_rfl) (fun _ _ _ h => h) (Or.inl ⟨by kernel_rfl, ?_⟩) (by assumption) ?_
        rotate_left
        · (intro w hSw; (try dsimp only at hSw); go_simp; (try with_reducible rfl))
        simp only [Act.put, List.getElem_toArray, List.getElem_cons_succ, List.getElem_cons_zero, List.setIfInBounds_toArray, List.set_cons_zero, List.set_cons_succ]
        refine wpAnyH_take (i := 8) (v := ?_) rfl (by kernel_rfl) (by kernel_rfl) (by kernel_rfl) (fun _ _ _ h => h) (Or.inl ⟨by kernel_rfl, ?_⟩) (by assumption) ?_
        rotate_left
        · (intro w hSw; (try dsimp only at hSw); go_simp; (try with_reducible rfl))
        simp only [Act.put, List.getElem_toArray, List.getElem_cons_succ, List.getElem_cons_zero, List.setIfInBounds_toArray, List.set_cons_zero, List.set_cons_succ]
        refine wpAnyH_take (i := 9) (v := ?_) rfl (by kernel_rfl) (by kernel_rfl) (by kernel_rfl) (fun _ _ _ h => h) (Or.inl ⟨by kernel_rfl, ?_⟩) (by assumption) ?_
        rotate_left
        · (intro w hSw; (try dsimp only at hSw); go_simp; (try with_reducible rfl))
        simp only [Act.put, List.getElem_toArray, List.getElem_cons_succ, List.getElem_cons_zero, List.setIfInBounds_toArray, List.set_cons_zero, List.set_cons_succ]
        refine wpAnyH_take (i := 10) (v := ?_) rfl (by kernel_rfl) (by kernel_rfl) (by kernel_rfl) (fun _ _ _ h => h) (Or.inl ⟨by kernel_rfl, ?_⟩) (by assumption) ?_
        rotate_left
        · (intro w hSw; (try dsimp only at hSw); go_simp; (try with_reducible rfl))
        simp only [Act.put, List.getElem_toArray, List.getElem_cons_succ, List.getElem_cons_zero, List.setIfInBounds_toArray, List.set_cons_zero, List.set_cons_succ]
        refine wpAnyH_ready (rs := [11]) (by kernel_rfl) (by simp) ?_
        refine AllReadyH.cons (o := _) rfl (fun K hK => ?_) AllReadyH.nil
        go_simp
        refine hK.out _ _ (trivial) (fun hHeld => ?_)
        clear hK K
        (try simp only [Act.put, List.getElem_toArray, List.getElem_cons_succ, List.getElem_cons_zero, List.setIfInBounds_toArray, List.set_cons_zero, List.set_cons_succ])
        refine wpAnyH_done (by kernel_rfl) ?_ _
        refine NoPanic.normal ?_
        generalize (W1.setCell ⟨b, 3, none⟩ (su TH)).drew = W2 at *
        have c4 := K3.out.c4
        have hb2 := K3.out.lt
        have OWN : Hid ((W2.alloc (.cells #[.int .i64 (p : Int)] 3)).ownsRow w.heap.size 3 1 (.slice oa st.order.length oc) st.order.length (st.order.map encI)) := (K3.out.step ((Bl.refl W2).alloc _)).v.o
        have hws : w.heap.size ≤ (W2.alloc (.cells #[.int .i64 (p : Int)] 3)).heap.size := by simp; omega
        have NEW : Hid ((W2.alloc (.cells #[.int .i64 (p : Int)] 3)).cell? ⟨W2.heap.size, 0, none⟩ = some (encI p)) := by
          show _ = _
          rw [Lib.cell_of_heap (heap_alloc_new W2 _)]; rfl
        have FIN : Hid (∀ v' w8, w8.ownsRow w.heap.size 3 1 v' (st.order ++ [p]).length ((st.order ++ [p]).map encI) → (W2.alloc (.cells #[.int .i64 (p : Int)] 3)).grownBy w8 (Value.slice oa st.order.length oc).ownBlock → KX w b g sa sc (some ⟨ab, off, none⟩) ac vn v' ⟨TH, st.order ++ [p], st.needs.set p nv⟩ (w8.setCell ⟨b, 4, none⟩ v') ∧ w8.cell? ⟨b, 4, none⟩ = some (.slice oa st.order.length oc) ∧ w8.frozen? ⟨b, 4, none⟩ = false) := fun v' w8 ho hg =>
          K3.out.setO ((Bl.refl W2).alloc _) p v' (by omega) hfit ho hg
        clear K3
        go_wp2_with (refine wl_appI rfl _ _ rfl w.heap.size st.order (.slice oa st.order.length oc) rfl OWN.out W2.heap.size p rfl NEW.out hws (by omega) (fun a' c' w8 ho8 hg8 => ?_); obtain ⟨HK8, c8, f8⟩ := FIN.out _ _ ho8 hg8; clear FIN OWN NEW ho8 hg8)
        refine bodyPost_end (results_none rfl _ _ _) rfl ?_
        rw [List.length_append] at HK8
        exact ⟨rfl, _, by rw [HT.out]; exact HK8⟩
      refine AllReadyH.cons (o := _) rfl (fun K hK => ?_) ?_
      · go_simp
        go_at_call 38; refine CN2.out.mono ?_; rintro e w' ⟨rfl, hw'⟩; rw [hw']; clear hw' w'
        refine hK.out _ _ (trivial) (fun hHeld => ?_)
        clear hK K
        (try simp only [Act.put, List.getElem_toArray, List.getElem_cons_succ, List.getElem_cons_zero, List.setIfInBounds_toArray, List.set_cons_zero, List.set_cons_succ])
        refine wpAnyH_take (i := 7) (v := ?_) rfl (by kernel_rfl) (by kernel_rfl) (by kernel_rfl) (fun _ _ _ h => h) (Or.inl ⟨by kernel_rfl, ?_⟩) (by assumption) ?_
        rotate_left
        · (intro w hSw; (try dsimp only at hSw); go_simp; (try with_reducible rfl))
        simp only [Act.put, List.getElem_toArray, List.getElem_cons_succ, List.getElem_cons_zero, List.setIfInBounds_toArray, List.set_cons_zero, List.set_cons_succ]
        refine wpAnyH_ready (rs := [3]) (by kernel_rfl) (by simp) ?_
        refine AllReadyH.cons (o := _) rfl (fun K hK => ?_) AllReadyH.nil
        go_simp
        refine hK.out _ _ (trivial) (fun hHeld => ?_)
        clear hK K
        (try simp only [Act.put, List.getElem_toArray, List.getElem_cons_succ, List.getElem_cons_zero, List.setIfInBounds_toArray, List.set_cons_zero, List.set_cons_succ])
        refine wpAnyH_take (i := 8) (v := ?_) rfl (by kernel_rfl) (by kernel_rfl) (by kernel_rfl) (fun _ _ _ h => h) (Or.inl ⟨by kernel_rfl, ?_⟩) (by assumption) ?_
        rotate_left
        · (intro w hSw; (try dsimp only at hSw); go_simp; (try with_reducible rfl))
        simp only [Act.put, List.getElem_toArray, List.getElem_cons_succ, List.getElem_cons_zero, List.setIfInBounds_toArray, List.set_cons_zero, List.set_cons_succ]
        refine wpAnyH_take (i := 9) (v := ?_) rfl (by kernel_rfl) (by kernel_rfl) (by kernel_rfl) (fun _ _ _ h => h) (Or.inl ⟨by kernel_rfl, ?_⟩) (by assumption) ?_
        rotate_left
        · (intro w hSw; (try dsimp only at hSw); go_simp; (try with_reducible rfl))
        simp only [Act.put, List.getElem_toArray, List.getElem_cons_succ, List.getElem_cons_zero, List.setIfInBounds_toArray, List.set_cons_zero, List.set_cons_succ]
        refine wpAnyH_take (i := 10) (v := ?_) rfl (by kernel_rfl) (by kernel_rfl) (by kernel_rfl) (fun _ _ _ h => h) (Or.inl ⟨by kernel_rfl, ?_⟩) (by assumption) ?_
        rotate_left
        · (intro w hSw; (try dsimp only at hSw); go_simp; (try with_reducible rfl))
        simp only [Act.put, List.getElem_toArray, List.getElem_cons_succ, List.getElem_cons_zero, List.setIfInBounds_toArray, List.set_cons_zero, List.set_cons_succ]
        refine wpAnyH_ready (rs := [11]) (by kernel_rfl) (by simp) ?_
        refine AllReadyH.cons (o := _) rfl (fun K hK => ?_) AllReadyH.nil
        go_simp
        refine hK.out _ _ (trivial) (fun hHeld => ?_)
        clear hK K
        (try simp only [Act.put, List.getElem_toArray, List.getElem_cons_succ, List.getElem_cons_zero, List.setIfInBounds_toArray, List.set_cons_zero, List.set_cons_succ])
        refine wpAnyH_done (by kernel_rfl) ?_ _
        refine NoPanic.normal ?_
        generalize (W1.setCell ⟨b, 3, none⟩ (su TH)).drew = W2 at *
        have c4 := K3.out.c4
        have hb2 := K3.out.lt
        have OWN : Hid ((W2.alloc (.cells #[.int .i64 (p : Int)] 3)).ownsRow w.heap.size 3 1 (.slice oa st.order.length oc) st.order.length (st.order.map encI)) := (K3.out.step ((Bl.refl W2).alloc _)).v.o
        have hws : w.heap.size ≤ (W2.alloc (.cells #[.int .i64 (p : Int)] 3)).heap.size := by simp; omega
        have NEW : Hid ((W2.alloc (.cells #[.int .i64 (p : Int)] 3)).cell? ⟨W2.heap.size, 0, none⟩ = some (encI p)) := by
          show _ = _
          rw [Lib.cell_of_heap (heap_alloc_new W2 _)]; rfl
        have FIN : Hid (∀ v' w8, w8.ownsRow w.heap.size 3 1 v' (st.order ++ [p]).length ((st.order ++ [p]).map encI) → (W2.alloc (.cells #[.int .i64 (p : Int)] 3)).grownBy w8 (Value.slice oa st.order.length oc).ownBlock → KX w b g sa sc (some ⟨ab, off, none⟩) ac vn v' ⟨TH, st.order ++ [p], st.needs.set p nv⟩ (w8.setCell ⟨b, 4, none⟩ v') ∧ w8.cell? ⟨b, 4, none⟩ = some (.slice oa st.order.length oc) ∧ w8.frozen? ⟨b, 4, none⟩ = false) := fun v' w8 ho hg =>
          K3.out.setO ((Bl.refl W2).alloc _) p v' (by omega) hfit ho hg
        clear K3
        go_wp2_with (refine wl_appI rfl _ _ rfl w.heap.size st.order (.slice oa st.order.length oc) rfl OWN.out W2.heap.size p rfl NEW.out hws (by omega) (fun a' c' w8 ho8 hg8 => ?_); obtain ⟨HK8, c8, f8⟩ := FIN.out _ _ ho8 hg8; clear FIN OWN NEW ho8 hg8)
        refine bodyPost_end (results_none rfl _ _ _) rfl ?_
        rw [List.length_append] at HK8
        exact ⟨rfl, _, by rw [HT.out]; exact HK8⟩
      exact AllReadyH.nil

end Go.Proofs.Ythpdmeoljdmncaa
