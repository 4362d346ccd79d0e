/- HazeFinds' walk. -/
import Derived.Test.YtokicaacllaijaaHzT
namespace Go.Proofs.Ytokicaacllaijaa
open Go.RowKit
set_option linter.unusedVariables false
set_option linter.unusedSimpArgs false
attribute [local go_sem ↓] zeroH zeroD

/-- memory as it was but for one box, and new blocks that lie there -/
structure HG (V : World) (g : Nat) (C : Array Value) (U : World) (L : List (Nat × Obj)) : Prop where
  of1 : Of1 g V U
  box : U.heap[g]? = some (.cells C tH (0, 0))
  at' : ∀ p ∈ L, p.1 ≠ g ∧ U.heap[p.1]? = some p.2
theorem HG.drew {V U : World} {g : Nat} {C : Array Value} {L : List (Nat × Obj)} (h : HG V g C U L) : HG V g C U.drew L := ⟨⟨h.of1.os, h.of1.tape, h.of1.output, h.of1.size, h.of1.block⟩, h.box, fun p hp => h.at' p hp⟩
theorem HG.step {V U W : World} {g : Nat} {C : Array Value} {L : List (Nat × Obj)} (h : HG V g C U L) (b : Bl U W) : HG V g C W L := ⟨h.of1.trans (Of1.of_bl b), b.heap h.box, fun p hp => ⟨(h.at' p hp).1, b.heap (h.at' p hp).2⟩⟩
theorem HG.al {V U : World} {g : Nat} {C : Array Value} {L : List (Nat × Obj)} (h : HG V g C U L) (o : Obj) : HG V g C (U.alloc o) ((U.heap.size, o) :: L) :=
  ⟨h.of1.trans (Of1.of_bl ((Bl.refl U).alloc o)), ((Bl.refl U).alloc o).heap h.box, fun p hp => by
    rcases List.mem_cons.1 hp with rfl | hp
    · exact ⟨fun e => by have := lt_heap h.box; simp at e; omega, heap_alloc_new U o⟩
    · exact ⟨(h.at' p hp).1, ((Bl.refl U).alloc o).heap (h.at' p hp).2⟩⟩
theorem HG.get {V U : World} {g : Nat} {C : Array Value} {L : List (Nat × Obj)} (h : HG V g C U L) {b : Nat} {o : Obj} (hm : (b, o) ∈ L) : U.heap[b]? = some o := (h.at' _ hm).2
theorem HG.st {V U W : World} {g : Nat} {C C' : Array Value} {L : List (Nat × Obj)} (h : HG V g C U L) (hO : Of1 g U W) (hW : W.heap[g]? = some (.cells C' tH (0, 0))) : HG V g C' W [] := ⟨h.of1.trans hO, hW, fun p hp => by cases hp⟩
theorem Of1.range {g : Nat} {w0 w : World} (h : Of1 g w0 w) {b o : Nat} {L : List Value} (hb : b < w0.heap.size) (hne : b ≠ g) (hr : w0.rangeAt b o L) : w.rangeAt b o L := fun j v hv => by
  rw [World.cell?_of_block (w := w0) (h.block b hb hne)]; exact hr j v hv
theorem Of1.heap {g : Nat} {w0 w : World} (h : Of1 g w0 w) {b : Nat} {o : Obj} (hne : b ≠ g) (hr : w0.heap[b]? = some o) : w.heap[b]? = some o := by rw [h.block b (lt_heap hr) hne]; exact hr
theorem key_at (x : Int) (n : Nat) (hn : n ≤ 60) : ∃ k : Nat, wrap64 ((IntKind.u64.wrap x).tmod ((n : Int) + 1)) = (k : Int) ∧ k ≤ n := by
  have h0 : 0 ≤ IntKind.u64.wrap x := by simp only [IntKind.wrap, IntKind.bits, IntKind.signed]; simp; omega
  generalize IntKind.u64.wrap x = u at h0
  rw [Int.tmod_eq_emod_of_nonneg h0]
  have h1 := Int.emod_nonneg u (show (n : Int) + 1 ≠ 0 by omega)
  have h2 := Int.emod_lt_of_pos u (show 0 < (n : Int) + 1 by omega)
  refine ⟨(u % ((n : Int) + 1)).toNat, ?_, by omega⟩
  unfold wrap64
  omega
set_option maxRecDepth 8000 in
set_option maxHeartbeats 4000000 in
theorem hazeFinds_walk (W : World) (l : List HZ.D) (sl : Option Addr) (c : Nat) (hv : RS lyD W sl l) (hn : l.length ≤ maxLen) (ht : ∀ t ∈ l, True) (hc : l.length ≤ c) (ls : List HZ.H) (sa : Option Addr) (ca : Nat) (hva : RS lyH W sa ls) (hna : ls.length ≤ maxLen) (hta : ∀ t ∈ ls, True) (x : Int) (hx : -9223372036854775808 ≤ x ∧ x ≤ 9223372036854775807) : Calls Try.prog 5 #[.slice sl l.length c, .slice sa ls.length ca, .int .i64 x] W fun e w' => e = .returned (.bool true) ∧ Bl W w' := by
  unfold maxLen at hn hna
  clear ht hta
  have C0 : Hid (∀ U, Calls Try.prog 9 #[] U fun e w' => e = .returned (.bool true) ∧ Bl U w') := awake_14
  have HV : Hid (RS lyD W sl l) := hv
  have HA : Hid (RS lyH W sa ls) := hva
  clear hv hva
  obtain ⟨hx1, hx2⟩ := hx
  by_cases hlk : l.length ≤ 60
  · by_cases hll : ls.length ≤ 60
    · obtain ⟨k, hk, hkn⟩ := key_at x l.length hlk
      have CO : Hid (∀ U, Bl W U → Calls Try.prog 14 #[.slice sl l.length c] U fun e w' => e = .returned (.agg (hC (HZ.zero.wi l)).toArray) ∧ Bl U w') := fun U hU => Of_x l sl c (by unfold maxLen; omega) U (HV.out.bl hU)
      obtain ⟨a1, hs1, hr1⟩ := from_k sl l c k hc hkn
      obtain ⟨a2, hs2, hr2⟩ := upto_k sl l c k hc hkn
      have CO1 : Hid (∀ U, Bl W U → Calls Try.prog 14 #[.slice a1 (l.drop k).length (c - k)] U fun e w' => e = .returned (.agg (hC (HZ.zero.wi (l.drop k))).toArray) ∧ Bl U w') := fun U hU => Of_x (l.drop k) a1 (c - k) (by rw [List.length_drop]; unfold maxLen; omega) U ((hr1 _ HV.out).bl hU)
      have CO2 : Hid (∀ U, Bl W U → Calls Try.prog 14 #[.slice a2 (l.take k).length c] U fun e w' => e = .returned (.agg (hC (HZ.zero.wi (l.take k))).toArray) ∧ Bl U w') := fun U hU => Of_x (l.take k) a2 c (by rw [List.length_take]; unfold maxLen; omega) U ((hr2 _ HV.out).bl hU)
      have hpa := HZ.wi_parts l k
      have hck := HZ.ct_keys l
      have hca := HZ.ct_mono (HZ.all_le (HZ.zero.wi l) ls)
      have HK1 : Hid (∀ k, k ∈ l → (HZ.zero.wi l).hs k = true) := fun k hk => HZ.wi_has hk
      have HK2 : Hid (∀ k, k ∈ l → (HZ.jo (HZ.zero.wi l :: ls)).hs k = true) := fun k hk => HZ.hs_le (HZ.all_le _ ls) (HZ.wi_has hk)
      have hjw : HZ.jo [HZ.jo (HZ.zero.wi l :: ls), HZ.zero.wi l] = HZ.jo (HZ.zero.wi l :: ls) := HZ.jo_with (HZ.all_le _ ls)
      have HBK : Hid (HZ.bk l l.length = HZ.zero.wi l) := HZ.bk_all l
      clear hr1 hr2
      generalize HZ.zero.wi (l.drop k) = P at *
      generalize HZ.zero.wi (l.take k) = R at *
      generalize HZ.zero.wi l = H at *
      have CJL : Hid (∀ U a' c', RS lyH U a' (H :: ls) → Calls Try.prog 10 #[.slice a' (H :: ls).length c'] U fun e w' => e = .returned (.agg (hC (HZ.jo (H :: ls))).toArray) ∧ Bl U w') := fun U a' c' h => Join_x (H :: ls) a' c' (by unfold maxLen; simp; omega) U h
      generalize HZ.jo (H :: ls) = A at *
      obtain ⟨LPR, HLPR⟩ : ∃ X, Hid ([hC P, hC R].flatten = X) := ⟨_, rfl⟩
      have CJ1 := join_c [P, R] 2 rfl (by simp) H hpa LPR HLPR.out
      obtain ⟨LAH, HLAH⟩ : ∃ X, Hid ([hC A, hC H].flatten = X) := ⟨_, rfl⟩
      have CJ2 := join_c [A, H] 2 rfl (by simp) A hjw LAH HLAH.out
      have CN1 : Hid (∀ U, Calls Try.prog 17 #[.agg (hC A).toArray] U fun e w' => e = .returned (.int .i64 (A.ct : Int)) ∧ Bl U w') := Count_x A
      have CN2 : Hid (∀ U, Calls Try.prog 17 #[.agg (hC H).toArray] U fun e w' => e = .returned (.int .i64 (H.ct : Int)) ∧ Bl U w') := Count_x H
      have CH1 : Hid (∀ k, k ∈ l → ∀ U, Calls Try.prog 15 #[.agg (hC H).toArray, .agg (dC k).toArray] U fun e w' => e = .returned (.bool true) ∧ Bl U w') := fun k hk U => by
        have := Has_x H k U; rw [HK1.out k hk] at this; exact this
      have CH2 : Hid (∀ k, k ∈ l → ∀ U, Calls Try.prog 15 #[.agg (hC A).toArray, .agg (dC k).toArray] U fun e w' => e = .returned (.bool true) ∧ Bl U w') := fun k hk U => by
        have := Has_x A k U; rw [HK2.out k hk] at this; exact this
      have e1 : ∀ U, (Op.equalIn 10000 tH (.agg (hC H).toArray) (.agg (hC H).toArray)).run Try.prog U = .ok true U := fun U => by rw [eqH, HZ.eqB_self]
      have e2 : ∀ U, (Op.equalIn 10000 tH (.agg (hC A).toArray) (.agg (hC A).toArray)).run Try.prog U = .ok true U := fun U => by rw [eqH, HZ.eqB_self]
      generalize A.ct = na at *
      generalize H.ct = nh at *
      have k1 : ¬ (na : Int) < (nh : Int) := by omega
      have k1n : ¬ na < nh := by omega
      have k1d : decide ((na : Int) < (nh : Int)) = false := by simp; omega
      have k2d : decide (4 * (l.length : Int) < (nh : Int)) = false := by simp; omega
      have k1m : (nh : Int) ≤ (na : Int) := by omega
      have k2m : (nh : Int) ≤ 4 * (l.length : Int) := by omega
      have k2 : ¬ (nh : Int) > 4 * (l.length : Int) := by omega
      have k2' : ¬ 4 * (l.length : Int) < (nh : Int) := by omega
      have k3 : IntKind.i64.wrap (4 * (l.length : Int)) = 4 * (l.length : Int) := by rw [IntKind.wrap_i64]; omega
      clear hpa hck hca hjw HK1 HK2 hx1 hx2
      have HLHl : Hid ((hC H).length = 64) := hC_len _
      have HLHo : Hid (∀ u ∈ hC H, u.oneCell' = true) := hC_one _
      have HLHi : Hid ((Try.prog.info? tH).map (·.size) = some (hC H).length) := infoH' _
      have HLAl : Hid ((hC A).length = 64) := hC_len _
      have HLAo : Hid (∀ u ∈ hC A, u.oneCell' = true) := hC_one _
      have HLAi : Hid ((Try.prog.info? tH).map (·.size) = some (hC A).length) := infoH' _
      have HLPl : Hid ((hC P).length = 64) := hC_len _
      have HLRl : Hid ((hC R).length = 64) := hC_len _
      have HFL : Hid ([hC H].flatten = hC H) := by show _ = _; simp
      generalize hLH : hC H = LH at *
      have HEH : Hid (hC H = LH) := hLH
      have HBKL : Hid (hC (HZ.bk l l.length) = LH) := by show _ = _; rw [HBK.out, hLH]
      clear HBK hLH
      generalize hC A = LA at *
      generalize hC P = LP at *
      generalize hC R = LR at *
      obtain ⟨nd, hnd⟩ : ∃ n, (l.drop k).length = n := ⟨_, rfl⟩
      obtain ⟨nt, hnt⟩ : ∃ n, (l.take k).length = n := ⟨_, rfl⟩
      rw [hnd] at hs1 CO1
      rw [hnt] at hs2 CO2
      clear hnd hnt
      go_enter Try.func5, Try.ntmps5
      go_upto_region 7 with (first
        | go_big_skip
        | (go_at_call 9; refine (C0.out _).mono ?_; clear C0; rintro e w1 ⟨rfl, hb1⟩; have HB1 := hidI hb1; clear hb1)
        | (go_at_call 14; refine (CO.out _ HB1.out).mono ?_; clear CO; rintro e w2 ⟨rfl, hb2⟩; have HB2 : Hid (Bl W w2) := HB1.out.step hb2; clear hb2 HB1)
        | (refine wl_rowU rfl tH _ _ rfl w2.heap.size LH rfl rfl tH zH (heap_alloc_new w2 _) 64 infoH HLHl.out zH_size HLHo.out ?_; intro U1 hU1 hO1 hs1'; have HB3 : Hid (Bl W U1) := HB2.out.step (hO1.bl ((Bl.refl w2).alloc _) (Nat.le_refl _)); have hge := Below.size HB2.out; have RH3 := hidI hU1; clear hU1 hO1 hs1' HB2))
      (try simp only [Act.put, List.setIfInBounds_toArray, List.set_cons_zero, List.set_cons_succ])
      (try simp only [hk])
      clear hk hc
      have CO1x : Hid (∀ U, Bl U1 U → Calls Try.prog 14 #[.slice a1 nd (c - k)] U fun e w' => e = .returned (.agg LP.toArray) ∧ Bl U w') := fun U hU => CO1.out U (HB3.out.step hU)
      have CO2x : Hid (∀ U, Bl U1 U → Calls Try.prog 14 #[.slice a2 nt c] U fun e w' => e = .returned (.agg LR.toArray) ∧ Bl U w') := fun U hU => CO2.out U (HB3.out.step hU)
      clear CO1 CO2
      go_cut [9] (fun s9 wx => ∃ g, s9 = .pointer (some ⟨g, 0, none⟩) ∧ HF U1 wx [(g, .cells LH.toArray tH)])
      case first =>
        refine wp_region_noPanic ?_
        refine wp_region_held_drew (S := fun U => Bl U1 U) (by kernel_rfl) ((((HF.start U1).drew)).bl) (fun hHeld => ?_)
        refine wpAnyH_take (i := 0) rfl (by kernel_rfl) (by kernel_rfl) (by kernel_rfl) (fun _ _ _ h => h) (yi_move (by kernel_rfl) rfl rfl) (by assumption) ?_
        simp only [Act.put, List.getElem_toArray, List.getElem_cons_succ, List.getElem_cons_zero, List.setIfInBounds_toArray, List.set_cons_zero, List.set_cons_succ, Act.eval, Array.getD_eq_getD_getElem?, List.getElem?_toArray, List.getElem?_cons_succ, List.getElem?_cons_zero, Option.getD_some]
        refine wpAnyH_take (i := 1) rfl (by kernel_rfl) (by kernel_rfl) (by kernel_rfl) (fun _ _ _ h => h) (yi_move (by kernel_rfl) rfl rfl) (by assumption) ?_
        simp only [Act.put, List.getElem_toArray, List.getElem_cons_succ, List.getElem_cons_zero, List.setIfInBounds_toArray, List.set_cons_zero, List.set_cons_succ, Act.eval, Array.getD_eq_getD_getElem?, List.getElem?_toArray, List.getElem?_cons_succ, List.getElem?_cons_zero, Option.getD_some]
        refine wpAnyH_take (i := 2) (v := ?_) rfl (by kernel_rfl) (by kernel_rfl) (by kernel_rfl) (fun _ _ _ h => h) (Or.inl ⟨by kernel_rfl, ?_⟩) (by assumption) ?_
        rotate_left
        · (intro w hSw; (try dsimp only at hSw); go_simp; (try with_reducible rfl))
        simp only [Act.put, List.getElem_toArray, List.getElem_cons_succ, List.getElem_cons_zero, List.setIfInBounds_toArray, List.set_cons_zero, List.set_cons_succ, Act.eval, Array.getD_eq_getD_getElem?, List.getElem?_toArray, List.getElem?_cons_succ, List.getElem?_cons_zero, Option.getD_some]
        refine wpAnyH_take (i := 4) rfl (by kernel_rfl) (by kernel_rfl) (by kernel_rfl) (fun _ _ _ h => h) (yi_move (by kernel_rfl) rfl rfl) (by assumption) ?_
        simp only [Act.put, List.getElem_toArray, List.getElem_cons_succ, List.getElem_cons_zero, List.setIfInBounds_toArray, List.set_cons_zero, List.set_cons_succ, Act.eval, Array.getD_eq_getD_getElem?, List.getElem?_toArray, List.getElem?_cons_succ, List.getElem?_cons_zero, Option.getD_some]
        refine wpAnyH_take (i := 5) rfl (by kernel_rfl) (by kernel_rfl) (by kernel_rfl) (fun _ _ _ h => h) (yi_move (by kernel_rfl) rfl rfl) (by assumption) ?_
        simp only [Act.put, List.getElem_toArray, List.getElem_cons_succ, List.getElem_cons_zero, List.setIfInBounds_toArray, List.set_cons_zero, List.set_cons_succ, Act.eval, Array.getD_eq_getD_getElem?, List.getElem?_toArray, List.getElem?_cons_succ, List.getElem?_cons_zero, Option.getD_some]
        refine wpAnyH_take (i := 6) (v := ?_) rfl (by kernel_rfl) (by kernel_rfl) (by kernel_rfl) (fun _ _ _ h => h) (Or.inl ⟨by kernel_rfl, ?_⟩) (by assumption) ?_
        rotate_left
        · (intro w hSw; (try dsimp only at hSw); go_simp; (try with_reducible rfl))
        simp only [Act.put, List.getElem_toArray, List.getElem_cons_succ, List.getElem_cons_zero, List.setIfInBounds_toArray, List.set_cons_zero, List.set_cons_succ, Act.eval, Array.getD_eq_getD_getElem?, List.getElem?_toArray, List.getElem?_cons_succ, List.getElem?_cons_zero, Option.getD_some]
        refine wpAnyH_ready (rs := [3, 10]) (by kernel_rfl) (by simp) ?_
        refine AllReadyH.cons (o := _) rfl (fun K hK => ?_) ?_
        · go_simp
          go_at_call 14; refine (CO1x.out _ (((HF.start U1).drew)).bl).mono ?_; rintro e V7 ⟨rfl, hV7⟩; have HB7 := (((HF.start U1).drew)).step hV7; clear hV7
          (try clear hHeld)
          refine hK.out _ _ ((HB7).bl) (fun hHeld => ?_)
          clear hK K
          (try simp only [Act.put, List.getElem_toArray, List.getElem_cons_succ, List.getElem_cons_zero, List.setIfInBounds_toArray, List.set_cons_zero, List.set_cons_succ, Act.eval, Array.getD_eq_getD_getElem?, List.getElem?_toArray, List.getElem?_cons_succ, List.getElem?_cons_zero, Option.getD_some])
          refine wpAnyH_ready (rs := [7, 10]) (by kernel_rfl) (by simp) ?_
          refine AllReadyH.cons (o := _) rfl (fun K hK => ?_) ?_
          · go_simp
            go_at_call 14; refine (CO2x.out _ (HB7).bl).mono ?_; rintro e V8 ⟨rfl, hV8⟩; have HB8 := (HB7).step hV8; clear hV8
            (try clear hHeld)
            refine hK.out _ _ ((HB8).bl) (fun hHeld => ?_)
            clear hK K
            (try simp only [Act.put, List.getElem_toArray, List.getElem_cons_succ, List.getElem_cons_zero, List.setIfInBounds_toArray, List.set_cons_zero, List.set_cons_succ, Act.eval, Array.getD_eq_getD_getElem?, List.getElem?_toArray, List.getElem?_cons_succ, List.getElem?_cons_zero, Option.getD_some])
            refine wpAnyH_ready (rs := [8, 10]) (by kernel_rfl) (by simp) ?_
            refine AllReadyH.cons (o := _) rfl (fun K hK => ?_) ?_
            · refine so_bs (by kernel_rfl) 22 tH 2 _ rfl [LP, LR] (by simp only [List.map_toArray, List.map_cons, List.map_nil]; rfl) rfl 64 (len2 HLPl HLRl) LPR HLPR.out 64 (.agg zH) undHs infoH3 (by omega) (by omega) (by omega) (by omega) (hK.out _ _ ((((HB8).al (.cells LPR.toArray tH))).bl) (fun hHeld => ?_))
              clear hK K
              (try simp only [Act.put, List.getElem_toArray, List.getElem_cons_succ, List.getElem_cons_zero, List.setIfInBounds_toArray, List.set_cons_zero, List.set_cons_succ, Act.eval, Array.getD_eq_getD_getElem?, List.getElem?_toArray, List.getElem?_cons_succ, List.getElem?_cons_zero, Option.getD_some])
              refine wpAnyH_ready (rs := [9, 10]) (by kernel_rfl) (by simp) ?_
              refine AllReadyH.cons (o := _) rfl (fun K hK => ?_) ?_
              · go_simp
                go_at_call 10; refine (CJ1.out _ _ ((((HB8).al (.cells LPR.toArray tH))).get (by simp))).mono ?_; rintro e V10 ⟨rfl, hV10⟩; have HB10 := (((HB8).al (.cells LPR.toArray tH))).step hV10; clear hV10
                (try clear hHeld)
                refine hK.out _ _ ((HB10).bl) (fun hHeld => ?_)
                clear hK K
                (try simp only [Act.put, List.getElem_toArray, List.getElem_cons_succ, List.getElem_cons_zero, List.setIfInBounds_toArray, List.set_cons_zero, List.set_cons_succ, Act.eval, Array.getD_eq_getD_getElem?, List.getElem?_toArray, List.getElem?_cons_succ, List.getElem?_cons_zero, Option.getD_some])
                refine wpAnyH_ready (rs := [10]) (by kernel_rfl) (by simp) ?_
                refine AllReadyH.cons (o := _) rfl (fun K hK => ?_) AllReadyH.nil
                go_simp
                (try clear hHeld)
                refine hK.out _ _ ((((HB10).al _)).bl) (fun hHeld => ?_)
                clear hK K
                (try simp only [Act.put, List.getElem_toArray, List.getElem_cons_succ, List.getElem_cons_zero, List.setIfInBounds_toArray, List.set_cons_zero, List.set_cons_succ, Act.eval, Array.getD_eq_getD_getElem?, List.getElem?_toArray, List.getElem?_cons_succ, List.getElem?_cons_zero, Option.getD_some])
                refine wpAnyH_ready (rs := [11]) (by kernel_rfl) (by simp) ?_
                refine AllReadyH.cons (o := _) rfl (fun K hK => ?_) AllReadyH.nil
                refine so_rowU (by kernel_rfl) tH _ _ rfl _ LH rfl rfl tH zH ((((HB10).al _)).get (by simp)) 64 infoH HLHl.out zH_size HLHo.out (fun U12 hU12 hO12 => ?_)
                have HB12 := (((HB10).al _)).st (o := .cells zH tH (0, 0)) (by simp) hO12 hU12
                refine hK.out _ _ ((HB12).bl) (fun hHeld => ?_)
                clear hK K
                (try simp only [Act.put, List.getElem_toArray, List.getElem_cons_succ, List.getElem_cons_zero, List.setIfInBounds_toArray, List.set_cons_zero, List.set_cons_succ, Act.eval, Array.getD_eq_getD_getElem?, List.getElem?_toArray, List.getElem?_cons_succ, List.getElem?_cons_zero, Option.getD_some])
                refine wpAnyH_done (by kernel_rfl) ?_ _
                refine NoPanic.normal ?_
                go_wp2_with fail
                go_meet
                exact ⟨_, rfl, HB12⟩
              refine AllReadyH.cons (o := _) rfl (fun K hK => ?_) ?_
              · go_simp
                (try clear hHeld)
                refine hK.out _ _ ((((((HB8).al (.cells LPR.toArray tH))).al _)).bl) (fun hHeld => ?_)
                clear hK K
                (try simp only [Act.put, List.getElem_toArray, List.getElem_cons_succ, List.getElem_cons_zero, List.setIfInBounds_toArray, List.set_cons_zero, List.set_cons_succ, Act.eval, Array.getD_eq_getD_getElem?, List.getElem?_toArray, List.getElem?_cons_succ, List.getElem?_cons_zero, Option.getD_some])
                refine wpAnyH_ready (rs := [9]) (by kernel_rfl) (by simp) ?_
                refine AllReadyH.cons (o := _) rfl (fun K hK => ?_) AllReadyH.nil
                go_simp
                go_at_call 10; refine (CJ1.out _ _ ((((((HB8).al (.cells LPR.toArray tH))).al _)).get (by simp))).mono ?_; rintro e V13 ⟨rfl, hV13⟩; have HB13 := (((((HB8).al (.cells LPR.toArray tH))).al _)).step hV13; clear hV13
                (try clear hHeld)
                refine hK.out _ _ ((HB13).bl) (fun hHeld => ?_)
                clear hK K
                (try simp only [Act.put, List.getElem_toArray, List.getElem_cons_succ, List.getElem_cons_zero, List.setIfInBounds_toArray, List.set_cons_zero, List.set_cons_succ, Act.eval, Array.getD_eq_getD_getElem?, List.getElem?_toArray, List.getElem?_cons_succ, List.getElem?_cons_zero, Option.getD_some])
                refine wpAnyH_ready (rs := [11]) (by kernel_rfl) (by simp) ?_
                refine AllReadyH.cons (o := _) rfl (fun K hK => ?_) AllReadyH.nil
                refine so_rowU (by kernel_rfl) tH _ _ rfl _ LH rfl rfl tH zH ((HB13).get (by simp)) 64 infoH HLHl.out zH_size HLHo.out (fun U14 hU14 hO14 => ?_)
                have HB14 := (HB13).st (o := .cells zH tH (0, 0)) (by simp) hO14 hU14
                refine hK.out _ _ ((HB14).bl) (fun hHeld => ?_)
                clear hK K
                (try simp only [Act.put, List.getElem_toArray, List.getElem_cons_succ, List.getElem_cons_zero, List.setIfInBounds_toArray, List.set_cons_zero, List.set_cons_succ, Act.eval, Array.getD_eq_getD_getElem?, List.getElem?_toArray, List.getElem?_cons_succ, List.getElem?_cons_zero, Option.getD_some])
                refine wpAnyH_done (by kernel_rfl) ?_ _
                refine NoPanic.normal ?_
                go_wp2_with fail
                go_meet
                exact ⟨_, rfl, HB14⟩
              exact AllReadyH.nil
            refine AllReadyH.cons (o := _) rfl (fun K hK => ?_) ?_
            · go_simp
              (try clear hHeld)
              refine hK.out _ _ ((((HB8).al _)).bl) (fun hHeld => ?_)
              clear hK K
              (try simp only [Act.put, List.getElem_toArray, List.getElem_cons_succ, List.getElem_cons_zero, List.setIfInBounds_toArray, List.set_cons_zero, List.set_cons_succ, Act.eval, Array.getD_eq_getD_getElem?, List.getElem?_toArray, List.getElem?_cons_succ, List.getElem?_cons_zero, Option.getD_some])
              refine wpAnyH_ready (rs := [8]) (by kernel_rfl) (by simp) ?_
              refine AllReadyH.cons (o := _) rfl (fun K hK => ?_) AllReadyH.nil
              refine so_bs (by kernel_rfl) 22 tH 2 _ rfl [LP, LR] (by simp only [List.map_toArray, List.map_cons, List.map_nil]; rfl) rfl 64 (len2 HLPl HLRl) LPR HLPR.out 64 (.agg zH) undHs infoH3 (by omega) (by omega) (by omega) (by omega) (hK.out _ _ ((((((HB8).al _)).al (.cells LPR.toArray tH))).bl) (fun hHeld => ?_))
              clear hK K
              (try simp only [Act.put, List.getElem_toArray, List.getElem_cons_succ, List.getElem_cons_zero, List.setIfInBounds_toArray, List.set_cons_zero, List.set_cons_succ, Act.eval, Array.getD_eq_getD_getElem?, List.getElem?_toArray, List.getElem?_cons_succ, List.getElem?_cons_zero, Option.getD_some])
              refine wpAnyH_ready (rs := [9]) (by kernel_rfl) (by simp) ?_
              refine AllReadyH.cons (o := _) rfl (fun K hK => ?_) AllReadyH.nil
              go_simp
              go_at_call 10; refine (CJ1.out _ _ ((((((HB8).al _)).al (.cells LPR.toArray tH))).get (by simp))).mono ?_; rintro e V16 ⟨rfl, hV16⟩; have HB16 := (((((HB8).al _)).al (.cells LPR.toArray tH))).step hV16; clear hV16
              (try clear hHeld)
              refine hK.out _ _ ((HB16).bl) (fun hHeld => ?_)
              clear hK K
              (try simp only [Act.put, List.getElem_toArray, List.getElem_cons_succ, List.getElem_cons_zero, List.setIfInBounds_toArray, List.set_cons_zero, List.set_cons_succ, Act.eval, Array.getD_eq_getD_getElem?, List.getElem?_toArray, List.getElem?_cons_succ, List.getElem?_cons_zero, Option.getD_some])
              refine wpAnyH_ready (rs := [11]) (by kernel_rfl) (by simp) ?_
              refine AllReadyH.cons (o := _) rfl (fun K hK => ?_) AllReadyH.nil
              refine so_rowU (by kernel_rfl) tH _ _ rfl _ LH rfl rfl tH zH ((HB16).get (by simp)) 64 infoH HLHl.out zH_size HLHo.out (fun U17 hU17 hO17 => ?_)
              have HB17 := (HB16).st (o := .cells zH tH (0, 0)) (by simp) hO17 hU17
              refine hK.out _ _ ((HB17).bl) (fun hHeld => ?_)
              clear hK K
              (try simp only [Act.put, List.getElem_toArray, List.getElem_cons_succ, List.getElem_cons_zero, List.setIfInBounds_toArray, List.set_cons_zero, List.set_cons_succ, Act.eval, Array.getD_eq_getD_getElem?, List.getElem?_toArray, List.getElem?_cons_succ, List.getElem?_cons_zero, Option.getD_some])
              refine wpAnyH_done (by kernel_rfl) ?_ _
              refine NoPanic.normal ?_
              go_wp2_with fail
              go_meet
              exact ⟨_, rfl, HB17⟩
            exact AllReadyH.nil
          refine AllReadyH.cons (o := _) rfl (fun K hK => ?_) ?_
          · go_simp
            (try clear hHeld)
            refine hK.out _ _ ((((HB7).al _)).bl) (fun hHeld => ?_)
            clear hK K
            (try simp only [Act.put, List.getElem_toArray, List.getElem_cons_succ, List.getElem_cons_zero, List.setIfInBounds_toArray, List.set_cons_zero, List.set_cons_succ, Act.eval, Array.getD_eq_getD_getElem?, List.getElem?_toArray, List.getElem?_cons_succ, List.getElem?_cons_zero, Option.getD_some])
            refine wpAnyH_ready (rs := [7]) (by kernel_rfl) (by simp) ?_
            refine AllReadyH.cons (o := _) rfl (fun K hK => ?_) AllReadyH.nil
            go_simp
            go_at_call 14; refine (CO2x.out _ (((HB7).al _)).bl).mono ?_; rintro e V18 ⟨rfl, hV18⟩; have HB18 := (((HB7).al _)).step hV18; clear hV18
            (try clear hHeld)
            refine hK.out _ _ ((HB18).bl) (fun hHeld => ?_)
            clear hK K
            (try simp only [Act.put, List.getElem_toArray, List.getElem_cons_succ, List.getElem_cons_zero, List.setIfInBounds_toArray, List.set_cons_zero, List.set_cons_succ, Act.eval, Array.getD_eq_getD_getElem?, List.getElem?_toArray, List.getElem?_cons_succ, List.getElem?_cons_zero, Option.getD_some])
            refine wpAnyH_ready (rs := [8]) (by kernel_rfl) (by simp) ?_
            refine AllReadyH.cons (o := _) rfl (fun K hK => ?_) AllReadyH.nil
            refine so_bs (by kernel_rfl) 22 tH 2 _ rfl [LP, LR] (by simp only [List.map_toArray, List.map_cons, List.map_nil]; rfl) rfl 64 (len2 HLPl HLRl) LPR HLPR.out 64 (.agg zH) undHs infoH3 (by omega) (by omega) (by omega) (by omega) (hK.out _ _ ((((HB18).al (.cells LPR.toArray tH))).bl) (fun hHeld => ?_))
            clear hK K
            (try simp only [Act.put, List.getElem_toArray, List.getElem_cons_succ, List.getElem_cons_zero, List.setIfInBounds_toArray, List.set_cons_zero, List.set_cons_succ, Act.eval, Array.getD_eq_getD_getElem?, List.getElem?_toArray, List.getElem?_cons_succ, List.getElem?_cons_zero, Option.getD_some])
            refine wpAnyH_ready (rs := [9]) (by kernel_rfl) (by simp) ?_
            refine AllReadyH.cons (o := _) rfl (fun K hK => ?_) AllReadyH.nil
            go_simp
            go_at_call 10; refine (CJ1.out _ _ ((((HB18).al (.cells LPR.toArray tH))).get (by simp))).mono ?_; rintro e V20 ⟨rfl, hV20⟩; have HB20 := (((HB18).al (.cells LPR.toArray tH))).step hV20; clear hV20
            (try clear hHeld)
            refine hK.out _ _ ((HB20).bl) (fun hHeld => ?_)
            clear hK K
            (try simp only [Act.put, List.getElem_toArray, List.getElem_cons_succ, List.getElem_cons_zero, List.setIfInBounds_toArray, List.set_cons_zero, List.set_cons_succ, Act.eval, Array.getD_eq_getD_getElem?, List.getElem?_toArray, List.getElem?_cons_succ, List.getElem?_cons_zero, Option.getD_some])
            refine wpAnyH_ready (rs := [11]) (by kernel_rfl) (by simp) ?_
            refine AllReadyH.cons (o := _) rfl (fun K hK => ?_) AllReadyH.nil
            refine so_rowU (by kernel_rfl) tH _ _ rfl _ LH rfl rfl tH zH ((HB20).get (by simp)) 64 infoH HLHl.out zH_size HLHo.out (fun U21 hU21 hO21 => ?_)
            have HB21 := (HB20).st (o := .cells zH tH (0, 0)) (by simp) hO21 hU21
            refine hK.out _ _ ((HB21).bl) (fun hHeld => ?_)
            clear hK K
            (try simp only [Act.put, List.getElem_toArray, List.getElem_cons_succ, List.getElem_cons_zero, List.setIfInBounds_toArray, List.set_cons_zero, List.set_cons_succ, Act.eval, Array.getD_eq_getD_getElem?, List.getElem?_toArray, List.getElem?_cons_succ, List.getElem?_cons_zero, Option.getD_some])
            refine wpAnyH_done (by kernel_rfl) ?_ _
            refine NoPanic.normal ?_
            go_wp2_with fail
            go_meet
            exact ⟨_, rfl, HB21⟩
          exact AllReadyH.nil
        refine AllReadyH.cons (o := _) rfl (fun K hK => ?_) ?_
        · go_simp
          (try clear hHeld)
          refine hK.out _ _ ((((((HF.start U1).drew)).al _)).bl) (fun hHeld => ?_)
          clear hK K
          (try simp only [Act.put, List.getElem_toArray, List.getElem_cons_succ, List.getElem_cons_zero, List.setIfInBounds_toArray, List.set_cons_zero, List.set_cons_succ, Act.eval, Array.getD_eq_getD_getElem?, List.getElem?_toArray, List.getElem?_cons_succ, List.getElem?_cons_zero, Option.getD_some])
          refine wpAnyH_ready (rs := [3]) (by kernel_rfl) (by simp) ?_
          refine AllReadyH.cons (o := _) rfl (fun K hK => ?_) AllReadyH.nil
          go_simp
          go_at_call 14; refine (CO1x.out _ (((((HF.start U1).drew)).al _)).bl).mono ?_; rintro e V22 ⟨rfl, hV22⟩; have HB22 := (((((HF.start U1).drew)).al _)).step hV22; clear hV22
          (try clear hHeld)
          refine hK.out _ _ ((HB22).bl) (fun hHeld => ?_)
          clear hK K
          (try simp only [Act.put, List.getElem_toArray, List.getElem_cons_succ, List.getElem_cons_zero, List.setIfInBounds_toArray, List.set_cons_zero, List.set_cons_succ, Act.eval, Array.getD_eq_getD_getElem?, List.getElem?_toArray, List.getElem?_cons_succ, List.getElem?_cons_zero, Option.getD_some])
          refine wpAnyH_ready (rs := [7]) (by kernel_rfl) (by simp) ?_
          refine AllReadyH.cons (o := _) rfl (fun K hK => ?_) AllReadyH.nil
          go_simp
          go_at_call 14; refine (CO2x.out _ (HB22).bl).mono ?_; rintro e V23 ⟨rfl, hV23⟩; have HB23 := (HB22).step hV23; clear hV23
          (try clear hHeld)
          refine hK.out _ _ ((HB23).bl) (fun hHeld => ?_)
          clear hK K
          (try simp only [Act.put, List.getElem_toArray, List.getElem_cons_succ, List.getElem_cons_zero, List.setIfInBounds_toArray, List.set_cons_zero, List.set_cons_succ, Act.eval, Array.getD_eq_getD_getElem?, List.getElem?_toArray, List.getElem?_cons_succ, List.getElem?_cons_zero, Option.getD_some])
          refine wpAnyH_ready (rs := [8]) (by kernel_rfl) (by simp) ?_
          refine AllReadyH.cons (o := _) rfl (fun K hK => ?_) AllReadyH.nil
          refine so_bs (by kernel_rfl) 22 tH 2 _ rfl [LP, LR] (by simp only [List.map_toArray, List.map_cons, List.map_nil]; rfl) rfl 64 (len2 HLPl HLRl) LPR HLPR.out 64 (.agg zH) undHs infoH3 (by omega) (by omega) (by omega) (by omega) (hK.out _ _ ((((HB23).al (.cells LPR.toArray tH))).bl) (fun hHeld => ?_))
          clear hK K
          (try simp only [Act.put, List.getElem_toArray, List.getElem_cons_succ, List.getElem_cons_zero, List.setIfInBounds_toArray, List.set_cons_zero, List.set_cons_succ, Act.eval, Array.getD_eq_getD_getElem?, List.getElem?_toArray, List.getElem?_cons_succ, List.getElem?_cons_zero, Option.getD_some])
          refine wpAnyH_ready (rs := [9]) (by kernel_rfl) (by simp) ?_
          refine AllReadyH.cons (o := _) rfl (fun K hK => ?_) AllReadyH.nil
          go_simp
          go_at_call 10; refine (CJ1.out _ _ ((((HB23).al (.cells LPR.toArray tH))).get (by simp))).mono ?_; rintro e V25 ⟨rfl, hV25⟩; have HB25 := (((HB23).al (.cells LPR.toArray tH))).step hV25; clear hV25
          (try clear hHeld)
          refine hK.out _ _ ((HB25).bl) (fun hHeld => ?_)
          clear hK K
          (try simp only [Act.put, List.getElem_toArray, List.getElem_cons_succ, List.getElem_cons_zero, List.setIfInBounds_toArray, List.set_cons_zero, List.set_cons_succ, Act.eval, Array.getD_eq_getD_getElem?, List.getElem?_toArray, List.getElem?_cons_succ, List.getElem?_cons_zero, Option.getD_some])
          refine wpAnyH_ready (rs := [11]) (by kernel_rfl) (by simp) ?_
          refine AllReadyH.cons (o := _) rfl (fun K hK => ?_) AllReadyH.nil
          refine so_rowU (by kernel_rfl) tH _ _ rfl _ LH rfl rfl tH zH ((HB25).get (by simp)) 64 infoH HLHl.out zH_size HLHo.out (fun U26 hU26 hO26 => ?_)
          have HB26 := (HB25).st (o := .cells zH tH (0, 0)) (by simp) hO26 hU26
          refine hK.out _ _ ((HB26).bl) (fun hHeld => ?_)
          clear hK K
          (try simp only [Act.put, List.getElem_toArray, List.getElem_cons_succ, List.getElem_cons_zero, List.setIfInBounds_toArray, List.set_cons_zero, List.set_cons_succ, Act.eval, Array.getD_eq_getD_getElem?, List.getElem?_toArray, List.getElem?_cons_succ, List.getElem?_cons_zero, Option.getD_some])
          refine wpAnyH_done (by kernel_rfl) ?_ _
          refine NoPanic.normal ?_
          go_wp2_with fail
          go_meet
          exact ⟨_, rfl, HB26⟩
        exact AllReadyH.nil
      case rest =>
        obtain ⟨g9, rfl, hF⟩ := hcut
        obtain ⟨w7, hw7⟩ : ∃ w, w = wc := ⟨_, rfl⟩
        subst hw7
        have HB4 : Hid (Bl W w7) := HB3.out.step hF.bl
        have RH4 := hidI (hF.bl.heap RH3.out)
        have RT4 := hidI (hF.get (List.mem_cons_self ..))
        have R4 := range_of RH4.out
        have HA4 : Hid (RS lyH w7 sa ls) := HA.out.bl HB4.out
        clear hF HB3 RH3 CJ1 CO1x CO2x hs1 hs2 HLPR HA
        go_upto_region 9 with (first
          | (refine wl_midG (by rfl) tH _ rfl w2.heap.size 0 rfl LH _ R4 undH rfl HLHi.out ?_; clear R4)
          | (refine wl_bs (by rfl) 22 tH 1 _ rfl [LH] (by simp only [List.map_toArray, List.map_cons, List.map_nil]; rfl) rfl 64 (len1 HLHl) LH HFL.out 64 (.agg zH) undHs infoH3 (by omega) (by omega) (by omega) (by omega) ?_)
          | (refine wl_appH rfl _ _ rfl H rfl sa ls ca rfl HA4.out hll ?_ LH HEH.out rfl; intro a5 c5 U5 hr5 hb5; have HB5 : Hid (Bl W U5) := HB4.out.step hb5; have RH5 := hidI (hb5.heap RH4.out); have RT5 := hidI (hb5.heap RT4.out); clear hb5 HB4 RH4 RT4)
          | (go_at_call 10; refine (CJL.out _ _ _ hr5).mono ?_; clear CJL hr5; rintro e w6 ⟨rfl, hb6⟩; have HB6 : Hid (Bl W w6) := HB5.out.step hb6; have RH6 := hidI (hb6.heap RH5.out); have RT6 := hidI (hb6.heap RT5.out); clear hb6 HB5 RH5 RT5)
          | (refine wl_rowU rfl tH _ _ rfl w6.heap.size LA rfl rfl tH zH (heap_alloc_new w6 _) 64 infoH HLAl.out zH_size HLAo.out ?_; intro U2 hU2 hO2 hs2; have hb7 : Bl w6 U2 := hO2.bl ((Bl.refl w6).alloc _) (Nat.le_refl _); have HB7 : Hid (Bl W U2) := HB6.out.step hb7; have RH7 := hidI (hb7.heap RH6.out); have RT7 := hidI (hb7.heap RT6.out); have RA7 := hidI hU2; clear hU2 hO2 hs2 hb7 HB6 RH6 RT6))
        (try simp only [Act.put, List.setIfInBounds_toArray, List.set_cons_zero, List.set_cons_succ])
        go_cut [66] (fun s66 wx => s66 = .bool false ∧ Bl U2 wx)
        case first =>
          refine wp_region_noPanic ?_
          refine wp_region_held_drew (S := fun U => Bl U2 U) (by kernel_rfl) ((((HF.start U2).drew)).bl) (fun hHeld => ?_)
          refine wpAnyH_take (i := 0) (v := .agg (List.toArray LH)) rfl (by kernel_rfl) (by kernel_rfl) (by kernel_rfl) (fun _ _ _ h => h) (yieldsIf_load_mid (by kernel_rfl) _ (.tmp 7) (by kernel_rfl) w2.heap.size 0 (by kernel_rfl) LH _ (fun W hW => range_of (Bl.heap hW RH7.out)) undH rfl HLHi.out) (by assumption) ?_
          simp only [Act.put, List.getElem_toArray, List.getElem_cons_succ, List.getElem_cons_zero, List.setIfInBounds_toArray, List.set_cons_zero, List.set_cons_succ, Act.eval, Array.getD_eq_getD_getElem?, List.getElem?_toArray, List.getElem?_cons_succ, List.getElem?_cons_zero, Option.getD_some]
          refine wpAnyH_take (i := 1) (v := .agg (List.toArray LH)) rfl (by kernel_rfl) (by kernel_rfl) (by kernel_rfl) (fun _ _ _ h => h) (yieldsIf_load_mid (by kernel_rfl) _ (.tmp 9) (by kernel_rfl) g9 0 (by kernel_rfl) LH _ (fun W hW => range_of (Bl.heap hW RT7.out)) undH rfl HLHi.out) (by assumption) ?_
          simp only [Act.put, List.getElem_toArray, List.getElem_cons_succ, List.getElem_cons_zero, List.setIfInBounds_toArray, List.set_cons_zero, List.set_cons_succ, Act.eval, Array.getD_eq_getD_getElem?, List.getElem?_toArray, List.getElem?_cons_succ, List.getElem?_cons_zero, Option.getD_some]
          refine wpAnyH_take (i := 2) (v := ?_) rfl (by kernel_rfl) (by kernel_rfl) (by kernel_rfl) (fun _ _ _ h => h) (Or.inl ⟨by kernel_rfl, ?_⟩) (by assumption) ?_
          rotate_left
          · (intro w hSw; (try dsimp only at hSw); go_simp; (try with_reducible rfl))
          simp only [Act.put, List.getElem_toArray, List.getElem_cons_succ, List.getElem_cons_zero, List.setIfInBounds_toArray, List.set_cons_zero, List.set_cons_succ, Act.eval, Array.getD_eq_getD_getElem?, List.getElem?_toArray, List.getElem?_cons_succ, List.getElem?_cons_zero, Option.getD_some]
          refine wpAnyH_take (i := 3) rfl (by kernel_rfl) (by kernel_rfl) (by kernel_rfl) (fun _ _ _ h => h) (yi_move (by kernel_rfl) rfl rfl) (by assumption) ?_
          simp only [Act.put, List.getElem_toArray, List.getElem_cons_succ, List.getElem_cons_zero, List.setIfInBounds_toArray, List.set_cons_zero, List.set_cons_succ, Act.eval, Array.getD_eq_getD_getElem?, List.getElem?_toArray, List.getElem?_cons_succ, List.getElem?_cons_zero, Option.getD_some]
          refine wpAnyH_take (i := 4) (v := .agg (List.toArray LA)) rfl (by kernel_rfl) (by kernel_rfl) (by kernel_rfl) (fun _ _ _ h => h) (yieldsIf_load_mid (by kernel_rfl) _ (.tmp 10) (by kernel_rfl) w6.heap.size 0 (by kernel_rfl) LA _ (fun W hW => range_of (Bl.heap hW RA7.out)) undH rfl HLAi.out) (by assumption) ?_
          simp only [Act.put, List.getElem_toArray, List.getElem_cons_succ, List.getElem_cons_zero, List.setIfInBounds_toArray, List.set_cons_zero, List.set_cons_succ, Act.eval, Array.getD_eq_getD_getElem?, List.getElem?_toArray, List.getElem?_cons_succ, List.getElem?_cons_zero, Option.getD_some]
          refine wpAnyH_take (i := 6) (v := .agg (List.toArray LH)) rfl (by kernel_rfl) (by kernel_rfl) (by kernel_rfl) (fun _ _ _ h => h) (yieldsIf_load_mid (by kernel_rfl) _ (.tmp 7) (by kernel_rfl) w2.heap.size 0 (by kernel_rfl) LH _ (fun W hW => range_of (Bl.heap hW RH7.out)) undH rfl HLHi.out) (by assumption) ?_
          simp only [Act.put, List.getElem_toArray, List.getElem_cons_succ, List.getElem_cons_zero, List.setIfInBounds_toArray, List.set_cons_zero, List.set_cons_succ, Act.eval, Array.getD_eq_getD_getElem?, List.getElem?_toArray, List.getElem?_cons_succ, List.getElem?_cons_zero, Option.getD_some]
          refine wpAnyH_ready (rs := [5]) (by kernel_rfl) (by simp) ?_
          refine AllReadyH.cons (o := _) rfl (fun K hK => ?_) AllReadyH.nil
          go_simp
          go_at_call 17; refine (CN1.out _).mono ?_; rintro e V7 ⟨rfl, hV7⟩; have HB7 := (((HF.start U2).drew)).step hV7; clear hV7
          (try clear hHeld)
          refine hK.out _ _ ((HB7).bl) (fun hHeld => ?_)
          clear hK K
          (try simp only [Act.put, List.getElem_toArray, List.getElem_cons_succ, List.getElem_cons_zero, List.setIfInBounds_toArray, List.set_cons_zero, List.set_cons_succ, Act.eval, Array.getD_eq_getD_getElem?, List.getElem?_toArray, List.getElem?_cons_succ, List.getElem?_cons_zero, Option.getD_some])
          refine wpAnyH_ready (rs := [7]) (by kernel_rfl) (by simp) ?_
          refine AllReadyH.cons (o := _) rfl (fun K hK => ?_) AllReadyH.nil
          go_simp
          go_at_call 17; refine (CN2.out _).mono ?_; rintro e V8 ⟨rfl, hV8⟩; have HB8 := (HB7).step hV8; clear hV8
          (try clear hHeld)
          refine hK.out _ _ ((HB8).bl) (fun hHeld => ?_)
          clear hK K
          (try simp only [Act.put, List.getElem_toArray, List.getElem_cons_succ, List.getElem_cons_zero, List.setIfInBounds_toArray, List.set_cons_zero, List.set_cons_succ, Act.eval, Array.getD_eq_getD_getElem?, List.getElem?_toArray, List.getElem?_cons_succ, List.getElem?_cons_zero, Option.getD_some])
          refine wpAnyH_take (i := 8) (v := ?_) rfl (by kernel_rfl) (by kernel_rfl) (by kernel_rfl) (fun _ _ _ h => h) (Or.inl ⟨by kernel_rfl, ?_⟩) (by assumption) ?_
          rotate_left
          · (intro w hSw; (try dsimp only at hSw); go_simp; (try with_reducible rfl))
          simp only [Act.put, List.getElem_toArray, List.getElem_cons_succ, List.getElem_cons_zero, List.setIfInBounds_toArray, List.set_cons_zero, List.set_cons_succ, Act.eval, Array.getD_eq_getD_getElem?, List.getElem?_toArray, List.getElem?_cons_succ, List.getElem?_cons_zero, Option.getD_some]
          refine wpAnyH_take (i := 9) (v := ?_) rfl (by kernel_rfl) (by kernel_rfl) (by kernel_rfl) (fun _ _ _ h => h) (Or.inl ⟨by kernel_rfl, ?_⟩) (by assumption) ?_
          rotate_left
          · (intro w hSw; (try dsimp only at hSw); go_simp; (try with_reducible rfl))
          simp only [Act.put, List.getElem_toArray, List.getElem_cons_succ, List.getElem_cons_zero, List.setIfInBounds_toArray, List.set_cons_zero, List.set_cons_succ, Act.eval, Array.getD_eq_getD_getElem?, List.getElem?_toArray, List.getElem?_cons_succ, List.getElem?_cons_zero, Option.getD_some]
          refine wpAnyH_take (i := 10) rfl (by kernel_rfl) (by kernel_rfl) (by kernel_rfl) (fun _ _ _ h => h) (yi_move (by kernel_rfl) rfl rfl) (by assumption) ?_
          simp only [Act.put, List.getElem_toArray, List.getElem_cons_succ, List.getElem_cons_zero, List.setIfInBounds_toArray, List.set_cons_zero, List.set_cons_succ, Act.eval, Array.getD_eq_getD_getElem?, List.getElem?_toArray, List.getElem?_cons_succ, List.getElem?_cons_zero, Option.getD_some]
          refine wpAnyH_take (i := 11) (v := .agg (List.toArray LH)) rfl (by kernel_rfl) (by kernel_rfl) (by kernel_rfl) (fun _ _ _ h => h) (yieldsIf_load_mid (by kernel_rfl) _ (.tmp 7) (by kernel_rfl) w2.heap.size 0 (by kernel_rfl) LH _ (fun W hW => range_of (Bl.heap hW RH7.out)) undH rfl HLHi.out) (by assumption) ?_
          simp only [Act.put, List.getElem_toArray, List.getElem_cons_succ, List.getElem_cons_zero, List.setIfInBounds_toArray, List.set_cons_zero, List.set_cons_succ, Act.eval, Array.getD_eq_getD_getElem?, List.getElem?_toArray, List.getElem?_cons_succ, List.getElem?_cons_zero, Option.getD_some]
          refine wpAnyH_take (i := 13) rfl (by kernel_rfl) (by kernel_rfl) (by kernel_rfl) (fun _ _ _ h => h) (yi_move (by kernel_rfl) rfl rfl) (by assumption) ?_
          simp only [Act.put, List.getElem_toArray, List.getElem_cons_succ, List.getElem_cons_zero, List.setIfInBounds_toArray, List.set_cons_zero, List.set_cons_succ, Act.eval, Array.getD_eq_getD_getElem?, List.getElem?_toArray, List.getElem?_cons_succ, List.getElem?_cons_zero, Option.getD_some]
          refine wpAnyH_take (i := 14) (v := ?_) rfl (by kernel_rfl) (by kernel_rfl) (by kernel_rfl) (fun _ _ _ h => h) (Or.inl ⟨by kernel_rfl, ?_⟩) (by assumption) ?_
          rotate_left
          · (intro w hSw; (try dsimp only at hSw); go_simp; (try with_reducible rfl))
          simp only [Act.put, List.getElem_toArray, List.getElem_cons_succ, List.getElem_cons_zero, List.setIfInBounds_toArray, List.set_cons_zero, List.set_cons_succ, Act.eval, Array.getD_eq_getD_getElem?, List.getElem?_toArray, List.getElem?_cons_succ, List.getElem?_cons_zero, Option.getD_some]
          refine wpAnyH_take (i := 15) (v := ?_) rfl (by kernel_rfl) (by kernel_rfl) (by kernel_rfl) (fun _ _ _ h => h) (Or.inl ⟨by kernel_rfl, ?_⟩) (by assumption) ?_
          rotate_left
          · (intro w hSw; (try dsimp only at hSw); go_simp; (try with_reducible rfl))
          simp only [Act.put, List.getElem_toArray, List.getElem_cons_succ, List.getElem_cons_zero, List.setIfInBounds_toArray, List.set_cons_zero, List.set_cons_succ, Act.eval, Array.getD_eq_getD_getElem?, List.getElem?_toArray, List.getElem?_cons_succ, List.getElem?_cons_zero, Option.getD_some]
          refine wpAnyH_ready (rs := [12]) (by kernel_rfl) (by simp) ?_
          refine AllReadyH.cons (o := _) rfl (fun K hK => ?_) AllReadyH.nil
          go_simp
          go_at_call 17; refine (CN2.out _).mono ?_; rintro e V16 ⟨rfl, hV16⟩; have HB16 := (HB8).step hV16; clear hV16
          (try clear hHeld)
          refine hK.out _ _ ((HB16).bl) (fun hHeld => ?_)
          clear hK K
          (try simp only [Act.put, List.getElem_toArray, List.getElem_cons_succ, List.getElem_cons_zero, List.setIfInBounds_toArray, List.set_cons_zero, List.set_cons_succ, Act.eval, Array.getD_eq_getD_getElem?, List.getElem?_toArray, List.getElem?_cons_succ, List.getElem?_cons_zero, Option.getD_some])
          refine wpAnyH_take (i := 16) (v := ?_) rfl (by kernel_rfl) (by kernel_rfl) (by kernel_rfl) (fun _ _ _ h => h) (Or.inl ⟨by kernel_rfl, ?_⟩) (by assumption) ?_
          rotate_left
          · (intro w hSw; (try dsimp only at hSw); go_simp; (try with_reducible rfl))
          simp only [Act.put, List.getElem_toArray, List.getElem_cons_succ, List.getElem_cons_zero, List.setIfInBounds_toArray, List.set_cons_zero, List.set_cons_succ, Act.eval, Array.getD_eq_getD_getElem?, List.getElem?_toArray, List.getElem?_cons_succ, List.getElem?_cons_zero, Option.getD_some]
          refine wpAnyH_take (i := 17) (v := ?_) rfl (by kernel_rfl) (by kernel_rfl) (by kernel_rfl) (fun _ _ _ h => h) (Or.inl ⟨by kernel_rfl, ?_⟩) (by assumption) ?_
          rotate_left
          · (intro w hSw; (try dsimp only at hSw); go_simp; (try with_reducible rfl))
          simp only [Act.put, List.getElem_toArray, List.getElem_cons_succ, List.getElem_cons_zero, List.setIfInBounds_toArray, List.set_cons_zero, List.set_cons_succ, Act.eval, Array.getD_eq_getD_getElem?, List.getElem?_toArray, List.getElem?_cons_succ, List.getElem?_cons_zero, Option.getD_some]
          refine wpAnyH_done (by kernel_rfl) ?_ _
          refine NoPanic.normal ?_
          go_wp2_with fail
          go_meet
          exact ⟨rfl, (HB16).bl⟩
        case rest =>
          obtain ⟨rfl, hb⟩ := hcut
          obtain ⟨w8, hw8⟩ : ∃ w, w = wc := ⟨_, rfl⟩
          subst hw8
          have HB8 : Hid (Bl W w8) := HB7.out.step hb
          have RH8 := hidI (hb.heap RH7.out)
          have RA8 := hidI (hb.heap RA7.out)
          clear hb HB7 RH7 RA7 RT7 CN1 CN2 k1 k2 k2' k3 k1n k1d k2d k1m k2m
          go_wp2_with (first
            | (refine wl_build rfl tH #[] rfl [] rfl zH builtH ?_)
            | (refine wl_rowU rfl tH _ _ rfl w8.heap.size (hC HZ.zero) rfl rfl tH zH (heap_alloc_new w8 _) 64 infoH (hC_len _) zH_size (hC_one _) ?_; intro U3 hU3 hO3 hs3; have hb9 : Bl w8 U3 := hO3.bl ((Bl.refl w8).alloc _) (Nat.le_refl _); have RB3 : Hid (U3.heap[w8.heap.size]? = some (.cells (hC (HZ.bk l 0)).toArray tH (0, 0))) := hU3; clear hU3 hO3 hs3))
          obtain ⟨g, hg⟩ : ∃ g, g = w8.heap.size := ⟨_, rfl⟩
          rw [← hg] at RB3 ⊢
          go_loopw [12] (fun u12 wr => ((∃ j : Nat, j < l.length ∧ u12 = .int .i64 (j : Int) ∧ wr.heap[g]? = some (.cells (hC (HZ.bk l (l.length - 1 - j))).toArray tH (0, 0))) ∨ (u12 = .int .i64 (-1) ∧ wr.heap[g]? = some (.cells (hC (HZ.bk l l.length)).toArray tH (0, 0)))) ∧ Bl w8 wr) (fun u12 _ => (intOf u12 + 1).toNat)
          case atStart =>
            refine ⟨?_, hb9⟩
            rcases Nat.eq_zero_or_pos l.length with h0 | h0
            · exact Or.inr ⟨by rw [h0]; rfl, by rw [h0]; exact RB3.out⟩
            · exact Or.inl ⟨l.length - 1, by omega, by congr 1; omega, by rw [Nat.sub_self]; exact RB3.out⟩
          case round =>
            clear hb9 RB3
            obtain ⟨⟨j, hj, rfl, hbx⟩ | ⟨rfl, hbx⟩, hb⟩ := hrel
            · obtain ⟨k, hk⟩ : ∃ k, l[j]? = some k := ⟨l[j], List.getElem?_eq_getElem hj⟩
              have HBW : Hid (Bl W wr) := HB8.out.step hb
              have HB9 : Hid (Bl w8 wr) := hb
              obtain ⟨kb, off, rfl, hkb, hkr⟩ := HV.out j k hk
              have HKB : Hid (kb < wr.heap.size) := Nat.lt_of_lt_of_le hkb (Below.size HBW.out)
              have HKN : Hid (kb ≠ g) := by
                have := Below.size HB8.out
                show _ ≠ _; omega
              have HKR : Hid (wr.rangeAt kb (off + j * 32) (dC k)) := Bl.range HBW.out hkb hkr
              have hsuc := HZ.bk_succ (l := l) (i := l.length - 1 - j) (k := k) (by rw [show l.length - 1 - (l.length - 1 - j) = j by omega]; exact hk)
              rw [show l.length - 1 - j + 1 = l.length - j by omega] at hsuc
              obtain ⟨LKK, HLKK⟩ : ∃ X, Hid ([dC k, dC k].flatten = X) := ⟨_, rfl⟩
              have CW := with_c (HZ.bk l (l.length - 1 - j)) [k, k] 2 rfl (by simp) _ hsuc.symm LKK HLKK.out
              have HLKl : Hid ((dC k).length = 32) := dC_len k
              have HLKi : Hid ((Try.prog.info? tD).map (·.size) = some (dC k).length) := infoD' k
              have HLBi : Hid ((Try.prog.info? tH).map (·.size) = some (hC (HZ.bk l (l.length - 1 - j))).length) := infoH' _
              have HLEl : Hid ((hC (HZ.bk l (l.length - j))).length = 64) := hC_len _
              have HLEo : Hid (∀ u ∈ hC (HZ.bk l (l.length - j)), u.oneCell' = true) := hC_one _
              have HG0 : HG wr g (hC (HZ.bk l (l.length - 1 - j))).toArray wr [] := ⟨Of1.refl g wr, hbx, fun p hp => by cases hp⟩
              have HREL : Hid (∀ U, HG wr g (hC (HZ.bk l (l.length - j))).toArray U [] → (((∃ i : Nat, i < l.length ∧ Value.int .i64 ((j : Int) - 1) = .int .i64 (i : Int) ∧ U.heap[g]? = some (.cells (hC (HZ.bk l (l.length - 1 - i))).toArray tH (0, 0))) ∨ (Value.int .i64 ((j : Int) - 1) = .int .i64 (-1) ∧ U.heap[g]? = some (.cells (hC (HZ.bk l l.length)).toArray tH (0, 0)))) ∧ Bl w8 U)) := fun U h => by
                refine ⟨?_, h.of1.bl HB9.out (by omega)⟩
                rcases Nat.eq_zero_or_pos j with h0 | h0
                · subst h0
                  exact Or.inr ⟨rfl, by have := h.box; rw [Nat.sub_zero] at this; exact this⟩
                · exact Or.inl ⟨j - 1, by omega, by congr 1; omega, by rw [show l.length - 1 - (j - 1) = l.length - j by omega]; exact h.box⟩
              clear hk hkb hkr hsuc hbx hb HV CH1 CH2 HBKL HB8 hg
              generalize dC k = LK at *
              generalize hC (HZ.bk l (l.length - 1 - j)) = LB at *
              generalize hC (HZ.bk l (l.length - j)) = LE at *
              go_upto_region 15 with fail
              refine wp_region_noPanic ?_
              refine wp_region_held_drew (S := fun U => Of1 g wr U) (by kernel_rfl) (((HG0.drew)).of1) (fun hHeld => ?_)
              refine wpAnyH_take (i := 1) rfl (by kernel_rfl) (by kernel_rfl) (by kernel_rfl) (fun _ _ _ h => h) (yi_move (by kernel_rfl) rfl rfl) (by assumption) ?_
              simp only [Act.put, List.getElem_toArray, List.getElem_cons_succ, List.getElem_cons_zero, List.setIfInBounds_toArray, List.set_cons_zero, List.set_cons_succ, Act.eval, Array.getD_eq_getD_getElem?, List.getElem?_toArray, List.getElem?_cons_succ, List.getElem?_cons_zero, Option.getD_some]
              refine wpAnyH_take (i := 2) rfl (by kernel_rfl) (by kernel_rfl) (by kernel_rfl) (fun _ _ _ h => h) (yi_move (by kernel_rfl) rfl rfl) (by assumption) ?_
              simp only [Act.put, List.getElem_toArray, List.getElem_cons_succ, List.getElem_cons_zero, List.setIfInBounds_toArray, List.set_cons_zero, List.set_cons_succ, Act.eval, Array.getD_eq_getD_getElem?, List.getElem?_toArray, List.getElem?_cons_succ, List.getElem?_cons_zero, Option.getD_some]
              refine wpAnyH_take (i := 3) (v := ?_) rfl (by kernel_rfl) (by kernel_rfl) (by kernel_rfl) (fun _ _ _ h => h) (Or.inl ⟨by kernel_rfl, ?_⟩) (by assumption) ?_
              rotate_left
              · (intro w hSw; (try dsimp only at hSw); go_simp; (try with_reducible rfl))
              simp only [Act.put, List.getElem_toArray, List.getElem_cons_succ, List.getElem_cons_zero, List.setIfInBounds_toArray, List.set_cons_zero, List.set_cons_succ, Act.eval, Array.getD_eq_getD_getElem?, List.getElem?_toArray, List.getElem?_cons_succ, List.getElem?_cons_zero, Option.getD_some]
              refine wpAnyH_take (i := 4) (v := .agg (List.toArray LK)) rfl (by kernel_rfl) (by kernel_rfl) (by kernel_rfl) (fun _ _ _ h => h) (yieldsIf_load_mid (by kernel_rfl) _ (.tmp 78) (by kernel_rfl) kb (off + j * 32) (by kernel_rfl) LK _ (fun W hW => Of1.range hW HKB.out HKN.out HKR.out) undD rfl HLKi.out) (by assumption) ?_
              simp only [Act.put, List.getElem_toArray, List.getElem_cons_succ, List.getElem_cons_zero, List.setIfInBounds_toArray, List.set_cons_zero, List.set_cons_succ, Act.eval, Array.getD_eq_getD_getElem?, List.getElem?_toArray, List.getElem?_cons_succ, List.getElem?_cons_zero, Option.getD_some]
              refine wpAnyH_take (i := 5) rfl (by kernel_rfl) (by kernel_rfl) (by kernel_rfl) (fun _ _ _ h => h) (yi_move (by kernel_rfl) rfl rfl) (by assumption) ?_
              simp only [Act.put, List.getElem_toArray, List.getElem_cons_succ, List.getElem_cons_zero, List.setIfInBounds_toArray, List.set_cons_zero, List.set_cons_succ, Act.eval, Array.getD_eq_getD_getElem?, List.getElem?_toArray, List.getElem?_cons_succ, List.getElem?_cons_zero, Option.getD_some]
              refine wpAnyH_take (i := 6) rfl (by kernel_rfl) (by kernel_rfl) (by kernel_rfl) (fun _ _ _ h => h) (yi_move (by kernel_rfl) rfl rfl) (by assumption) ?_
              simp only [Act.put, List.getElem_toArray, List.getElem_cons_succ, List.getElem_cons_zero, List.setIfInBounds_toArray, List.set_cons_zero, List.set_cons_succ, Act.eval, Array.getD_eq_getD_getElem?, List.getElem?_toArray, List.getElem?_cons_succ, List.getElem?_cons_zero, Option.getD_some]
              refine wpAnyH_take (i := 7) (v := ?_) rfl (by kernel_rfl) (by kernel_rfl) (by kernel_rfl) (fun _ _ _ h => h) (Or.inl ⟨by kernel_rfl, ?_⟩) (by assumption) ?_
              rotate_left
              · (intro w hSw; (try dsimp only at hSw); go_simp; (try with_reducible rfl))
              simp only [Act.put, List.getElem_toArray, List.getElem_cons_succ, List.getElem_cons_zero, List.setIfInBounds_toArray, List.set_cons_zero, List.set_cons_succ, Act.eval, Array.getD_eq_getD_getElem?, List.getElem?_toArray, List.getElem?_cons_succ, List.getElem?_cons_zero, Option.getD_some]
              refine wpAnyH_take (i := 8) (v := .agg (List.toArray LK)) rfl (by kernel_rfl) (by kernel_rfl) (by kernel_rfl) (fun _ _ _ h => h) (yieldsIf_load_mid (by kernel_rfl) _ (.tmp 82) (by kernel_rfl) kb (off + j * 32) (by kernel_rfl) LK _ (fun W hW => Of1.range hW HKB.out HKN.out HKR.out) undD rfl HLKi.out) (by assumption) ?_
              simp only [Act.put, List.getElem_toArray, List.getElem_cons_succ, List.getElem_cons_zero, List.setIfInBounds_toArray, List.set_cons_zero, List.set_cons_succ, Act.eval, Array.getD_eq_getD_getElem?, List.getElem?_toArray, List.getElem?_cons_succ, List.getElem?_cons_zero, Option.getD_some]
              refine wpAnyH_ready (rs := [0, 9]) (by kernel_rfl) (by simp) ?_
              refine AllReadyH.cons (o := _) rfl (fun K hK => ?_) ?_
              · refine so_mid (by kernel_rfl) tH _ rfl g 0 (by rfl) LB _ (range_of ((HG0.drew)).box) undH rfl HLBi.out (hK.out _ _ (((HG0.drew)).of1) (fun hHeld => ?_))
                clear hK K
                (try simp only [Act.put, List.getElem_toArray, List.getElem_cons_succ, List.getElem_cons_zero, List.setIfInBounds_toArray, List.set_cons_zero, List.set_cons_succ, Act.eval, Array.getD_eq_getD_getElem?, List.getElem?_toArray, List.getElem?_cons_succ, List.getElem?_cons_zero, Option.getD_some])
                refine wpAnyH_ready (rs := [9]) (by kernel_rfl) (by simp) ?_
                refine AllReadyH.cons (o := _) rfl (fun K hK => ?_) AllReadyH.nil
                refine so_bs (by kernel_rfl) 23 tD 2 _ rfl [LK, LK] (by simp only [List.map_toArray, List.map_cons, List.map_nil]; rfl) rfl 32 (len2 HLKl HLKl) LKK HLKK.out 32 (.agg zD) undDs infoD3 (by omega) (by omega) (by omega) (by omega) (hK.out _ _ (((((HG0.drew)).al (.cells LKK.toArray tD))).of1) (fun hHeld => ?_))
                clear hK K
                (try simp only [Act.put, List.getElem_toArray, List.getElem_cons_succ, List.getElem_cons_zero, List.setIfInBounds_toArray, List.set_cons_zero, List.set_cons_succ, Act.eval, Array.getD_eq_getD_getElem?, List.getElem?_toArray, List.getElem?_cons_succ, List.getElem?_cons_zero, Option.getD_some])
                refine wpAnyH_ready (rs := [10]) (by kernel_rfl) (by simp) ?_
                refine AllReadyH.cons (o := _) rfl (fun K hK => ?_) AllReadyH.nil
                go_simp
                go_at_call 11; refine (CW.out _ _ (((((HG0.drew)).al (.cells LKK.toArray tD))).get (by simp))).mono ?_; rintro e V11 ⟨rfl, hV11⟩; have HB11 := ((((HG0.drew)).al (.cells LKK.toArray tD))).step hV11; clear hV11
                (try clear hHeld)
                refine hK.out _ _ ((HB11).of1) (fun hHeld => ?_)
                clear hK K
                (try simp only [Act.put, List.getElem_toArray, List.getElem_cons_succ, List.getElem_cons_zero, List.setIfInBounds_toArray, List.set_cons_zero, List.set_cons_succ, Act.eval, Array.getD_eq_getD_getElem?, List.getElem?_toArray, List.getElem?_cons_succ, List.getElem?_cons_zero, Option.getD_some])
                refine wpAnyH_ready (rs := [11]) (by kernel_rfl) (by simp) ?_
                refine AllReadyH.cons (o := _) rfl (fun K hK => ?_) AllReadyH.nil
                refine so_rowU (by kernel_rfl) tH _ _ rfl g LE rfl rfl tH LB.toArray (HB11).box 64 infoH HLEl.out (by have := HLBi.out; rw [infoH] at this; simpa using (Option.some.inj this).symm) HLEo.out (fun U12 hU12 hO12 => ?_)
                have HB12 := (HB11).st hO12 hU12
                refine hK.out _ _ ((HB12).of1) (fun hHeld => ?_)
                clear hK K
                (try simp only [Act.put, List.getElem_toArray, List.getElem_cons_succ, List.getElem_cons_zero, List.setIfInBounds_toArray, List.set_cons_zero, List.set_cons_succ, Act.eval, Array.getD_eq_getD_getElem?, List.getElem?_toArray, List.getElem?_cons_succ, List.getElem?_cons_zero, Option.getD_some])
                refine wpAnyH_done (by kernel_rfl) ?_ _
                refine NoPanic.normal ?_
                go_wp2_with fail
                go_roundw
                case rel => exact HREL.out _ HB12
                case measure => simp [intOf] <;> omega
              refine AllReadyH.cons (o := _) rfl (fun K hK => ?_) ?_
              · refine so_bs (by kernel_rfl) 23 tD 2 _ rfl [LK, LK] (by simp only [List.map_toArray, List.map_cons, List.map_nil]; rfl) rfl 32 (len2 HLKl HLKl) LKK HLKK.out 32 (.agg zD) undDs infoD3 (by omega) (by omega) (by omega) (by omega) (hK.out _ _ (((((HG0.drew)).al (.cells LKK.toArray tD))).of1) (fun hHeld => ?_))
                clear hK K
                (try simp only [Act.put, List.getElem_toArray, List.getElem_cons_succ, List.getElem_cons_zero, List.setIfInBounds_toArray, List.set_cons_zero, List.set_cons_succ, Act.eval, Array.getD_eq_getD_getElem?, List.getElem?_toArray, List.getElem?_cons_succ, List.getElem?_cons_zero, Option.getD_some])
                refine wpAnyH_ready (rs := [0]) (by kernel_rfl) (by simp) ?_
                refine AllReadyH.cons (o := _) rfl (fun K hK => ?_) AllReadyH.nil
                refine so_mid (by kernel_rfl) tH _ rfl g 0 (by rfl) LB _ (range_of ((((HG0.drew)).al (.cells LKK.toArray tD))).box) undH rfl HLBi.out (hK.out _ _ (((((HG0.drew)).al (.cells LKK.toArray tD))).of1) (fun hHeld => ?_))
                clear hK K
                (try simp only [Act.put, List.getElem_toArray, List.getElem_cons_succ, List.getElem_cons_zero, List.setIfInBounds_toArray, List.set_cons_zero, List.set_cons_succ, Act.eval, Array.getD_eq_getD_getElem?, List.getElem?_toArray, List.getElem?_cons_succ, List.getElem?_cons_zero, Option.getD_some])
                refine wpAnyH_ready (rs := [10]) (by kernel_rfl) (by simp) ?_
                refine AllReadyH.cons (o := _) rfl (fun K hK => ?_) AllReadyH.nil
                go_simp
                go_at_call 11; refine (CW.out _ _ (((((HG0.drew)).al (.cells LKK.toArray tD))).get (by simp))).mono ?_; rintro e V14 ⟨rfl, hV14⟩; have HB14 := ((((HG0.drew)).al (.cells LKK.toArray tD))).step hV14; clear hV14
                (try clear hHeld)
                refine hK.out _ _ ((HB14).of1) (fun hHeld => ?_)
                clear hK K
                (try simp only [Act.put, List.getElem_toArray, List.getElem_cons_succ, List.getElem_cons_zero, List.setIfInBounds_toArray, List.set_cons_zero, List.set_cons_succ, Act.eval, Array.getD_eq_getD_getElem?, List.getElem?_toArray, List.getElem?_cons_succ, List.getElem?_cons_zero, Option.getD_some])
                refine wpAnyH_ready (rs := [11]) (by kernel_rfl) (by simp) ?_
                refine AllReadyH.cons (o := _) rfl (fun K hK => ?_) AllReadyH.nil
                refine so_rowU (by kernel_rfl) tH _ _ rfl g LE rfl rfl tH LB.toArray (HB14).box 64 infoH HLEl.out (by have := HLBi.out; rw [infoH] at this; simpa using (Option.some.inj this).symm) HLEo.out (fun U15 hU15 hO15 => ?_)
                have HB15 := (HB14).st hO15 hU15
                refine hK.out _ _ ((HB15).of1) (fun hHeld => ?_)
                clear hK K
                (try simp only [Act.put, List.getElem_toArray, List.getElem_cons_succ, List.getElem_cons_zero, List.setIfInBounds_toArray, List.set_cons_zero, List.set_cons_succ, Act.eval, Array.getD_eq_getD_getElem?, List.getElem?_toArray, List.getElem?_cons_succ, List.getElem?_cons_zero, Option.getD_some])
                refine wpAnyH_done (by kernel_rfl) ?_ _
                refine NoPanic.normal ?_
                go_wp2_with fail
                go_roundw
                case rel => exact HREL.out _ HB15
                case measure => simp [intOf] <;> omega
              exact AllReadyH.nil
            · have HBW : Hid (Bl W wr) := HB8.out.step hb
              have RH9 := hidI (hb.heap RH8.out)
              have RA9 := hidI (hb.heap RA8.out)
              rw [HBKL.out] at hbx
              have RG9 := hidI hbx
              clear hb hbx HB8 RH8 RA8 HBKL hg
              obtain ⟨w9, hw9⟩ : ∃ w, w = wr := ⟨_, rfl⟩
              subst hw9
              go_wp2_with fail
              go_loopw [13] (fun u13 wr => ∃ i : Nat, i ≤ l.length ∧ u13 = .int .i64 (i : Int) ∧ Bl w9 wr) (fun u13 _ => l.length - (intOf u13).toNat)
              case atStart => exact ⟨0, by omega, rfl, Bl.refl w9⟩
              case round =>
                obtain ⟨i, hi, rfl, hb⟩ := hrel
                have HBX : Hid (Bl W wr) := HBW.out.step hb
                have HB9 : Hid (Bl w9 wr) := hb
                have RH7 := hidI (hb.heap RH9.out)
                have RA7 := hidI (hb.heap RA9.out)
                have RG7 := hidI (hb.heap RG9.out)
                clear hb HBW RH9 RA9 RG9
                by_cases hlt : i < l.length
                · obtain ⟨k, hk⟩ : ∃ k, l[i]? = some k := ⟨l[i], List.getElem?_eq_getElem hlt⟩
                  obtain ⟨kb, off, rfl, hkb, hkr⟩ := (HV.out.bl HBX.out) i k hk
                  have HKB : Hid (kb < wr.heap.size) := hkb
                  have HKR : Hid (wr.rangeAt kb (off + i * 32) (dC k)) := hkr
                  have C1 := CH1.out k (List.mem_of_getElem? hk)
                  have C2 := CH2.out k (List.mem_of_getElem? hk)
                  have C1h : Hid (∀ U, Calls Try.prog 15 #[.agg LH.toArray, .agg (dC k).toArray] U fun e w' => e = .returned (.bool true) ∧ Bl U w') := C1
                  have C2h : Hid (∀ U, Calls Try.prog 15 #[.agg LA.toArray, .agg (dC k).toArray] U fun e w' => e = .returned (.bool true) ∧ Bl U w') := C2
                  have HKi : Hid ((Try.prog.info? tD).map (·.size) = some (dC k).length) := infoD' k
                  clear hk hkb hkr C1 C2 CH1 CH2 HV
                  generalize dC k = LK at *
                  go_upto_region 19 with fail
                  refine wp_region_noPanic ?_
                  refine wp_region_held_drew (S := fun U => Bl wr U) (by kernel_rfl) ((((HF.start wr).drew)).bl) (fun hHeld => ?_)
                  refine wpAnyH_take (i := 0) (v := .agg (List.toArray LH)) rfl (by kernel_rfl) (by kernel_rfl) (by kernel_rfl) (fun _ _ _ h => h) (yieldsIf_load_mid (by kernel_rfl) _ (.tmp 7) (by kernel_rfl) w2.heap.size 0 (by kernel_rfl) LH _ (fun W hW => range_of (Bl.heap hW RH7.out)) undH rfl HLHi.out) (by assumption) ?_
                  simp only [Act.put, List.getElem_toArray, List.getElem_cons_succ, List.getElem_cons_zero, List.setIfInBounds_toArray, List.set_cons_zero, List.set_cons_succ, Act.eval, Array.getD_eq_getD_getElem?, List.getElem?_toArray, List.getElem?_cons_succ, List.getElem?_cons_zero, Option.getD_some]
                  refine wpAnyH_take (i := 1) rfl (by kernel_rfl) (by kernel_rfl) (by kernel_rfl) (fun _ _ _ h => h) (yi_move (by kernel_rfl) rfl rfl) (by assumption) ?_
                  simp only [Act.put, List.getElem_toArray, List.getElem_cons_succ, List.getElem_cons_zero, List.setIfInBounds_toArray, List.set_cons_zero, List.set_cons_succ, Act.eval, Array.getD_eq_getD_getElem?, List.getElem?_toArray, List.getElem?_cons_succ, List.getElem?_cons_zero, Option.getD_some]
                  refine wpAnyH_take (i := 2) rfl (by kernel_rfl) (by kernel_rfl) (by kernel_rfl) (fun _ _ _ h => h) (yi_move (by kernel_rfl) rfl rfl) (by assumption) ?_
                  simp only [Act.put, List.getElem_toArray, List.getElem_cons_succ, List.getElem_cons_zero, List.setIfInBounds_toArray, List.set_cons_zero, List.set_cons_succ, Act.eval, Array.getD_eq_getD_getElem?, List.getElem?_toArray, List.getElem?_cons_succ, List.getElem?_cons_zero, Option.getD_some]
                  refine wpAnyH_take (i := 3) (v := ?_) rfl (by kernel_rfl) (by kernel_rfl) (by kernel_rfl) (fun _ _ _ h => h) (Or.inl ⟨by kernel_rfl, ?_⟩) (by assumption) ?_
                  rotate_left
                  · (intro w hSw; (try dsimp only at hSw); go_simp; (try with_reducible rfl))
                  simp only [Act.put, List.getElem_toArray, List.getElem_cons_succ, List.getElem_cons_zero, List.setIfInBounds_toArray, List.set_cons_zero, List.set_cons_succ, Act.eval, Array.getD_eq_getD_getElem?, List.getElem?_toArray, List.getElem?_cons_succ, List.getElem?_cons_zero, Option.getD_some]
                  refine wpAnyH_take (i := 4) (v := .agg (List.toArray LK)) rfl (by kernel_rfl) (by kernel_rfl) (by kernel_rfl) (fun _ _ _ h => h) (yieldsIf_load_mid (by kernel_rfl) _ (.tmp 95) (by kernel_rfl) kb (off + i * 32) (by kernel_rfl) LK _ (fun W hW => Bl.range hW HKB.out HKR.out) undD rfl HKi.out) (by assumption) ?_
                  simp only [Act.put, List.getElem_toArray, List.getElem_cons_succ, List.getElem_cons_zero, List.setIfInBounds_toArray, List.set_cons_zero, List.set_cons_succ, Act.eval, Array.getD_eq_getD_getElem?, List.getElem?_toArray, List.getElem?_cons_succ, List.getElem?_cons_zero, Option.getD_some]
                  refine wpAnyH_ready (rs := [5]) (by kernel_rfl) (by simp) ?_
                  refine AllReadyH.cons (o := _) rfl (fun K hK => ?_) AllReadyH.nil
                  go_simp
                  go_at_call 15; refine (C1h.out _).mono ?_; rintro e V6 ⟨rfl, hV6⟩; have HB6 := (((HF.start wr).drew)).step hV6; clear hV6
                  (try clear hHeld)
                  refine hK.out _ _ ((HB6).bl) (fun hHeld => ?_)
                  clear hK K
                  (try simp only [Act.put, List.getElem_toArray, List.getElem_cons_succ, List.getElem_cons_zero, List.setIfInBounds_toArray, List.set_cons_zero, List.set_cons_succ, Act.eval, Array.getD_eq_getD_getElem?, List.getElem?_toArray, List.getElem?_cons_succ, List.getElem?_cons_zero, Option.getD_some])
                  refine wpAnyH_take (i := 6) (v := ?_) rfl (by kernel_rfl) (by kernel_rfl) (by kernel_rfl) (fun _ _ _ h => h) (Or.inl ⟨by kernel_rfl, ?_⟩) (by assumption) ?_
                  rotate_left
                  · (intro w hSw; (try dsimp only at hSw); go_simp; (try with_reducible rfl))
                  simp only [Act.put, List.getElem_toArray, List.getElem_cons_succ, List.getElem_cons_zero, List.setIfInBounds_toArray, List.set_cons_zero, List.set_cons_succ, Act.eval, Array.getD_eq_getD_getElem?, List.getElem?_toArray, List.getElem?_cons_succ, List.getElem?_cons_zero, Option.getD_some]
                  refine wpAnyH_take (i := 7) rfl (by kernel_rfl) (by kernel_rfl) (by kernel_rfl) (fun _ _ _ h => h) (yi_move (by kernel_rfl) rfl rfl) (by assumption) ?_
                  simp only [Act.put, List.getElem_toArray, List.getElem_cons_succ, List.getElem_cons_zero, List.setIfInBounds_toArray, List.set_cons_zero, List.set_cons_succ, Act.eval, Array.getD_eq_getD_getElem?, List.getElem?_toArray, List.getElem?_cons_succ, List.getElem?_cons_zero, Option.getD_some]
                  refine wpAnyH_take (i := 8) (v := .agg (List.toArray LA)) rfl (by kernel_rfl) (by kernel_rfl) (by kernel_rfl) (fun _ _ _ h => h) (yieldsIf_load_mid (by kernel_rfl) _ (.tmp 10) (by kernel_rfl) w6.heap.size 0 (by kernel_rfl) LA _ (fun W hW => range_of (Bl.heap hW RA7.out)) undH rfl HLAi.out) (by assumption) ?_
                  simp only [Act.put, List.getElem_toArray, List.getElem_cons_succ, List.getElem_cons_zero, List.setIfInBounds_toArray, List.set_cons_zero, List.set_cons_succ, Act.eval, Array.getD_eq_getD_getElem?, List.getElem?_toArray, List.getElem?_cons_succ, List.getElem?_cons_zero, Option.getD_some]
                  refine wpAnyH_take (i := 9) rfl (by kernel_rfl) (by kernel_rfl) (by kernel_rfl) (fun _ _ _ h => h) (yi_move (by kernel_rfl) rfl rfl) (by assumption) ?_
                  simp only [Act.put, List.getElem_toArray, List.getElem_cons_succ, List.getElem_cons_zero, List.setIfInBounds_toArray, List.set_cons_zero, List.set_cons_succ, Act.eval, Array.getD_eq_getD_getElem?, List.getElem?_toArray, List.getElem?_cons_succ, List.getElem?_cons_zero, Option.getD_some]
                  refine wpAnyH_take (i := 10) rfl (by kernel_rfl) (by kernel_rfl) (by kernel_rfl) (fun _ _ _ h => h) (yi_move (by kernel_rfl) rfl rfl) (by assumption) ?_
                  simp only [Act.put, List.getElem_toArray, List.getElem_cons_succ, List.getElem_cons_zero, List.setIfInBounds_toArray, List.set_cons_zero, List.set_cons_succ, Act.eval, Array.getD_eq_getD_getElem?, List.getElem?_toArray, List.getElem?_cons_succ, List.getElem?_cons_zero, Option.getD_some]
                  refine wpAnyH_take (i := 11) (v := ?_) rfl (by kernel_rfl) (by kernel_rfl) (by kernel_rfl) (fun _ _ _ h => h) (Or.inl ⟨by kernel_rfl, ?_⟩) (by assumption) ?_
                  rotate_left
                  · (intro w hSw; (try dsimp only at hSw); go_simp; (try with_reducible rfl))
                  simp only [Act.put, List.getElem_toArray, List.getElem_cons_succ, List.getElem_cons_zero, List.setIfInBounds_toArray, List.set_cons_zero, List.set_cons_succ, Act.eval, Array.getD_eq_getD_getElem?, List.getElem?_toArray, List.getElem?_cons_succ, List.getElem?_cons_zero, Option.getD_some]
                  refine wpAnyH_take (i := 12) (v := .agg (List.toArray LK)) rfl (by kernel_rfl) (by kernel_rfl) (by kernel_rfl) (fun _ _ _ h => h) (yieldsIf_load_mid (by kernel_rfl) _ (.tmp 103) (by kernel_rfl) kb (off + i * 32) (by kernel_rfl) LK _ (fun W hW => Bl.range hW HKB.out HKR.out) undD rfl HKi.out) (by assumption) ?_
                  simp only [Act.put, List.getElem_toArray, List.getElem_cons_succ, List.getElem_cons_zero, List.setIfInBounds_toArray, List.set_cons_zero, List.set_cons_succ, Act.eval, Array.getD_eq_getD_getElem?, List.getElem?_toArray, List.getElem?_cons_succ, List.getElem?_cons_zero, Option.getD_some]
                  refine wpAnyH_ready (rs := [13]) (by kernel_rfl) (by simp) ?_
                  refine AllReadyH.cons (o := _) rfl (fun K hK => ?_) AllReadyH.nil
                  go_simp
                  go_at_call 15; refine (C2h.out _).mono ?_; rintro e V14 ⟨rfl, hV14⟩; have HB14 := (HB6).step hV14; clear hV14
                  (try clear hHeld)
                  refine hK.out _ _ ((HB14).bl) (fun hHeld => ?_)
                  clear hK K
                  (try simp only [Act.put, List.getElem_toArray, List.getElem_cons_succ, List.getElem_cons_zero, List.setIfInBounds_toArray, List.set_cons_zero, List.set_cons_succ, Act.eval, Array.getD_eq_getD_getElem?, List.getElem?_toArray, List.getElem?_cons_succ, List.getElem?_cons_zero, Option.getD_some])
                  refine wpAnyH_take (i := 14) (v := ?_) rfl (by kernel_rfl) (by kernel_rfl) (by kernel_rfl) (fun _ _ _ h => h) (Or.inl ⟨by kernel_rfl, ?_⟩) (by assumption) ?_
                  rotate_left
                  · (intro w hSw; (try dsimp only at hSw); go_simp; (try with_reducible rfl))
                  simp only [Act.put, List.getElem_toArray, List.getElem_cons_succ, List.getElem_cons_zero, List.setIfInBounds_toArray, List.set_cons_zero, List.set_cons_succ, Act.eval, Array.getD_eq_getD_getElem?, List.getElem?_toArray, List.getElem?_cons_succ, List.getElem?_cons_zero, Option.getD_some]
                  refine wpAnyH_take (i := 15) (v := ?_) rfl (by kernel_rfl) (by kernel_rfl) (by kernel_rfl) (fun _ _ _ h => h) (Or.inl ⟨by kernel_rfl, ?_⟩) (by assumption) ?_
                  rotate_left
                  · (intro w hSw; (try dsimp only at hSw); go_simp; (try with_reducible rfl))
                  simp only [Act.put, List.getElem_toArray, List.getElem_cons_succ, List.getElem_cons_zero, List.setIfInBounds_toArray, List.set_cons_zero, List.set_cons_succ, Act.eval, Array.getD_eq_getD_getElem?, List.getElem?_toArray, List.getElem?_cons_succ, List.getElem?_cons_zero, Option.getD_some]
                  refine wpAnyH_done (by kernel_rfl) ?_ _
                  refine NoPanic.normal ?_
                  go_wp2_with fail
                  go_roundw
                  case rel => exact ⟨i + 1, by omega, by go_num, HB9.out.step (HB14).bl⟩
                  case measure => simp [intOf]; omega
                · obtain rfl : i = l.length := by omega
                  go_upto_region 21 with fail
                  refine wp_region_noPanic ?_
                  refine wp_region_held_drew (S := fun U => Bl wr U) (by kernel_rfl) ((((HF.start wr).drew)).bl) (fun hHeld => ?_)
                  refine wpAnyH_take (i := 0) (v := .agg (List.toArray LH)) rfl (by kernel_rfl) (by kernel_rfl) (by kernel_rfl) (fun _ _ _ h => h) (yieldsIf_load_mid (by kernel_rfl) _ (.tmp 11) (by kernel_rfl) g 0 (by kernel_rfl) LH _ (fun W hW => range_of (Bl.heap hW RG7.out)) undH rfl HLHi.out) (by assumption) ?_
                  simp only [Act.put, List.getElem_toArray, List.getElem_cons_succ, List.getElem_cons_zero, List.setIfInBounds_toArray, List.set_cons_zero, List.set_cons_succ, Act.eval, Array.getD_eq_getD_getElem?, List.getElem?_toArray, List.getElem?_cons_succ, List.getElem?_cons_zero, Option.getD_some]
                  refine wpAnyH_take (i := 1) (v := .agg (List.toArray LH)) rfl (by kernel_rfl) (by kernel_rfl) (by kernel_rfl) (fun _ _ _ h => h) (yieldsIf_load_mid (by kernel_rfl) _ (.tmp 7) (by kernel_rfl) w2.heap.size 0 (by kernel_rfl) LH _ (fun W hW => range_of (Bl.heap hW RH7.out)) undH rfl HLHi.out) (by assumption) ?_
                  simp only [Act.put, List.getElem_toArray, List.getElem_cons_succ, List.getElem_cons_zero, List.setIfInBounds_toArray, List.set_cons_zero, List.set_cons_succ, Act.eval, Array.getD_eq_getD_getElem?, List.getElem?_toArray, List.getElem?_cons_succ, List.getElem?_cons_zero, Option.getD_some]
                  refine wpAnyH_take (i := 2) (v := ?_) rfl (by kernel_rfl) (by kernel_rfl) (by kernel_rfl) (fun _ _ _ h => h) (Or.inl ⟨by kernel_rfl, ?_⟩) (by assumption) ?_
                  rotate_left
                  · (intro w hSw; (try dsimp only at hSw); go_simp; (try with_reducible rfl))
                  simp only [Act.put, List.getElem_toArray, List.getElem_cons_succ, List.getElem_cons_zero, List.setIfInBounds_toArray, List.set_cons_zero, List.set_cons_succ, Act.eval, Array.getD_eq_getD_getElem?, List.getElem?_toArray, List.getElem?_cons_succ, List.getElem?_cons_zero, Option.getD_some]
                  refine wpAnyH_take (i := 3) rfl (by kernel_rfl) (by kernel_rfl) (by kernel_rfl) (fun _ _ _ h => h) (yi_move (by kernel_rfl) rfl rfl) (by assumption) ?_
                  simp only [Act.put, List.getElem_toArray, List.getElem_cons_succ, List.getElem_cons_zero, List.setIfInBounds_toArray, List.set_cons_zero, List.set_cons_succ, Act.eval, Array.getD_eq_getD_getElem?, List.getElem?_toArray, List.getElem?_cons_succ, List.getElem?_cons_zero, Option.getD_some]
                  refine wpAnyH_take (i := 4) (v := .agg (List.toArray LA)) rfl (by kernel_rfl) (by kernel_rfl) (by kernel_rfl) (fun _ _ _ h => h) (yieldsIf_load_mid (by kernel_rfl) _ (.tmp 10) (by kernel_rfl) w6.heap.size 0 (by kernel_rfl) LA _ (fun W hW => range_of (Bl.heap hW RA7.out)) undH rfl HLAi.out) (by assumption) ?_
                  simp only [Act.put, List.getElem_toArray, List.getElem_cons_succ, List.getElem_cons_zero, List.setIfInBounds_toArray, List.set_cons_zero, List.set_cons_succ, Act.eval, Array.getD_eq_getD_getElem?, List.getElem?_toArray, List.getElem?_cons_succ, List.getElem?_cons_zero, Option.getD_some]
                  refine wpAnyH_take (i := 5) (v := .agg (List.toArray LH)) rfl (by kernel_rfl) (by kernel_rfl) (by kernel_rfl) (fun _ _ _ h => h) (yieldsIf_load_mid (by kernel_rfl) _ (.tmp 7) (by kernel_rfl) w2.heap.size 0 (by kernel_rfl) LH _ (fun W hW => range_of (Bl.heap hW RH7.out)) undH rfl HLHi.out) (by assumption) ?_
                  simp only [Act.put, List.getElem_toArray, List.getElem_cons_succ, List.getElem_cons_zero, List.setIfInBounds_toArray, List.set_cons_zero, List.set_cons_succ, Act.eval, Array.getD_eq_getD_getElem?, List.getElem?_toArray, List.getElem?_cons_succ, List.getElem?_cons_zero, Option.getD_some]
                  refine wpAnyH_take (i := 8) (v := .agg (List.toArray LA)) rfl (by kernel_rfl) (by kernel_rfl) (by kernel_rfl) (fun _ _ _ h => h) (yieldsIf_load_mid (by kernel_rfl) _ (.tmp 10) (by kernel_rfl) w6.heap.size 0 (by kernel_rfl) LA _ (fun W hW => range_of (Bl.heap hW RA7.out)) undH rfl HLAi.out) (by assumption) ?_
                  simp only [Act.put, List.getElem_toArray, List.getElem_cons_succ, List.getElem_cons_zero, List.setIfInBounds_toArray, List.set_cons_zero, List.set_cons_succ, Act.eval, Array.getD_eq_getD_getElem?, List.getElem?_toArray, List.getElem?_cons_succ, List.getElem?_cons_zero, Option.getD_some]
                  refine wpAnyH_ready (rs := [6]) (by kernel_rfl) (by simp) ?_
                  refine AllReadyH.cons (o := _) rfl (fun K hK => ?_) AllReadyH.nil
                  refine so_bs (by kernel_rfl) 22 tH 2 _ rfl [LA, LH] (by simp only [List.map_toArray, List.map_cons, List.map_nil]; rfl) rfl 64 (len2 HLAl HLHl) LAH HLAH.out 64 (.agg zH) undHs infoH3 (by omega) (by omega) (by omega) (by omega) (hK.out _ _ ((((((HF.start wr).drew)).al (.cells LAH.toArray tH))).bl) (fun hHeld => ?_))
                  clear hK K
                  (try simp only [Act.put, List.getElem_toArray, List.getElem_cons_succ, List.getElem_cons_zero, List.setIfInBounds_toArray, List.set_cons_zero, List.set_cons_succ, Act.eval, Array.getD_eq_getD_getElem?, List.getElem?_toArray, List.getElem?_cons_succ, List.getElem?_cons_zero, Option.getD_some])
                  refine wpAnyH_ready (rs := [7]) (by kernel_rfl) (by simp) ?_
                  refine AllReadyH.cons (o := _) rfl (fun K hK => ?_) AllReadyH.nil
                  go_simp
                  go_at_call 10; refine (CJ2.out _ _ ((((((HF.start wr).drew)).al (.cells LAH.toArray tH))).get (by simp))).mono ?_; rintro e V9 ⟨rfl, hV9⟩; have HB9 := (((((HF.start wr).drew)).al (.cells LAH.toArray tH))).step hV9; clear hV9
                  (try clear hHeld)
                  refine hK.out _ _ ((HB9).bl) (fun hHeld => ?_)
                  clear hK K
                  (try simp only [Act.put, List.getElem_toArray, List.getElem_cons_succ, List.getElem_cons_zero, List.setIfInBounds_toArray, List.set_cons_zero, List.set_cons_succ, Act.eval, Array.getD_eq_getD_getElem?, List.getElem?_toArray, List.getElem?_cons_succ, List.getElem?_cons_zero, Option.getD_some])
                  refine wpAnyH_take (i := 9) (v := ?_) rfl (by kernel_rfl) (by kernel_rfl) (by kernel_rfl) (fun _ _ _ h => h) (Or.inl ⟨by kernel_rfl, ?_⟩) (by assumption) ?_
                  rotate_left
                  · (intro w hSw; (try dsimp only at hSw); go_simp; (try with_reducible rfl))
                  simp only [Act.put, List.getElem_toArray, List.getElem_cons_succ, List.getElem_cons_zero, List.setIfInBounds_toArray, List.set_cons_zero, List.set_cons_succ, Act.eval, Array.getD_eq_getD_getElem?, List.getElem?_toArray, List.getElem?_cons_succ, List.getElem?_cons_zero, Option.getD_some]
                  refine wpAnyH_take (i := 10) (v := ?_) rfl (by kernel_rfl) (by kernel_rfl) (by kernel_rfl) (fun _ _ _ h => h) (Or.inl ⟨by kernel_rfl, ?_⟩) (by assumption) ?_
                  rotate_left
                  · (intro w hSw; (try dsimp only at hSw); go_simp; (try with_reducible rfl))
                  simp only [Act.put, List.getElem_toArray, List.getElem_cons_succ, List.getElem_cons_zero, List.setIfInBounds_toArray, List.set_cons_zero, List.set_cons_succ, Act.eval, Array.getD_eq_getD_getElem?, List.getElem?_toArray, List.getElem?_cons_succ, List.getElem?_cons_zero, Option.getD_some]
                  refine wpAnyH_take (i := 11) rfl (by kernel_rfl) (by kernel_rfl) (by kernel_rfl) (fun _ _ _ h => h) (yi_assign (by kernel_rfl) rfl rfl) (by assumption) ?_
                  simp only [Act.put, List.getElem_toArray, List.getElem_cons_succ, List.getElem_cons_zero, List.setIfInBounds_toArray, List.set_cons_zero, List.set_cons_succ, Act.eval, Array.getD_eq_getD_getElem?, List.getElem?_toArray, List.getElem?_cons_succ, List.getElem?_cons_zero, Option.getD_some]
                  refine wpAnyH_done (by kernel_rfl) ?_ _
                  refine NoPanic.normal ?_
                  go_wp2_with fail
                  go_ret
                  exact ⟨rfl, HBX.out.step (HB9).bl⟩
    · go_enter Try.func5, Try.ntmps5
      go_wp2_with (first
        | go_big_skip
        | (go_at_call 9; refine (C0.out _).mono ?_; clear C0; rintro e w1 ⟨rfl, hb1⟩))
      go_ret
      exact ⟨rfl, hb1⟩
  · go_enter Try.func5, Try.ntmps5
    go_wp2_with (first
      | go_big_skip
      | (go_at_call 9; refine (C0.out _).mono ?_; clear C0; rintro e w1 ⟨rfl, hb1⟩))
    go_ret
    exact ⟨rfl, hb1⟩
end Go.Proofs.Ytokicaacllaijaa
