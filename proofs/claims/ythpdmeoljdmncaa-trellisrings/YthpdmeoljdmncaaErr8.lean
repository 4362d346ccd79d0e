/- TrellisErrors, walked. -/
import Derived.Test.YthpdmeoljdmncaaGre8
import Derived.Test.YthpdmeoljdmncaaAw8
import Derived.Test.YthpdmeoljdmncaaTM3
import Derived.Test.YthpdmeoljdmncaaZG
import Derived.Test.YthpdmeoljdmncaaOrd8
namespace Go.Proofs.Ythpdmeoljdmncaa
open Go.RowKit
set_option linter.unusedVariables false
set_option linter.unusedSimpArgs false

theorem can_snoc {g : RC.Gr} {a : RC.Ac} (h : RC.can g = true) (hl : g.2.length < 12) (ha : RC.canA a = true) : RC.can (g.1, g.2 ++ [a]) = true := by
  unfold RC.can at h ⊢
  simp only [Bool.and_eq_true, decide_eq_true_eq] at h ⊢
  obtain ⟨⟨⟨h1, h2⟩, h3⟩, h4⟩ := h
  refine ⟨⟨⟨h1, by simp; omega⟩, h3⟩, ?_⟩
  rw [List.all_append, h4]; simp [ha]
theorem nm_snoc (g : RC.Gr) (a : RC.Ac) : TR.nm (g.1, g.2 ++ [a]) = TR.nm g ++ [a.1] := by simp [TR.nm]
theorem canA_of {g : RC.Gr} (h : RC.can g = true) {a : RC.Ac} (ha : a ∈ g.2) : RC.canA a = true := by
  unfold RC.can at h
  simp only [Bool.and_eq_true] at h
  exact List.all_eq_true.1 h.2 a ha
theorem isNm_of {a : RC.Ac} (h : RC.canA a = true) : RC.isNm a.1 = true := by
  unfold RC.canA at h
  simp only [Bool.and_eq_true] at h
  exact h.1.1.1
theorem chk_21 {g : RC.Gr} (h : TR.Good g) (hl : g.2.length < 12) {t : RC.Ac} (ht : t ∈ g.2) : TR.chk (g.1, g.2 ++ [(t.1, [], [])]) = 21 := by
  have hc : RC.can (g.1, g.2 ++ [(t.1, [], [])]) = true := can_snoc h.can hl (by unfold RC.canA; simp [isNm_of (canA_of h.can ht)])
  unfold TR.chk
  rw [if_neg (by rw [hc]; decide), if_pos]
  rw [nm_snoc, List.nodup_append]
  rintro ⟨_, _, h3⟩
  exact h3 t.1 (by unfold TR.nm; exact List.mem_append.2 (Or.inr (List.mem_map.2 ⟨t, ht, rfl⟩))) t.1 (by simp) rfl
def z7 : List UInt8 := [122, 122, 122, 122, 122, 122, 122]
def y8 : List UInt8 := [121, 121, 121, 121, 121, 121, 121, 121]
theorem chk_22 {g : RC.Gr} (h : TR.Good g) (hl : g.2.length < 12) (hz : z7 ∉ TR.nm g) (hy : y8 ∉ TR.nm g) : TR.chk (g.1, g.2 ++ [(z7, [y8, z7], [])]) = 22 := by
  have hc : RC.can (g.1, g.2 ++ [(z7, [y8, z7], [])]) = true := can_snoc h.can hl (by decide)
  have hn : (TR.nm (g.1, g.2 ++ [(z7, [y8, z7], [])])).Nodup := by
    rw [nm_snoc, List.nodup_append]
    exact ⟨h.nd, by simp, fun x hx y hy' e => by simp at hy'; subst hy'; subst e; exact hz hx⟩
  have hm : TR.miss (g.1, g.2 ++ [(z7, [y8, z7], [])]) = true := by
    unfold TR.miss
    rw [List.any_append, Bool.or_eq_true]
    refine Or.inr ?_
    simp only [List.any_cons, List.any_nil, Bool.or_false, TR.missA]
    rw [Bool.or_eq_true]
    refine Or.inl ?_
    rw [nm_snoc]
    have : y8 ≠ z7 := by decide
    simp [hy, this]
  unfold TR.chk
  rw [if_neg (by rw [hc]; decide), if_neg (by simp [hn]), if_pos hm]
theorem AO.setK {N M b i : Nat} {w : World} {v u : Value} {A : List RC.Ac} {ys : List (Option Addr × Nat)} {C : Array Value} {fr : Nat × Nat} (h : AO N M w v A ys) (hb : w.heap[b]? = some (.cells C 25 fr)) (hN : N ≤ b) : AO N M (w.setCell ⟨b, i, none⟩ u) v A ys := by
  refine ⟨ownsRow_setK h.own hb (by decide), h.len, fun k t x c h1 h2 => ?_, h.nm, by simp; exact h.m⟩
  rcases h.ins k t x c h1 h2 with h3 | h3
  · exact Or.inl (h3.below ((Below.refl N w).setCell hN _) (Nat.le_refl _))
  · exact Or.inr (ownsRow_setK h3 hb (by decide))
/-- a build whose actions are a row of one's own -/
theorem AO.ga {w0 w : World} {M : Nat} {v : Value} {A : List RC.Ac} {ys : List (Option Addr × Nat)} {S : List (List UInt8)} {sa : Option Addr} {sc : Nat} (h : AO w0.heap.size M w v A ys) (hb : Bl w0 w) (hs : Strs w0.heap.size w0 (.slice sa S.length sc) S) : ∃ a c, v = .slice a A.length c ∧ GA w.heap.size w (S, A) sa sc a c := by
  obtain ⟨a, c, rfl, ha⟩ := h.acts
  exact ⟨a, c, rfl, hs.bl hb, ha⟩
theorem rem_nat {x : Int} {n : Nat} (hn : 0 < n) (hn2 : n ≤ 1000) : ∃ k : Nat, k < n ∧ (IntKind.u64.wrap x).tmod (n : Int) = (k : Int) ∧ wrap64 (k : Int) = (k : Int) := by
  have h0 : 0 ≤ IntKind.u64.wrap x := by
    rw [show IntKind.u64.wrap x = x % 18446744073709551616 from by simp [IntKind.wrap, IntKind.signed, IntKind.bits]]
    exact Int.emod_nonneg _ (by decide)
  rw [Int.tmod_eq_emod_of_nonneg h0]
  have h1 := Int.emod_lt_of_pos (IntKind.u64.wrap x) (show (0 : Int) < (n : Int) by omega)
  have h2 := Int.emod_nonneg (IntKind.u64.wrap x) (show (n : Int) ≠ 0 by omega)
  have h3 : (IntKind.u64.wrap x % (n : Int)).toNat < n := by omega
  have h4 : IntKind.u64.wrap x % (n : Int) = ((IntKind.u64.wrap x % (n : Int)).toNat : Int) := by omega
  generalize (IntKind.u64.wrap x % (n : Int)).toNat = m at *
  refine ⟨m, h3, h4, ?_⟩
  unfold wrap64
  omega

set_option maxRecDepth 8000 in
set_option maxHeartbeats 16000000 in
theorem trellisErrors_walk (W : World) (g : RC.Gr) (sa : Option Addr) (sc : Nat) (aa : Option Addr) (ac : Nat) (hg : GA W.heap.size W g sa sc aa ac) (hk : grOk g) (x : Int) (hx : -9223372036854775808 ≤ x ∧ x ≤ 9223372036854775807) :
    Calls Try.prog 7 #[.agg (gv g sa sc aa ac), .int .i64 x] W fun e w' => e = .returned (.bool true) ∧ Bl W w' := by
  let BX : Obj := .cells #[.slice sa g.1.length sc, .slice aa g.2.length ac] 25
  have CA : Hid (Calls Try.prog 9 #[] (W.alloc BX) fun e w' => e = .returned (.bool true) ∧ Bl (W.alloc BX) w') := awake_8 (Bl.refl _)
  have CG : Hid (∀ U, Bl (W.alloc BX) U → Calls Try.prog 10 #[.agg (gv g sa sc aa ac), .slice none 0 0] U fun e w' => e = .returned (.bool (greatB g [])) ∧ Bl (W.alloc BX) w') := fun U hU =>
    great_x g sa sc aa ac hU (hg.bl (((Bl.refl W).alloc _).step hU)) hk [] none 0 (strs_nil U) (by simp) (by simp)
  have HC : Hid (∀ U, Bl (W.alloc BX) U → U.cell? ⟨W.heap.size, 0, none⟩ = some (.slice sa g.1.length sc) ∧ U.cell? ⟨W.heap.size, 1, none⟩ = some (.slice aa g.2.length ac) ∧ W.heap.size < U.heap.size ∧ Bl W U) := fun U hU => box_cells hU
  have CC : Hid (∀ U, Bl (W.alloc BX) U → Calls Try.prog 11 #[.agg (gv g sa sc aa ac)] U fun e w' => e = .returned (.int .i64 (TR.chk g : Int)) ∧ Bl (W.alloc BX) w') := fun U hU =>
    Check_x g sa sc aa ac hU (hg.bl (((Bl.refl W).alloc _).step hU)) hk
  cases hgr : greatB g [] with
  | true =>
    rw [hgr] at CG
    clear hg hk hgr CC
    unfold gv at CG ⊢
    go_enter Try.func7, Try.ntmps7
    go_wp2_with (first
      | (go_at_call 9; refine CA.out.mono ?_; clear CA; rintro e w1 ⟨rfl, HB1⟩; obtain ⟨p1, p2, p3, p4⟩ := HC.out _ HB1)
      | (go_at_call 10; refine (CG.out _ HB1).mono ?_; clear CG; rintro e w2 ⟨rfl, HB2⟩))
    go_ret
    exact ⟨rfl, (HC.out _ HB2).2.2.2⟩
  | false =>
  rw [hgr] at CG
  obtain ⟨b1, b2, _, _, _, _⟩ := great_not hgr
  by_cases hck : TR.chk g = 0
  · rw [hck] at CC
    by_cases hgo : 0 < g.2.length ∧ g.2.length < 12
    · have hG := TR.chk_zero.1 hck
      have hle := hG.le
      have HGD : Hid (TR.Good g) := hG
      have HGW : Hid (GA W.heap.size W g sa sc aa ac) := hg
      have HGK : Hid (grOk g) := hk
      obtain ⟨n0, n12⟩ := hgo
      obtain ⟨k, hkn, hkx, hkw⟩ := rem_nat (x := x) n0 (by omega)
      have hne : ((g.2.length : Int) == 0) = false := by rw [beq_eq_false_iff_ne]; omega
      have hnn : ((g.2.length : Int) != 0) = true := by rw [bne_iff_ne]; omega
      clear hg hk hgr hG hck
      unfold gv at CG CC ⊢
      go_enter Try.func7, Try.ntmps7
      go_wp2_with (first
        | (go_at_call 9; refine CA.out.mono ?_; clear CA; rintro e w1 ⟨rfl, HB1⟩; obtain ⟨p1, p2, p3, p4⟩ := HC.out _ HB1)
        | (go_at_call 10; refine (CG.out _ HB1).mono ?_; clear CG p1 p2 p3 p4 HB1; rintro e w2 ⟨rfl, HB2⟩; obtain ⟨p1, p2, p3, p4⟩ := HC.out _ HB2)
        | (go_at_call 11; refine (CC.out _ HB2).mono ?_; clear CC p1 p2 p3 p4 HB2; rintro e w3 ⟨rfl, HB3⟩; obtain ⟨p1, p2, p3, p4⟩ := HC.out _ HB3))
      have HBX : Hid (Bl (W.alloc BX) w3) := HB3
      obtain ⟨ab, aoff, ys, rfl, hab, hyl, hycell, hyins⟩ := acts_list HGW.out.a n0
      obtain ⟨t, ht⟩ : ∃ t, g.2[k]? = some t := ⟨g.2[k], List.getElem?_eq_getElem hkn⟩
      have hc1 : ∀ U, Bl W U → U.cell? ⟨ab, aoff + k * 3, none⟩ = some (.string (M.bs t.1)) := fun U hU => by
        obtain ⟨b', off', x', c', e, h1, h2, h3⟩ := HGW.out.a k t ht
        cases e
        rw [Bl.cell hU h1]
        exact h2 0 _ rfl
      have hhb : ∀ U, Bl (w3.alloc BX) U → U.heap[w3.heap.size]? = some (.cells #[.slice sa g.1.length sc, .slice (some ⟨ab, aoff, none⟩) g.2.length ac] 25 (0, 0)) := fun U hU => by
        rw [Below.block hU _ (by simp)]; exact heap_alloc_new w3 _
      have HV3 : Hid (Bl w3 (w3.alloc BX)) := (Bl.refl w3).alloc _
      have eV : (w3.alloc BX).drew.heap.size = w3.heap.size + 1 := by simp
      have AO0 : Hid (AO W.heap.size (w3.heap.size + 1) ((w3.alloc BX).drew.alloc (.cells #[] 41)) (.slice (some ⟨w3.heap.size + 1, 0, none⟩) 0 0) [] []) := by
        have h := AO.new (w3.alloc BX).drew (N := W.heap.size) (M := w3.heap.size + 1) (by omega) (by rw [eV]; exact Nat.le_refl _)
        rw [eV] at h; exact h
      have hsz3 : (W.alloc BX).heap.size ≤ w3.heap.size := Below.size HB3
      have hszW : W.heap.size < w3.heap.size := p3
      have KP : Hid (∀ U, Bl (w3.alloc BX) U → U.cell? ⟨W.heap.size, 1, none⟩ = some (.slice (some ⟨ab, aoff, none⟩) g.2.length ac) ∧ U.cell? ⟨ab, aoff + k * 3, none⟩ = some (.string (M.bs t.1))) := fun U hU => by
        have hB := HBX.out.step (HV3.out.step hU)
        exact ⟨(HC.out U hB).2.1, hc1 U (HC.out U hB).2.2.2⟩
      have NEWS : Hid (∀ U, Bl W U → ∀ (j : Nat) (u : Value), (flatA g.2 ys)[j]? = some u → U.cell? ⟨ab, aoff + j, none⟩ = some u) := fun U hU j u hu => by rw [Bl.cell hU hab]; exact hycell j u hu
      have INSS : Hid (∀ U, Bl W U → ∀ (i : Nat) (t : RC.Ac) (x : Option Addr) (c : Nat), g.2[i]? = some t → ys[i]? = some (x, c) → IO W.heap.size U x c t.2.1) := fun U hU i t x c h1 h2 => Or.inl ((hyins i t x c h1 h2).below hU (Nat.le_refl _))
      have HC21 : Hid (TR.chk (g.1, g.2 ++ [(t.1, [], [])]) = 21) := chk_21 HGD.out n12 (List.mem_of_getElem? ht)
      have HOK1 : Hid (grOk (g.1, g.2 ++ [(t.1, [], [])])) := by
        have h0 := HGK.out
        refine ⟨h0.s, h0.t, by simp; unfold maxLen; omega, fun a ha => ?_⟩
        rcases List.mem_append.1 ha with h1 | h1
        · exact h0.b a h1
        · simp at h1; subst h1
          exact ⟨(h0.b t (List.mem_of_getElem? ht)).1, by unfold maxLen; simp, by simp, by unfold maxLen; simp⟩
      have hki : (k : Int) < (g.2.length : Int) := by omega
      have HC1 : Hid (∀ U, Bl W U → U.cell? ⟨ab, aoff + k * 3, none⟩ = some (.string (M.bs t.1))) := hc1
      have HWV : Hid (Bl W (w3.alloc BX)) := (HC.out _ (HBX.out.step HV3.out)).2.2.2
      clear ht hc1 p1 p2 p3 p4 hycell hyins HB3 hab
      obtain ⟨nm0, ins0, cd0⟩ := t
      simp only [] at KP HC21 HOK1 HC1
      refine wp_region_noPanic ?_
      refine wp_region_held_drew (S := fun U => U.cell? ⟨W.heap.size, 1, none⟩ = some (.slice (some ⟨ab, aoff, none⟩) g.2.length ac) ∧ U.cell? ⟨ab, aoff + k * 3, none⟩ = some (.string (M.bs nm0))) (by kernel_rfl) (KP.out _ ((Bl.refl (w3.alloc BX)).drewN 1)) (fun hHeld => ?_)
      refine wpAnyH_take (i := 1) (v := ?_) rfl (by kernel_rfl) (by kernel_rfl) (by kernel_rfl) (fun _ _ _ h => h) (Or.inl ⟨by kernel_rfl, ?_⟩) (by assumption) ?_
      rotate_left
      · (intro w hSw; (try dsimp only at hSw); go_simp; (try with_reducible rfl))
      simp only [Act.put, List.getElem_toArray, List.getElem_cons_succ, List.getElem_cons_zero, List.setIfInBounds_toArray, List.set_cons_zero, List.set_cons_succ]
      refine wpAnyH_take (i := 2) (v := ?_) rfl (by kernel_rfl) (by kernel_rfl) (by kernel_rfl) (fun _ _ _ h => h) (Or.inl ⟨by kernel_rfl, ?_⟩) (by assumption) ?_
      rotate_left
      · (intro w hSw; (try dsimp only at hSw); go_simp; (try with_reducible rfl))
      simp only [Act.put, List.getElem_toArray, List.getElem_cons_succ, List.getElem_cons_zero, List.setIfInBounds_toArray, List.set_cons_zero, List.set_cons_succ]
      refine wpAnyH_take (i := 4) (v := ?_) rfl (by kernel_rfl) (by kernel_rfl) (by kernel_rfl) (fun _ _ _ h => h) (Or.inl ⟨by kernel_rfl, ?_⟩) (by assumption) ?_
      rotate_left
      · (intro w hSw; (try dsimp only at hSw); go_simp; (try with_reducible rfl))
      simp only [Act.put, List.getElem_toArray, List.getElem_cons_succ, List.getElem_cons_zero, List.setIfInBounds_toArray, List.set_cons_zero, List.set_cons_succ]
      refine wpAnyH_take (i := 5) (v := ?_) rfl (by kernel_rfl) (by kernel_rfl) (by kernel_rfl) (fun _ _ _ h => h) (Or.inl ⟨by kernel_rfl, ?_⟩) (by assumption) ?_
      rotate_left
      · (intro w hSw; (try dsimp only at hSw); go_simp; (try with_reducible rfl))
      simp only [Act.put, List.getElem_toArray, List.getElem_cons_succ, List.getElem_cons_zero, List.setIfInBounds_toArray, List.set_cons_zero, List.set_cons_succ]
      refine wpAnyH_take (i := 6) rfl (by kernel_rfl) (by kernel_rfl) (by kernel_rfl) (fun _ _ _ h => h) (yi_move (by kernel_rfl) rfl rfl) (by assumption) ?_
      simp only [Act.put, List.getElem_toArray, List.getElem_cons_succ, List.getElem_cons_zero, List.setIfInBounds_toArray, List.set_cons_zero, List.set_cons_succ]
      refine wpAnyH_take (i := 7) (v := ?_) rfl (by kernel_rfl) (by kernel_rfl) (by kernel_rfl) (fun _ _ _ h => h) (Or.inl ⟨by kernel_rfl, ?_⟩) (by assumption) ?_
      rotate_left
      · (intro w hSw; (try dsimp only at hSw); go_simp; (try with_reducible rfl))
      simp only [Act.put, List.getElem_toArray, List.getElem_cons_succ, List.getElem_cons_zero, List.setIfInBounds_toArray, List.set_cons_zero, List.set_cons_succ]
      refine wpAnyH_take (i := 8) (v := ?_) rfl (by kernel_rfl) (by kernel_rfl) (by kernel_rfl) (fun _ _ _ h => h) (Or.inl ⟨by kernel_rfl, ?_⟩) (by assumption) ?_
      rotate_left
      · (intro w hSw; (try dsimp only at hSw); go_simp; (try with_reducible rfl))
      simp only [Act.put, List.getElem_toArray, List.getElem_cons_succ, List.getElem_cons_zero, List.setIfInBounds_toArray, List.set_cons_zero, List.set_cons_succ]
      refine wpAnyH_take (i := 9) (v := ?_) rfl (by kernel_rfl) (by kernel_rfl) (by kernel_rfl) (fun _ _ _ h => h) (Or.inl ⟨by kernel_rfl, ?_⟩) (by assumption) ?_
      rotate_left
      · (intro w hSw; (try dsimp only at hSw); go_simp; (try with_reducible rfl))
      simp only [Act.put, List.getElem_toArray, List.getElem_cons_succ, List.getElem_cons_zero, List.setIfInBounds_toArray, List.set_cons_zero, List.set_cons_succ]
      refine wpAnyH_take (i := 10) (v := ?_) rfl (by kernel_rfl) (by kernel_rfl) (by kernel_rfl) (fun _ _ _ h => h) (Or.inl ⟨by kernel_rfl, ?_⟩) (by assumption) ?_
      rotate_left
      · (intro w hSw; (try dsimp only at hSw); go_simp; (try with_reducible rfl))
      simp only [Act.put, List.getElem_toArray, List.getElem_cons_succ, List.getElem_cons_zero, List.setIfInBounds_toArray, List.set_cons_zero, List.set_cons_succ]
      refine wpAnyH_ready (rs := [0]) (by kernel_rfl) (by simp) ?_
      refine AllReadyH.cons (o := _) rfl (fun K hK => ?_) AllReadyH.nil
      go_simp
      refine hK.out _ _ (KP.out _ (((Bl.refl (w3.alloc BX)).drewN 1).alloc _)) (fun hHeld => ?_)
      clear hK K
      (try simp only [Act.put, List.getElem_toArray, List.getElem_cons_succ, List.getElem_cons_zero, List.setIfInBounds_toArray, List.set_cons_zero, List.set_cons_succ])
      refine wpAnyH_ready (rs := [3]) (by kernel_rfl) (by simp) ?_
      refine AllReadyH.cons (o := _) rfl (fun K hK => ?_) AllReadyH.nil
      refine st_appX rfl _ _ rfl W.heap.size (w3.heap.size + 1) [] [] (.slice (some ⟨w3.heap.size + 1, 0, none⟩) 0 0) (by rfl) AO0.out g.2 ys ab aoff g.2.length ac rfl (by rfl) (NEWS.out _ (HWV.out.step (((Bl.refl (w3.alloc BX)).drewN 1).alloc _))) hyl (INSS.out _ (HWV.out.step (((Bl.refl (w3.alloc BX)).drewN 1).alloc _))) n0 (by simp; omega) (fun a5 c5 w5 HA5 hg5 => ?_)
      have HB5 : Bl (w3.alloc BX) w5 := AO0.out.below (((Bl.refl (w3.alloc BX)).drewN 1).alloc _) (by simp) hg5
      have HA5 : AO W.heap.size (w3.heap.size + 1) w5 (.slice a5 g.2.length c5) g.2 ys := HA5
      refine hK.out _ _ (KP.out _ HB5) (fun hHeld => ?_)
      clear hK K
      (try simp only [Act.put, List.getElem_toArray, List.getElem_cons_succ, List.getElem_cons_zero, List.setIfInBounds_toArray, List.set_cons_zero, List.set_cons_succ])
      refine wpAnyH_ready (rs := [11]) (by kernel_rfl) (by simp) ?_
      refine AllReadyH.cons (o := _) rfl (fun K hK => ?_) AllReadyH.nil
      go_simp
      go_at_call 22; refine (action_x nm0 none 0 0 _).mono ?_; rintro e w' ⟨rfl, hw'⟩; rw [hw']; clear hw' w'; have HB12 : Bl (w3.alloc BX) (w5.alloc (.cells #[.string (M.bs nm0), .slice none 0 0, .string ⟨#[]⟩] 41)) := HB5.alloc _
      refine hK.out _ _ (KP.out _ HB12) (fun hHeld => ?_)
      clear hK K
      (try simp only [Act.put, List.getElem_toArray, List.getElem_cons_succ, List.getElem_cons_zero, List.setIfInBounds_toArray, List.set_cons_zero, List.set_cons_succ])
      refine wpAnyH_ready (rs := [12]) (by kernel_rfl) (by simp) ?_
      refine AllReadyH.cons (o := _) rfl (fun K hK => ?_) AllReadyH.nil
      go_simp
      refine hK.out _ _ (KP.out _ (HB12.alloc _)) (fun hHeld => ?_)
      clear hK K
      (try simp only [Act.put, List.getElem_toArray, List.getElem_cons_succ, List.getElem_cons_zero, List.setIfInBounds_toArray, List.set_cons_zero, List.set_cons_succ])
      refine wpAnyH_ready (rs := [13]) (by kernel_rfl) (by simp) ?_
      refine AllReadyH.cons (o := _) rfl (fun K hK => ?_) AllReadyH.nil
      refine st_appX rfl _ _ rfl W.heap.size (w3.heap.size + 1) g.2 ys (.slice a5 g.2.length c5) (by rfl) (HA5.bl (((Bl.refl w5).alloc _).alloc _)) [(nm0, [], [])] [(none, 0)] (w5.heap.size + 1) 0 1 1 rfl (by rfl) (fun j u hu => ?_) rfl (fun i t x c h1 h2 => ?_) (by simp) (by simp; omega) (fun a6 c6 w6 HA6 hg6 => ?_)
      · rw [show w5.heap.size + 1 = (w5.alloc (.cells #[.string (M.bs nm0), .slice none 0 0, .string ⟨#[]⟩] 41)).heap.size by simp, Lib.cell_of_heap (heap_alloc_new _ _), Nat.zero_add]
        rcases j with _ | _ | _ | j
        · cases hu; rfl
        · cases hu; rfl
        · cases hu; rfl
        · simp [flatA, acL] at hu
      · rcases i with _ | i
        · cases h1; cases h2; exact Or.inl (Or.inl ⟨rfl, none, 0, rfl⟩)
        · simp at h1
      have HB6 : Bl (w3.alloc BX) w6 := (HA5.bl (((Bl.refl w5).alloc _).alloc _)).below ((HB5.alloc _).alloc _) (by simp) hg6
      refine hK.out _ _ (KP.out _ HB6) (fun hHeld => ?_)
      clear hK K
      (try simp only [Act.put, List.getElem_toArray, List.getElem_cons_succ, List.getElem_cons_zero, List.setIfInBounds_toArray, List.set_cons_zero, List.set_cons_succ])
      refine wpAnyH_take (i := 14) (v := ?_) rfl (by kernel_rfl) (by kernel_rfl) (by kernel_rfl) (fun _ _ _ h => h) (Or.inl ⟨by kernel_rfl, ?_⟩) (by assumption) ?_
      rotate_left
      · (intro w hSw; (try dsimp only at hSw); go_simp; (try with_reducible rfl))
      simp only [Act.put, List.getElem_toArray, List.getElem_cons_succ, List.getElem_cons_zero, List.setIfInBounds_toArray, List.set_cons_zero, List.set_cons_succ]
      refine wpAnyH_ready (rs := [15]) (by kernel_rfl) (by simp) ?_
      refine AllReadyH.cons (o := _) rfl (fun K hK => ?_) AllReadyH.nil
      have hbk6 := hhb _ HB6
      have k1 : w6.cell? ⟨w3.heap.size, 1, none⟩ = some (.slice (some ⟨ab, aoff, none⟩) g.2.length ac) := by rw [Lib.cell_of_heap hbk6]; rfl
      have k2 : w6.frozen? ⟨w3.heap.size, 1, none⟩ = false := by simp [World.frozen?, hbk6]
      have k3 : w3.heap.size < w6.heap.size := TA.lt_heap hbk6
      go_simp
      have HB7 : Bl (W.alloc BX) (w6.setCell ⟨w3.heap.size, 1, none⟩ (.slice a6 (g.2.length + 1) c6)) := Below.setCell (HBX.out.step (HV3.out.step HB6)) hsz3 _
      refine hK.out _ _ (by obtain ⟨q1, q2, q3, q4⟩ := HC.out _ HB7; exact ⟨q2, HC1.out _ q4⟩) (fun hHeld => ?_)
      clear hK K
      (try simp only [Act.put, List.getElem_toArray, List.getElem_cons_succ, List.getElem_cons_zero, List.setIfInBounds_toArray, List.set_cons_zero, List.set_cons_succ])
      refine wpAnyH_done (by kernel_rfl) ?_ _
      refine NoPanic.normal ?_
      have e6 : (g.2 ++ [((nm0, [], []) : RC.Ac)]).length = g.2.length + 1 := by simp
      rw [e6] at HA6
      have HW7 : Bl W (w6.setCell ⟨w3.heap.size, 1, none⟩ (.slice a6 (g.2.length + 1) c6)) := (HC.out _ HB7).2.2.2
      have HA7 := AO.setK (i := 1) (u := .slice a6 (g.2.length + 1) c6) HA6 hbk6 (by omega)
      have HG7 : Hid (GA (w6.setCell ⟨w3.heap.size, 1, none⟩ (.slice a6 (g.2.length + 1) c6)).heap.size (w6.setCell ⟨w3.heap.size, 1, none⟩ (.slice a6 (g.2.length + 1) c6)) (g.1, g.2 ++ [(nm0, [], [])]) sa sc a6 c6) := by
        obtain ⟨a', c', e, h⟩ := HA7.ga HW7 HGW.out.s
        simp only [Value.slice.injEq] at e
        obtain ⟨e1, _, e3⟩ := e
        subst e1
        subst e3
        exact h
      have hbk7 : (w6.setCell ⟨w3.heap.size, 1, none⟩ (.slice a6 (g.2.length + 1) c6)).heap[w3.heap.size]? = some (.cells #[.slice sa g.1.length sc, .slice a6 (g.2.length + 1) c6] 25 (0, 0)) := by
        rw [heap_setCell_rowR hbk6]; rfl
      have d0 : (w6.setCell ⟨w3.heap.size, 1, none⟩ (.slice a6 (g.2.length + 1) c6)).cell? ⟨w3.heap.size, 0, none⟩ = some (.slice sa g.1.length sc) := by rw [Lib.cell_of_heap hbk7]; rfl
      have d1 : (w6.setCell ⟨w3.heap.size, 1, none⟩ (.slice a6 (g.2.length + 1) c6)).cell? ⟨w3.heap.size, 1, none⟩ = some (.slice a6 (g.2.length + 1) c6) := by rw [Lib.cell_of_heap hbk7]; rfl
      have d2 := TA.lt_heap hbk7
      clear HA7 HA6 HA5 hbk6 hg5 hg6 HB5 HB6 AO0 KP k1 k2 k3
      generalize w6.setCell ⟨w3.heap.size, 1, none⟩ (.slice a6 (g.2.length + 1) c6) = W7 at *
      have CC7 : Hid (Calls Try.prog 11 #[.agg #[.slice sa g.1.length sc, .slice a6 (g.2.length + 1) c6]] W7 fun e w' => e = .returned (.int .i64 21) ∧ Bl W7 w') := by
        have h := Check_x (g.1, g.2 ++ [(nm0, [], [])]) sa sc a6 c6 (Bl.refl W7) HG7.out HOK1.out
        rw [HC21.out] at h
        unfold gv at h
        rw [e6] at h
        exact h
      have HNM : Hid (∀ U, Bl W U → ∀ (i : Nat) (t : RC.Ac), g.2[i]? = some t → U.cell? ⟨ab, aoff + i * 3, none⟩ = some (.string (M.bs t.1))) := fun U hU i t ht => by
        obtain ⟨b', off', x', c', e, h1, h2, h3⟩ := HGW.out.a i t ht
        cases e
        rw [Bl.cell hU h1]
        exact h2 0 _ rfl
      have CIN : Hid (∀ U s, Bl W U → Calls Try.prog 21 #[.slice sa g.1.length sc, .string (M.bs s)] U fun e w' => e = .returned (.bool (decide (s ∈ g.1))) ∧ w' = U) := fun U s hU => in_at g.1 sa sc s U (Strs.sa (HGW.out.s.bl hU)).2 HGK.out.s
      have HBK7 : Hid (W7.heap[w3.heap.size]? = some (.cells #[.slice sa g.1.length sc, .slice a6 (g.2.length + 1) c6] 25 (0, 0))) := hbk7
      have HB7' : Hid (Bl (W.alloc BX) W7) := HB7
      clear hbk7 HG7 HC21 HOK1 HB7 HW7
      go_wp2_with (go_at_call 11; refine CC7.out.mono ?_; clear CC7; rintro e w8 ⟨rfl, hb8⟩; have HB8 : Hid (Bl W7 w8) := hb8; clear hb8 d0 d1)
      obtain ⟨p1, p2, p3, p4⟩ := HC.out _ (HB7'.out.step HB8.out)
      go_loop [8] (fun u8 => ∃ i : Nat, i ≤ g.2.length ∧ u8 = .int .i64 i ∧ ∀ j t, j < i → g.2[j]? = some t → t.1 ≠ z7) (fun u8 => g.2.length - (intOf u8).toNat)
      case atStart => exact ⟨0, Nat.zero_le _, rfl, fun j t hj => by omega⟩
      case round =>
        obtain ⟨i, hi0, rfl, hpre⟩ := hrel
        have HPZ : Hid (∀ j t, j < i → g.2[j]? = some t → t.1 ≠ z7) := hpre
        clear hpre
        by_cases hlt : i < g.2.length
        · obtain ⟨t, ht⟩ : ∃ t, g.2[i]? = some t := ⟨g.2[i], List.getElem?_eq_getElem hlt⟩
          have hcn := HNM.out _ p4 i t ht
          have hbw := bs_eqW t.1 z7
          by_cases hz : t.1 = z7
          · rw [decide_eq_true hz] at hbw
            unfold z7 at hbw
            clear hz ht
            generalize t.1 = tn at *
            go_wp2_with fail
            go_ret
            exact ⟨rfl, p4⟩
          · rw [decide_eq_false hz] at hbw
            unfold z7 at hbw
            have HPN : Hid (∀ j t, j < i + 1 → g.2[j]? = some t → t.1 ≠ z7) := fun j t' hj ht' => by
              rcases (by omega : j < i ∨ j = i) with h' | rfl
              · exact HPZ.out j t' h' ht'
              · rw [ht] at ht'; cases ht'; exact hz
            clear hz ht HPZ
            generalize t.1 = tn at *
            go_wp2_with fail
            go_round
            case rel => exact ⟨i + 1, by omega, by go_num, HPN.out⟩
            case measure => simp [intOf]; omega
        · obtain rfl : i = g.2.length := by omega
          have CI1 : Hid (Calls Try.prog 21 #[.slice sa g.1.length sc, .string ⟨#[122, 122, 122, 122, 122, 122, 122]⟩] w8 fun e w' => e = .returned (.bool (decide (z7 ∈ g.1))) ∧ w' = w8) := CIN.out w8 z7 p4
          by_cases hzs : z7 ∈ g.1
          · rw [decide_eq_true hzs] at CI1
            clear hzs
            go_wp2_with (go_at_call 21; refine CI1.out.mono ?_; clear CI1; rintro e w' ⟨rfl, hw'⟩; rw [hw']; clear hw' w')
            go_ret
            exact ⟨rfl, p4⟩
          · rw [decide_eq_false hzs] at CI1
            have HZN : Hid (z7 ∉ TR.nm g) := fun hm => by
              unfold TR.nm at hm
              rcases List.mem_append.1 hm with h1 | h1
              · exact hzs h1
              · obtain ⟨t', h2, h3⟩ := List.mem_map.1 h1
                obtain ⟨j, hj, e⟩ := List.getElem_of_mem h2
                exact HPZ.out j t' hj (by rw [List.getElem?_eq_getElem hj, e]) h3
            clear hzs HPZ
            have hw8 : W.heap.size ≤ w8.heap.size := Below.size p4
            have AO8 : Hid (AO W.heap.size w8.heap.size (w8.alloc (.cells #[] 41)) (.slice (some ⟨w8.heap.size, 0, none⟩) 0 0) [] []) := AO.new w8 hw8 (Nat.le_refl _)
            have hal8 : Bl w8 (w8.alloc (.cells #[] 41)) := (Bl.refl w8).alloc _
            have N8 : Hid _ := NEWS.out _ (Bl.step p4 hal8)
            have I8 : Hid _ := INSS.out _ (Bl.step p4 hal8)
            have HB8W : Hid (Bl W w8) := p4
            have FIN9 : Hid (∀ (a9 : Option Addr) (c9 : Nat) (w9 : World), AO W.heap.size w8.heap.size w9 (.slice a9 g.2.length c9) g.2 ys → Bl w8 w9 → (∀ o1 o2, AO W.heap.size w8.heap.size (((w9.alloc (.cells #[.string ⟨#[121, 121, 121, 121, 121, 121, 121, 121]⟩, .string ⟨#[122, 122, 122, 122, 122, 122, 122]⟩] 9)).alloc o1).alloc o2) (.slice a9 g.2.length c9) g.2 ys) ∧ (∀ o1, ∀ (j : Nat) (u : Value), (flatA [((z7, [y8, z7], []) : RC.Ac)] [(some ⟨w9.heap.size, 0, none⟩, 2)])[j]? = some u → (((w9.alloc (.cells #[.string ⟨#[121, 121, 121, 121, 121, 121, 121, 121]⟩, .string ⟨#[122, 122, 122, 122, 122, 122, 122]⟩] 9)).alloc o1).alloc (.cells #[.string (M.bs [122, 122, 122, 122, 122, 122, 122]), .slice (some ⟨w9.heap.size, 0, none⟩) 2 2, .string ⟨#[]⟩] 41)).cell? ⟨w9.heap.size + 1 + 1, 0 + j, none⟩ = some u) ∧ (∀ o1 o2, ∀ (i : Nat) (t : RC.Ac) (x : Option Addr) (c : Nat), [((z7, [y8, z7], []) : RC.Ac)][i]? = some t → [((some ⟨w9.heap.size, 0, none⟩, 2) : Option Addr × Nat)][i]? = some (x, c) → IO W.heap.size (((w9.alloc (.cells #[.string ⟨#[121, 121, 121, 121, 121, 121, 121, 121]⟩, .string ⟨#[122, 122, 122, 122, 122, 122, 122]⟩] 9)).alloc o1).alloc o2) x c t.2.1)) := fun a9 c9 w9 hA hB => by
              refine ⟨fun o1 o2 => hA.bl ((((Bl.refl w9).alloc _).alloc _).alloc _), fun o1 j u hu => ?_, fun o1 o2 i t x c h1 h2 => ?_⟩
              · rw [show w9.heap.size + 1 + 1 = ((w9.alloc (.cells #[.string ⟨#[121, 121, 121, 121, 121, 121, 121, 121]⟩, .string ⟨#[122, 122, 122, 122, 122, 122, 122]⟩] 9)).alloc o1).heap.size by simp, Lib.cell_of_heap (heap_alloc_new _ _), Nat.zero_add]
                rcases j with _ | _ | _ | j
                · cases hu; rfl
                · cases hu; rfl
                · cases hu; rfl
                · simp [flatA, acL] at hu
              · rcases i with _ | i
                · cases h1; cases h2
                  have ho : (w9.alloc (.cells #[.string ⟨#[121, 121, 121, 121, 121, 121, 121, 121]⟩, .string ⟨#[122, 122, 122, 122, 122, 122, 122]⟩] 9)).ownsRow w9.heap.size 9 1 (.slice (some ⟨w9.heap.size, 0, none⟩) 2 2) 2 ([y8, z7].map encS) := TA.own_new w9 [y8, z7] (by unfold maxLen; simp)
                  exact Or.inr (ownsRow_belowT (ownsRow_base ho (by have := Below.size hB; omega)) (((Bl.refl _).alloc o1).alloc o2))
                · simp at h1
            clear hal8 N8 I8
            go_wp2_with (first
              | (go_at_call 21; refine CI1.out.mono ?_; clear CI1; rintro e w' ⟨rfl, hw'⟩; rw [hw']; clear hw' w')
              | (refine wl_appX rfl _ _ rfl W.heap.size w8.heap.size [] [] (.slice (some ⟨w8.heap.size, 0, none⟩) 0 0) rfl AO8.out g.2 ys ab aoff g.2.length ac rfl rfl (NEWS.out _ (HB8W.out.alloc _)) hyl (INSS.out _ (HB8W.out.alloc _)) n0 (by simp; omega) (fun a9 c9 w9 HA9 hg9 => ?_); have HB9 : Bl w8 w9 := AO8.out.below ((Bl.refl w8).alloc _) (Nat.le_refl _) hg9; have HA9 : AO W.heap.size w8.heap.size w9 (.slice a9 g.2.length c9) g.2 ys := HA9; have HB9H : Hid (Bl w8 w9) := HB9; have HF9 : Hid _ := FIN9.out _ _ _ HA9 HB9; clear AO8 FIN9 HA9 hg9 HB9)
              | (go_at_call 22; refine (action_x _ _ _ _ _).mono ?_; rintro e w' ⟨rfl, hw'⟩; rw [hw']; clear hw' w')
              | (refine wl_appX rfl _ _ rfl W.heap.size w8.heap.size g.2 ys (.slice a9 g.2.length c9) rfl (HF9.out.1 _ _) [(z7, [y8, z7], [])] [(some ⟨w9.heap.size, 0, none⟩, 2)] (w9.heap.size + 1 + 1) 0 1 1 rfl rfl (HF9.out.2.1 _) rfl (HF9.out.2.2 _ _) (by simp) (by simp; omega) (fun a10 c10 w10 HA10 hg10 => ?_); have HB10 : Bl w8 w10 := AO.below (HF9.out.1 _ _) ((((HB9H.out).alloc _).alloc _).alloc _) (Nat.le_refl _) hg10; have HA10H : Hid _ := HA10; have HB10H : Hid (Bl w8 w10) := HB10; have hbk10 : w10.heap[w3.heap.size]? = some (.cells #[.slice sa g.1.length sc, .slice a6 (g.2.length + 1) c6] 25 (0, 0)) := (by rw [Below.block (HB8.out.step HB10) _ d2]; exact HBK7.out); have HK10 : Hid _ := hbk10; have k1 : w10.cell? ⟨w3.heap.size, 1, none⟩ = some (.slice a6 (g.2.length + 1) c6) := (by rw [Lib.cell_of_heap hbk10]; rfl); have k2 : w10.frozen? ⟨w3.heap.size, 1, none⟩ = false := (by simp [World.frozen?, hbk10]); have k3 : w3.heap.size < w10.heap.size := TA.lt_heap hbk10; clear HF9 HA10 hg10 HB10 hbk10))
            have e10 : (g.2 ++ [((z7, [y8, z7], []) : RC.Ac)]).length = g.2.length + 1 := by simp
            have HA10 := HA10H.out
            rw [e10] at HA10
            have HB11 : Bl (W.alloc BX) (w10.setCell ⟨w3.heap.size, 1, none⟩ (.slice a10 (g.2.length + 1) c10)) := Below.setCell (HB7'.out.step (HB8.out.step HB10H.out)) hsz3 _
            have HW11 := (HC.out _ HB11).2.2.2
            have HA11 := AO.setK (i := 1) (u := .slice a10 (g.2.length + 1) c10) HA10 HK10.out (by omega)
            have HG11 : Hid (GA (w10.setCell ⟨w3.heap.size, 1, none⟩ (.slice a10 (g.2.length + 1) c10)).heap.size (w10.setCell ⟨w3.heap.size, 1, none⟩ (.slice a10 (g.2.length + 1) c10)) (g.1, g.2 ++ [(z7, [y8, z7], [])]) sa sc a10 c10) := by
              obtain ⟨a', c', e, h⟩ := HA11.ga HW11 HGW.out.s
              simp only [Value.slice.injEq] at e
              obtain ⟨e1, _, e3⟩ := e
              subst e1
              subst e3
              exact h
            have hbk11 : (w10.setCell ⟨w3.heap.size, 1, none⟩ (.slice a10 (g.2.length + 1) c10)).heap[w3.heap.size]? = some (.cells #[.slice sa g.1.length sc, .slice a10 (g.2.length + 1) c10] 25 (0, 0)) := by
              rw [heap_setCell_rowR HK10.out]; rfl
            have d3 : (w10.setCell ⟨w3.heap.size, 1, none⟩ (.slice a10 (g.2.length + 1) c10)).cell? ⟨w3.heap.size, 0, none⟩ = some (.slice sa g.1.length sc) := by rw [Lib.cell_of_heap hbk11]; rfl
            have d4 : (w10.setCell ⟨w3.heap.size, 1, none⟩ (.slice a10 (g.2.length + 1) c10)).cell? ⟨w3.heap.size, 1, none⟩ = some (.slice a10 (g.2.length + 1) c10) := by rw [Lib.cell_of_heap hbk11]; rfl
            clear HA10 HA10H HA11 HK10 hbk11 HB10H k1 k2 k3 p1 p2 p3
            generalize w10.setCell ⟨w3.heap.size, 1, none⟩ (.slice a10 (g.2.length + 1) c10) = V at *
            obtain ⟨p1, p2, p3, p5⟩ := HC.out _ HB11
            have HW11H : Hid (Bl W V) := HW11
            clear HB11 HW11 p5
            go_wp2_with fail
            go_loop [9] (fun u9 => ∃ i : Nat, i ≤ g.2.length ∧ u9 = .int .i64 i ∧ ∀ j t, j < i → g.2[j]? = some t → t.1 ≠ y8) (fun u9 => g.2.length - (intOf u9).toNat)
            case atStart => exact ⟨0, Nat.zero_le _, rfl, fun j t hj => by omega⟩
            case round =>
              obtain ⟨i, hi0, rfl, hpre⟩ := hrel
              have HPZ : Hid (∀ j t, j < i → g.2[j]? = some t → t.1 ≠ y8) := hpre
              clear hpre
              by_cases hlt : i < g.2.length
              · obtain ⟨t, ht⟩ : ∃ t, g.2[i]? = some t := ⟨g.2[i], List.getElem?_eq_getElem hlt⟩
                have hcn := HNM.out _ HW11H.out i t ht
                have hbw := bs_eqW t.1 y8
                by_cases hz : t.1 = y8
                · rw [decide_eq_true hz] at hbw
                  unfold y8 at hbw
                  clear hz ht
                  generalize t.1 = tn at *
                  go_wp2_with fail
                  go_ret
                  exact ⟨rfl, HW11H.out⟩
                · rw [decide_eq_false hz] at hbw
                  unfold y8 at hbw
                  have HPN : Hid (∀ j t, j < i + 1 → g.2[j]? = some t → t.1 ≠ y8) := fun j t' hj ht' => by
                    rcases (by omega : j < i ∨ j = i) with h' | rfl
                    · exact HPZ.out j t' h' ht'
                    · rw [ht] at ht'; cases ht'; exact hz
                  clear hz ht HPZ
                  generalize t.1 = tn at *
                  go_wp2_with fail
                  go_round
                  case rel => exact ⟨i + 1, by omega, by go_num, HPN.out⟩
                  case measure => simp [intOf]; omega
              · obtain rfl : i = g.2.length := by omega
                have CI1 : Hid (Calls Try.prog 21 #[.slice sa g.1.length sc, .string ⟨#[121, 121, 121, 121, 121, 121, 121, 121]⟩] V fun e w' => e = .returned (.bool (decide (y8 ∈ g.1))) ∧ w' = V) := CIN.out V y8 HW11H.out
                by_cases hzs : y8 ∈ g.1
                · rw [decide_eq_true hzs] at CI1
                  clear hzs
                  go_wp2_with (go_at_call 21; refine CI1.out.mono ?_; clear CI1; rintro e w' ⟨rfl, hw'⟩; rw [hw']; clear hw' w')
                  go_ret
                  exact ⟨rfl, HW11H.out⟩
                · rw [decide_eq_false hzs] at CI1
                  have HYN : y8 ∉ TR.nm g := fun hm => by
                    unfold TR.nm at hm
                    rcases List.mem_append.1 hm with h1 | h1
                    · exact hzs h1
                    · obtain ⟨t', h2, h3⟩ := List.mem_map.1 h1
                      obtain ⟨j, hj, e⟩ := List.getElem_of_mem h2
                      exact HPZ.out j t' hj (by rw [List.getElem?_eq_getElem hj, e]) h3
                  have hc22 := chk_22 HGD.out n12 HZN.out HYN
                  have hok2 : grOk (g.1, g.2 ++ [(z7, [y8, z7], [])]) := by
                    have h0 := HGK.out
                    refine ⟨h0.s, h0.t, by simp; unfold maxLen; omega, fun a ha => ?_⟩
                    rcases List.mem_append.1 ha with h1 | h1
                    · exact h0.b a h1
                    · simp at h1; subst h1
                      exact ⟨by unfold maxLen; simp [z7], by unfold maxLen; simp, by unfold maxLen; simp [y8, z7], by unfold maxLen; simp⟩
                  have CC8 : Hid (Calls Try.prog 11 #[.agg #[.slice sa g.1.length sc, .slice a10 (g.2.length + 1) c10]] V fun e w' => e = .returned (.int .i64 22) ∧ Bl V w') := by
                    have h := Check_x (g.1, g.2 ++ [(z7, [y8, z7], [])]) sa sc a10 c10 (Bl.refl V) HG11.out hok2
                    rw [hc22] at h
                    unfold gv at h
                    rw [e10] at h
                    exact h
                  clear hzs HPZ HYN hc22 hok2 HG11
                  go_wp2_with (first
                    | (go_at_call 21; refine CI1.out.mono ?_; clear CI1; rintro e w' ⟨rfl, hw'⟩; rw [hw']; clear hw' w')
                    | (go_at_call 11; refine CC8.out.mono ?_; clear CC8; rintro e w12 ⟨rfl, HB12⟩))
                  go_ret
                  exact ⟨rfl, HW11H.out.step HB12⟩
    · have hq2 : (g.2.length = 0) ∨ (¬ g.2.length = 0 ∧ 12 ≤ g.2.length) := by omega
      clear hg hk hgr hck hgo
      unfold gv at CG CC ⊢
      rcases hq2 with h0 | ⟨h0, h12⟩
      · have hne : ((g.2.length : Int) == 0) = true := by rw [h0]; rfl
        clear h0
        go_enter Try.func7, Try.ntmps7
        go_wp2_with (first
          | (go_at_call 9; refine CA.out.mono ?_; clear CA; rintro e w1 ⟨rfl, HB1⟩; obtain ⟨p1, p2, p3, p4⟩ := HC.out _ HB1)
          | (go_at_call 10; refine (CG.out _ HB1).mono ?_; clear CG p1 p2 p3 p4 HB1; rintro e w2 ⟨rfl, HB2⟩; obtain ⟨p1, p2, p3, p4⟩ := HC.out _ HB2)
          | (go_at_call 11; refine (CC.out _ HB2).mono ?_; clear CC p1 p2 p3 p4 HB2; rintro e w3 ⟨rfl, HB3⟩; obtain ⟨p1, p2, p3, p4⟩ := HC.out _ HB3))
        go_ret
        exact ⟨rfl, p4⟩
      · have hne : ((g.2.length : Int) == 0) = false := by rw [beq_eq_false_iff_ne]; omega
        clear h0
        go_enter Try.func7, Try.ntmps7
        go_wp2_with (first
          | (go_at_call 9; refine CA.out.mono ?_; clear CA; rintro e w1 ⟨rfl, HB1⟩; obtain ⟨p1, p2, p3, p4⟩ := HC.out _ HB1)
          | (go_at_call 10; refine (CG.out _ HB1).mono ?_; clear CG p1 p2 p3 p4 HB1; rintro e w2 ⟨rfl, HB2⟩; obtain ⟨p1, p2, p3, p4⟩ := HC.out _ HB2)
          | (go_at_call 11; refine (CC.out _ HB2).mono ?_; clear CC p1 p2 p3 p4 HB2; rintro e w3 ⟨rfl, HB3⟩; obtain ⟨p1, p2, p3, p4⟩ := HC.out _ HB3))
        go_ret
        exact ⟨rfl, p4⟩
  · have hq1 : ((TR.chk g : Int) != 0) = true := by rw [bne_iff_ne]; omega
    clear hg hk hgr hck
    generalize TR.chk g = ck at *
    unfold gv at CG CC ⊢
    go_enter Try.func7, Try.ntmps7
    go_wp2_with (first
      | (go_at_call 9; refine CA.out.mono ?_; clear CA; rintro e w1 ⟨rfl, HB1⟩; obtain ⟨p1, p2, p3, p4⟩ := HC.out _ HB1)
      | (go_at_call 10; refine (CG.out _ HB1).mono ?_; clear CG p1 p2 p3 p4 HB1; rintro e w2 ⟨rfl, HB2⟩; obtain ⟨p1, p2, p3, p4⟩ := HC.out _ HB2)
      | (go_at_call 11; refine (CC.out _ HB2).mono ?_; clear CC p1 p2 p3 p4 HB2; rintro e w3 ⟨rfl, HB3⟩))
    go_ret
    exact ⟨rfl, (HC.out _ HB3).2.2.2⟩
end Go.Proofs.Ythpdmeoljdmncaa
