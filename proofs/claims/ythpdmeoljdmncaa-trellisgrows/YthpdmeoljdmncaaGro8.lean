/- TrellisGrows, walked. -/
import Derived.Test.YthpdmeoljdmncaaErr8
import Derived.Test.YthpdmeoljdmncaaTM5
namespace Go.Proofs.Ythpdmeoljdmncaa
open Go.RowKit
set_option linter.unusedVariables false
set_option linter.unusedSimpArgs false

def z8 : List UInt8 := [122, 122, 122, 122, 122, 122, 122, 122]
set_option maxRecDepth 8000 in
set_option maxHeartbeats 16000000 in
theorem trellisGrows_walk (W : World) (g : RC.Gr) (sa : Option Addr) (sc : Nat) (aa : Option Addr) (ac : Nat) (hg : GA W.heap.size W g sa sc aa ac) (hk : grOk g)
    (is : List (List UInt8)) (ia : Option Addr) (ic : Nat) (hiv : Strs W.heap.size W (.slice ia is.length ic) is) (hin : is.length ≤ maxLen) (hil : ∀ s ∈ is, s.length ≤ maxLen)
    (xs : List (List UInt8)) (xa : Option Addr) (xc : Nat) (hx : Strs W.heap.size W (.slice xa xs.length xc) xs) (hxn : xs.length ≤ maxLen) (hxl : ∀ s ∈ xs, s.length ≤ maxLen) :
    Calls Try.prog 8 #[.agg (gv g sa sc aa ac), .slice ia is.length ic, .slice xa xs.length xc] W fun e w' => e = .returned (.bool true) ∧ Bl W w' := by
  let BX : Obj := .cells #[.slice sa g.1.length sc, .slice aa g.2.length ac] 25
  have CA : Hid (Calls Try.prog 9 #[] (W.alloc BX) fun e w' => e = .returned (.bool true) ∧ Bl (W.alloc BX) w') := awake_8 (Bl.refl _)
  have CG : Hid (∀ U, Bl (W.alloc BX) U → Calls Try.prog 10 #[.agg (gv g sa sc aa ac), .slice xa xs.length xc] U fun e w' => e = .returned (.bool (greatB g xs)) ∧ Bl (W.alloc BX) w') := fun U hU =>
    great_x g sa sc aa ac hU (hg.bl (((Bl.refl W).alloc _).step hU)) hk xs xa xc (hx.bl (((Bl.refl W).alloc _).step hU)) hxl hxn
  have HC : Hid (∀ U, Bl (W.alloc BX) U → U.cell? ⟨W.heap.size, 0, none⟩ = some (.slice sa g.1.length sc) ∧ U.cell? ⟨W.heap.size, 1, none⟩ = some (.slice aa g.2.length ac) ∧ W.heap.size < U.heap.size ∧ Bl W U) := fun U hU => box_cells hU
  unfold maxLen at hin
  by_cases hgo : greatB g xs = false ∧ is.length ≤ 20 ∧ 0 < g.2.length
  · obtain ⟨hgr, hi20, n0⟩ := hgo
    rw [hgr] at CG
    obtain ⟨b1, b2, _, _, bx, _⟩ := great_not hgr
    have HGW : Hid (GA W.heap.size W g sa sc aa ac) := hg
    have HGK : Hid (grOk g) := hk
    have HIV : Hid (Strs W.heap.size W (.slice ia is.length ic) is) := hiv
    have HIL : Hid (∀ s ∈ is, s.length ≤ maxLen) := hil
    have HXV : Hid (Strs W.heap.size W (.slice xa xs.length xc) xs) := hx
    have HXN : Hid (xs.length ≤ maxLen) := hxn
    have hne : ((g.2.length : Int) == 0) = false := by rw [beq_eq_false_iff_ne]; omega
    have hd20 : decide ((20 : Int) < (is.length : Int)) = false := by simp; omega
    clear hg hk hgr hiv hil hx hxn hxl
    unfold gv at CG ⊢
    go_enter Try.func8, Try.ntmps8
    go_wp2_with (first
      | (go_at_call 9; refine CA.out.mono ?_; clear CA; rintro e w1 ⟨rfl, HB1⟩; obtain ⟨p1, p2, p3, p4⟩ := HC.out _ HB1)
      | (go_at_call 10; refine (CG.out _ HB1).mono ?_; clear CG p1 p2 p3 p4 HB1; rintro e w3 ⟨rfl, HB3⟩; obtain ⟨p1, p2, p3, p4⟩ := HC.out _ HB3))
    have HBX : Hid (Bl (W.alloc BX) w3) := HB3
    have HW3 : Hid (Bl W w3) := p4
    clear HB3 p4
    go_loop [7] (fun u7 => ∃ i : Nat, i ≤ is.length ∧ u7 = .int .i64 i) (fun u7 => is.length - (intOf u7).toNat)
    case atStart => exact ⟨0, Nat.zero_le _, rfl⟩
    case round =>
      obtain ⟨i, hi0, rfl⟩ := hrel
      by_cases hlt : i < is.length
      · obtain ⟨s, hs⟩ : ∃ s, is[i]? = some s := ⟨is[i], List.getElem?_eq_getElem hlt⟩
        obtain ⟨b, off, rfl, hc⟩ := (Strs.sa (HIV.out.bl HW3.out)).2 i s hs
        have hsl := HIL.out s (List.mem_of_getElem? hs)
        unfold maxLen at hsl
        have hbs := M.bs_size s
        by_cases hbig : 200 < s.length
        · clear hs
          go_wp2_with fail
          go_ret
          exact ⟨rfl, HW3.out⟩
        · clear hs
          go_wp2_with fail
          go_round
          case rel => exact ⟨i + 1, by omega, by go_num⟩
          case measure => simp [intOf]; omega
      · obtain rfl : i = is.length := by omega
        obtain ⟨ab, aoff, ys, rfl, hab, hyl, hycell, hyins⟩ := acts_list HGW.out.a n0
        have HV3 : Hid (Bl w3 (w3.alloc BX)) := (Bl.refl w3).alloc _
        have hsz3 : (W.alloc BX).heap.size ≤ w3.heap.size := Below.size HBX.out
        have hhb : Hid (∀ U, Bl (w3.alloc BX) U → U.heap[w3.heap.size]? = some (.cells #[.slice sa g.1.length sc, .slice (some ⟨ab, aoff, none⟩) g.2.length ac] 25 (0, 0))) := fun U hU => by
          rw [Below.block hU _ (by simp)]; exact heap_alloc_new w3 _
        have eV : (w3.alloc BX).heap.size = w3.heap.size + 1 := by simp
        have AO0 : Hid (AO W.heap.size (w3.heap.size + 1) ((w3.alloc BX).alloc (.cells #[] 41)) (.slice (some ⟨w3.heap.size + 1, 0, none⟩) 0 0) [] []) := by
          have h := AO.new (w3.alloc BX) (N := W.heap.size) (M := w3.heap.size + 1) (by omega) (by rw [eV]; exact Nat.le_refl _)
          rw [eV] at h; exact h
        have NEWS : Hid (∀ U, Bl W U → ∀ (j : Nat) (u : Value), (flatA g.2 ys)[j]? = some u → U.cell? ⟨ab, aoff + j, none⟩ = some u) := fun U hU j u hu => by rw [Bl.cell hU hab]; exact hycell j u hu
        have INSS : Hid (∀ U, Bl W U → ∀ (i : Nat) (t : RC.Ac) (x : Option Addr) (c : Nat), g.2[i]? = some t → ys[i]? = some (x, c) → IO W.heap.size U x c t.2.1) := fun U hU i t x c h1 h2 => Or.inl ((hyins i t x c h1 h2).below hU (Nat.le_refl _))
        have HWV : Hid (Bl W ((w3.alloc BX).alloc (.cells #[] 41))) := (HW3.out.alloc _).alloc _
        have FIN5 : Hid (∀ (a5 : Option Addr) (c5 : Nat) (w5 : World), AO W.heap.size (w3.heap.size + 1) w5 (.slice a5 g.2.length c5) g.2 ys → Bl W w5 → (∀ o1 o2, AO W.heap.size (w3.heap.size + 1) ((w5.alloc o1).alloc o2) (.slice a5 g.2.length c5) g.2 ys) ∧ (∀ o1, ∀ (j : Nat) (u : Value), (flatA [((z8, is, []) : RC.Ac)] [(ia, ic)])[j]? = some u → ((w5.alloc o1).alloc (.cells #[.string (M.bs [122, 122, 122, 122, 122, 122, 122, 122]), .slice ia is.length ic, .string ⟨#[]⟩] 41)).cell? ⟨w5.heap.size + 1, 0 + j, none⟩ = some u) ∧ (∀ o1 o2, ∀ (i : Nat) (t : RC.Ac) (x : Option Addr) (c : Nat), [((z8, is, []) : RC.Ac)][i]? = some t → [((ia, ic) : Option Addr × Nat)][i]? = some (x, c) → IO W.heap.size ((w5.alloc o1).alloc o2) x c t.2.1)) := fun a5 c5 w5 hA hB => by
          refine ⟨fun o1 o2 => hA.bl (((Bl.refl w5).alloc _).alloc _), fun o1 j u hu => ?_, fun o1 o2 i t x c h1 h2 => ?_⟩
          · rw [show w5.heap.size + 1 = (w5.alloc o1).heap.size by simp, Lib.cell_of_heap (heap_alloc_new _ _), Nat.zero_add]
            rcases j with _ | _ | _ | j
            · cases hu; rfl
            · cases hu; rfl
            · cases hu; rfl
            · simp [flatA, acL] at hu
          · rcases i with _ | i
            · cases h1; cases h2
              exact Or.inl (HIV.out.below ((hB.alloc o1).alloc o2) (Nat.le_refl _))
            · simp at h1
        clear hycell hyins hab
        have e6 : (gPlus g (z8, is, [])).2.length = g.2.length + 1 := by simp [gPlus]
        have HMK : Hid (∀ (a6 : Option Addr) (c6 : Nat) (w6 : World), AO W.heap.size (w3.heap.size + 1) w6 (.slice a6 (g.2 ++ [((z8, is, []) : RC.Ac)]).length c6) (g.2 ++ [(z8, is, [])]) (ys ++ [(ia, ic)]) → w6.heap[w3.heap.size]? = some (.cells #[.slice sa g.1.length sc, .slice (some ⟨ab, aoff, none⟩) g.2.length ac] 25 (0, 0)) → Bl (W.alloc BX) (w6.setCell ⟨w3.heap.size, 1, none⟩ (.slice a6 (g.2.length + 1) c6)) → GA (w6.setCell ⟨w3.heap.size, 1, none⟩ (.slice a6 (g.2.length + 1) c6)).heap.size (w6.setCell ⟨w3.heap.size, 1, none⟩ (.slice a6 (g.2.length + 1) c6)) (gPlus g (z8, is, [])) sa sc a6 c6 ∧ (w6.setCell ⟨w3.heap.size, 1, none⟩ (.slice a6 (g.2.length + 1) c6)).heap[w3.heap.size]? = some (.cells #[.slice sa g.1.length sc, .slice a6 (g.2.length + 1) c6] 25 (0, 0))) := fun a6 c6 w6 hA hb hB => by
          have e : (g.2 ++ [((z8, is, []) : RC.Ac)]).length = g.2.length + 1 := by simp
          rw [e] at hA
          refine ⟨?_, by rw [heap_setCell_rowR hb]; rfl⟩
          obtain ⟨a', c', e', h⟩ := (AO.setK (i := 1) (u := .slice a6 (g.2.length + 1) c6) hA hb (by omega)).ga (HC.out _ hB).2.2.2 HGW.out.s
          simp only [Value.slice.injEq] at e'
          obtain ⟨e1, _, e3⟩ := e'
          subst e1
          subst e3
          exact h
        have HM8 : Hid (∀ (a6 : Option Addr) (c6 : Nat) (V w8 : World), (GA V.heap.size V (gPlus g (z8, is, [])) sa sc a6 c6 ∧ V.heap[w3.heap.size]? = some (.cells #[.slice sa g.1.length sc, .slice a6 (g.2.length + 1) c6] 25 (0, 0))) → Bl V w8 → ∀ U, Bl w8 U → GA U.heap.size U (gPlus g (z8, is, [])) sa sc a6 c6 ∧ U.cell? ⟨w3.heap.size, 0, none⟩ = some (.slice sa g.1.length sc) ∧ U.cell? ⟨w3.heap.size, 1, none⟩ = some (.slice a6 (g.2.length + 1) c6)) := fun a6 c6 V w8 hG hB U hU => by
          have hb := hB.step hU
          have hlt := TA.lt_heap hG.2
          exact ⟨hG.1.bl hb, by rw [Bl.cell hb hlt, Lib.cell_of_heap hG.2]; rfl, by rw [Bl.cell hb hlt, Lib.cell_of_heap hG.2]; rfl⟩
        have HOKh : Hid (grOk (gPlus g (z8, is, []))) := by
          have h0 := HGK.out
          refine ⟨h0.s, h0.t, by rw [e6]; unfold maxLen; omega, fun a ha => ?_⟩
          rcases List.mem_append.1 ha with h1 | h1
          · exact h0.b a h1
          · simp at h1; subst h1
            exact ⟨by unfold maxLen; simp [z8], by unfold maxLen; omega, HIL.out, by unfold maxLen; simp⟩
        have CCg : Hid (∀ U, Bl (W.alloc BX) U → Calls Try.prog 11 #[.agg #[.slice sa g.1.length sc, .slice (some ⟨ab, aoff, none⟩) g.2.length ac]] U fun e w' => e = .returned (.int .i64 (TR.chk g : Int)) ∧ Bl U w') := fun U hU =>
          Check_x g sa sc _ ac (Bl.refl U) (HGW.out.bl (HC.out _ hU).2.2.2) HGK.out
        have CCh : Hid (∀ (U : World) (a6 : Option Addr) (c6 : Nat), GA U.heap.size U (gPlus g (z8, is, [])) sa sc a6 c6 → Calls Try.prog 11 #[.agg #[.slice sa g.1.length sc, .slice a6 (g.2.length + 1) c6]] U fun e w' => e = .returned (.int .i64 (TR.chk (gPlus g (z8, is, [])) : Int)) ∧ Bl U w') := fun U a6 c6 hG => by
          have h := Check_x (gPlus g (z8, is, [])) sa sc a6 c6 (Bl.refl U) hG HOKh.out
          unfold gv at h
          rw [e6] at h
          exact h
        by_cases hcg : TR.chk g = 0
        · rw [hcg] at CCg
          by_cases hch : TR.chk (gPlus g (z8, is, [])) = 0
          · rw [hch] at CCh
            have HGD : Hid (TR.Good g) := TR.chk_zero.1 hcg
            have HHD : Hid (TR.Good (gPlus g (z8, is, []))) := TR.chk_zero.1 hch
            clear hcg hch
            have hfin := fin_plus HGD.out HHD.out
            have hlen := HGD.out.len
            have hle := HGD.out.le
            have HLT : Hid (∀ (i p : Nat), (TR.fin g).order[i]? = some p → p < g.2.length) := fun i p hp => HGD.out.inv.lt p (List.mem_of_getElem? hp)
            have COg : Hid (∀ U, Bl (W.alloc BX) U → Calls Try.prog 14 #[.agg #[.slice sa g.1.length sc, .slice (some ⟨ab, aoff, none⟩) g.2.length ac]] U fun e w' => ∃ a c, e = .returned (.slice a g.2.length c) ∧ IA w' a (TR.fin g).order ∧ Bl U w') := fun U hU => by
              have h := Order_x g sa sc (some ⟨ab, aoff, none⟩) ac (Bl.refl U) (HGW.out.bl (HC.out _ hU).2.2.2) HGK.out
              have e : ordL g = (TR.fin g).order := by unfold ordL; rw [if_pos (TR.chk_zero.2 HGD.out)]
              rw [e, hlen] at h
              exact h
            have COh : Hid (∀ (U : World) (a6 : Option Addr) (c6 : Nat), GA U.heap.size U (gPlus g (z8, is, [])) sa sc a6 c6 → Calls Try.prog 14 #[.agg #[.slice sa g.1.length sc, .slice a6 (g.2.length + 1) c6]] U fun e w' => ∃ a c, e = .returned (.slice a (g.2.length + 1) c) ∧ IA w' a ((TR.fin g).order ++ [g.2.length]) ∧ Bl U w') := fun U a6 c6 hG => by
              have h := Order_x (gPlus g (z8, is, [])) sa sc a6 c6 (Bl.refl U) hG HOKh.out
              have e : ordL (gPlus g (z8, is, [])) = (TR.fin g).order ++ [g.2.length] := by unfold ordL; rw [if_pos (TR.chk_zero.2 HHD.out)]; exact hfin.1
              unfold gv at h
              rw [e, e6, List.length_append, hlen] at h
              exact h
            have CDg : Hid (∀ U, Bl (W.alloc BX) U → Calls Try.prog 19 #[.agg #[.slice sa g.1.length sc, .slice (some ⟨ab, aoff, none⟩) g.2.length ac], .slice xa xs.length xc] U fun e w' => ∃ a c, e = .returned (.slice a (drL g xs).length c) ∧ IA w' a (drL g xs) ∧ Bl U w') := fun U hU =>
              Dirty_x g sa sc (some ⟨ab, aoff, none⟩) ac xs xa xc (Bl.refl U) (HGW.out.bl (HC.out _ hU).2.2.2) HGK.out (HXV.out.bl (HC.out _ hU).2.2.2) HXN.out
            have CDh : Hid (∀ (U : World) (a6 : Option Addr) (c6 : Nat), GA U.heap.size U (gPlus g (z8, is, [])) sa sc a6 c6 → Bl W U → Calls Try.prog 19 #[.agg #[.slice sa g.1.length sc, .slice a6 (g.2.length + 1) c6], .slice xa xs.length xc] U fun e w' => ∃ a c, e = .returned (.slice a (drL (gPlus g (z8, is, [])) xs).length c) ∧ IA w' a (drL (gPlus g (z8, is, [])) xs) ∧ Bl U w') := fun U a6 c6 hG hU => by
              have h := Dirty_x (gPlus g (z8, is, [])) sa sc a6 c6 xs xa xc (Bl.refl U) hG HOKh.out (HXV.out.bl hU) HXN.out
              unfold gv at h
              rw [e6] at h
              exact h
            have HCNg : Hid (∀ U s, Bl (W.alloc BX) U → Calls Try.prog 17 #[.agg #[.slice sa g.1.length sc, .slice (some ⟨ab, aoff, none⟩) g.2.length ac], .string (M.bs s)] U fun e w' => ∃ a c, e = .returned (.slice a (ndL g s).length c) ∧ TA.TS w' a (ndL g s) ∧ Bl U w') := fun U s hU => by
              refine (Needs_x g sa sc (some ⟨ab, aoff, none⟩) ac s (Bl.refl U) (HGW.out.bl (HC.out _ hU).2.2.2) HGK.out).mono ?_
              rintro e w' ⟨v, rfl, ho, hb⟩
              obtain ⟨a, c, rfl, _, hs⟩ := Strs.ofOwns ho
              exact ⟨a, c, rfl, TA.ts_of hs, hb⟩
            have HCNh : Hid (∀ (U : World) (a6 : Option Addr) (c6 : Nat) s, GA U.heap.size U (gPlus g (z8, is, [])) sa sc a6 c6 → Calls Try.prog 17 #[.agg #[.slice sa g.1.length sc, .slice a6 (g.2.length + 1) c6], .string (M.bs s)] U fun e w' => ∃ a c, e = .returned (.slice a (ndL (gPlus g (z8, is, [])) s).length c) ∧ TA.TS w' a (ndL (gPlus g (z8, is, [])) s) ∧ Bl U w') := fun U a6 c6 s hG => by
              have h := Needs_x (gPlus g (z8, is, [])) sa sc a6 c6 s (Bl.refl U) hG HOKh.out
              unfold gv at h
              rw [e6] at h
              refine Calls.mono h ?_
              rintro e w' ⟨v, rfl, ho, hb⟩
              obtain ⟨a, c, rfl, _, hs⟩ := Strs.ofOwns ho
              exact ⟨a, c, rfl, TA.ts_of hs, hb⟩
            have HND : Hid (∀ (i : Nat) (t : RC.Ac), g.2[i]? = some t → ndL (gPlus g (z8, is, [])) t.1 = ndL g t.1) := fun i t ht => ndL_plus HGD.out HHD.out ht
            have HNL : Hid (∀ s, (ndL g s).length ≤ 20) := fun s => ndL_len HGD.out s
            have HDR : Hid ((drL g xs).length ≤ (drL (gPlus g (z8, is, [])) xs).length ∧ (drL (gPlus g (z8, is, [])) xs).length ≤ (drL g xs).length + 1 ∧ (∀ (i x : Nat), (drL g xs)[i]? = some x → (drL (gPlus g (z8, is, [])) xs)[i]? = some x) ∧ (drL g xs).length ≤ 12) := by
              have h12 : (drL g xs).length ≤ 12 := by
                unfold drL
                rw [if_pos (TR.chk_zero.2 HGD.out)]
                have := plcs_le (drt g (TR.fin g) (TR.setOf (TR.nm g) xs)) g.2.length
                omega
              rcases drL_plus HGD.out HHD.out xs with e | e
              · rw [e]; exact ⟨Nat.le_refl _, by omega, fun i x h => h, h12⟩
              · rw [e]
                refine ⟨by simp, by simp, fun i x h => ?_, h12⟩
                rw [List.getElem?_append_left (List.getElem?_eq_some_iff.1 h).1]; exact h
            have HNM : Hid (∀ U, Bl W U → ∀ (i : Nat) (t : RC.Ac), g.2[i]? = some t → U.cell? ⟨ab, aoff + i * 3, none⟩ = some (.string (M.bs t.1))) := fun U hU i t ht => by
              obtain ⟨b', off', x', c', e, h1, h2, h3⟩ := HGW.out.a i t ht
              cases e
              rw [Bl.cell hU h1]
              exact h2 0 _ rfl
            clear hfin e6
            generalize hDL : drL g xs = DL at *
            generalize hDH : drL (gPlus g (z8, is, [])) xs = DH at *
            clear hDL hDH
            go_wp2_with (first
              | (refine wl_appX rfl _ _ rfl W.heap.size (w3.heap.size + 1) [] [] (.slice (some ⟨w3.heap.size + 1, 0, none⟩) 0 0) rfl AO0.out g.2 ys ab aoff g.2.length ac rfl rfl (NEWS.out _ HWV.out) hyl (INSS.out _ HWV.out) n0 (by simp; omega) (fun a5 c5 w5 HA5 hg5 => ?_); have HB5 : Bl (w3.alloc BX) w5 := AO0.out.below ((Bl.refl _).alloc _) (by simp) hg5; have HA5 : AO W.heap.size (w3.heap.size + 1) w5 (.slice a5 g.2.length c5) g.2 ys := HA5; have HB5H : Hid (Bl (w3.alloc BX) w5) := HB5; have HF5 : Hid _ := FIN5.out _ _ _ HA5 ((HW3.out.alloc _).step HB5); clear AO0 FIN5 HA5 hg5 HB5)
              | (go_at_call 22; refine (action_x _ _ _ _ _).mono ?_; rintro e w' ⟨rfl, hw'⟩; rw [hw']; clear hw' w')
              | (refine wl_appX rfl _ _ rfl W.heap.size (w3.heap.size + 1) g.2 ys (.slice a5 g.2.length c5) rfl (HF5.out.1 _ _) [(z8, is, [])] [(ia, ic)] (w5.heap.size + 1) 0 1 1 rfl rfl (HF5.out.2.1 _) rfl (HF5.out.2.2 _ _) (by simp) (by simp; omega) (fun a6 c6 w6 HA6 hg6 => ?_); have HB6 : Bl (w3.alloc BX) w6 := AO.below (HF5.out.1 _ _) ((HB5H.out.alloc _).alloc _) (by simp) hg6; have HA6H : Hid _ := HA6; have HB6H : Hid (Bl (w3.alloc BX) w6) := HB6; have hbk6 := hhb.out _ HB6; have HK6 : Hid _ := hbk6; have k1 : w6.cell? ⟨w3.heap.size, 1, none⟩ = some (.slice (some ⟨ab, aoff, none⟩) g.2.length ac) := (by rw [Lib.cell_of_heap hbk6]; rfl); have k2 : w6.frozen? ⟨w3.heap.size, 1, none⟩ = false := (by simp [World.frozen?, hbk6]); have k3 : w3.heap.size < w6.heap.size := TA.lt_heap hbk6; have HB7 : Bl (W.alloc BX) (w6.setCell ⟨w3.heap.size, 1, none⟩ (.slice a6 (g.2.length + 1) c6)) := Below.setCell (HBX.out.step (HV3.out.step HB6)) hsz3 _; have HB7H : Hid (Bl (W.alloc BX) (w6.setCell ⟨w3.heap.size, 1, none⟩ (.slice a6 (g.2.length + 1) c6))) := HB7; have HGH : Hid (GA (w6.setCell ⟨w3.heap.size, 1, none⟩ (.slice a6 (g.2.length + 1) c6)).heap.size (w6.setCell ⟨w3.heap.size, 1, none⟩ (.slice a6 (g.2.length + 1) c6)) (gPlus g (z8, is, [])) sa sc a6 c6 ∧ (w6.setCell ⟨w3.heap.size, 1, none⟩ (.slice a6 (g.2.length + 1) c6)).heap[w3.heap.size]? = some (.cells #[.slice sa g.1.length sc, .slice a6 (g.2.length + 1) c6] 25 (0, 0))) := HMK.out _ _ _ HA6 hbk6 HB7; obtain ⟨f0, f1, f2, f3⟩ := HC.out _ HB7; clear HF5 HA6 hg6 HB6 hbk6 p1 p2 p3 HA6H HB6H HK6 HB7 f3)
              | (go_at_call 11; refine (CCg.out _ HB7H.out).mono ?_; clear CCg k1 k2 k3; rintro e w8 ⟨rfl, hb8⟩; have HB8 : Hid (Bl (W.alloc BX) w8) := HB7H.out.step hb8; have HGH8 : Hid (∀ U, Bl w8 U → GA U.heap.size U (gPlus g (z8, is, [])) sa sc a6 c6 ∧ U.cell? ⟨w3.heap.size, 0, none⟩ = some (.slice sa g.1.length sc) ∧ U.cell? ⟨w3.heap.size, 1, none⟩ = some (.slice a6 (g.2.length + 1) c6)) := HM8.out _ _ _ _ HGH.out hb8; clear f0 f1 f2; obtain ⟨f0, f1, f2, f3⟩ := HC.out _ HB8.out; obtain ⟨_, e0, e1⟩ := HGH8.out _ (Bl.refl w8); clear HGH HB7H hb8 f3)
              | (go_at_call 11; refine (CCh.out _ _ _ (HGH8.out _ (Bl.refl w8)).1).mono ?_; clear CCh f0 f1 f2 e0 e1; rintro e w9 ⟨rfl, hb9⟩; have HB9 : Hid (Bl w8 w9) := hb9; clear hb9; obtain ⟨f0, f1, f2, f3⟩ := HC.out _ (HB8.out.step HB9.out); obtain ⟨_, e0, e1⟩ := HGH8.out _ HB9.out)
              | (go_at_call 14; refine (COg.out _ (HB8.out.step HB9.out)).mono ?_; clear COg f0 f1 f2 f3 e0 e1; rintro e w10 ⟨la, lc, rfl, hia, hb10⟩; have HI10 : Hid (IA w10 la (TR.fin g).order) := hia; have HB10 : Hid (Bl w8 w10) := HB9.out.step hb10; clear hia hb10; obtain ⟨f0, f1, f2, f3⟩ := HC.out _ (HB8.out.step HB10.out); obtain ⟨_, e0, e1⟩ := HGH8.out _ HB10.out)
              | (go_at_call 14; refine (COh.out _ _ _ (HGH8.out _ HB10.out).1).mono ?_; clear COh f0 f1 f2 f3 e0 e1; rintro e w11 ⟨lb, ld, rfl, hia, hb11⟩; have HI11 : Hid (IA w11 lb ((TR.fin g).order ++ [g.2.length])) := hia; have HI10' : Hid (IA w11 la (TR.fin g).order) := IA.bl HI10.out hb11; have HB11 : Hid (Bl w8 w11) := HB10.out.step hb11; clear hia hb11 HI10 HB10 HB9))
            go_loopw [12, 13] (fun u12 u13 wr => ∃ i : Nat, i ≤ g.2.length + 1 ∧ u13 = .int .i64 i ∧ u12 = .int .i64 ((min i g.2.length : Nat) : Int) ∧ Bl w11 wr) (fun _ u13 _ => g.2.length + 1 - (intOf u13).toNat)
            case atStart => exact ⟨0, Nat.zero_le _, rfl, by simp, Bl.refl w11⟩
            case round =>
              obtain ⟨i, hi0, rfl, rfl, hb⟩ := hrel
              have HBR : Hid (Bl w11 wr) := hb
              clear hb
              by_cases hlt : i < g.2.length
              · obtain ⟨p, hp⟩ : ∃ p, (TR.fin g).order[i]? = some p := ⟨_, List.getElem?_eq_getElem (by omega)⟩
                have hpl := HLT.out i p hp
                obtain ⟨b1', o1', rfl, _, hc1⟩ := IA.bl HI10'.out HBR.out i p hp
                obtain ⟨b2', o2', rfl, _, hc2⟩ := IA.bl HI11.out HBR.out i p (by rw [List.getElem?_append_left (List.getElem?_eq_some_iff.1 hp).1]; exact hp)
                have hpn : ((p : Int) == (g.2.length : Int)) = false := by rw [beq_eq_false_iff_ne]; omega
                have hpp : ((p : Int) != (p : Int)) = false := by simp
                have hmi : min i g.2.length = i := by omega
                have hge : decide ((g.2.length : Int) ≤ (i : Int)) = false := by simp; omega
                have HMJ : Hid (min (i + 1) g.2.length = i + 1) := by show _ = _; omega
                rw [hmi]
                clear hp hmi hpl
                go_wp2_with fail
                go_quiet (fail)
                go_wp2_with fail
                go_roundw
                case rel => exact ⟨i + 1, by omega, by go_num, by rw [HMJ.out]; go_num, HBR.out.drewN _⟩
                case measure => simp [intOf]; omega
              by_cases heq : i = g.2.length
              · obtain ⟨b2', o2', rfl, _, hc2⟩ := IA.bl HI11.out HBR.out i g.2.length (by rw [List.getElem?_append_right (by omega)]; simp [hlen, heq])
                have hpn : ((g.2.length : Int) == (g.2.length : Int)) = true := by simp
                have hlt2 : i < g.2.length + 1 := by omega
                have HMJ : Hid (min (i + 1) g.2.length = min i g.2.length) := by show _ = _; omega
                have HI1 : Hid (i + 1 ≤ g.2.length + 1) := by show _ ≤ _; omega
                generalize min i g.2.length = mi at *
                clear heq hlt
                go_wp2_with fail
                go_roundw
                case rel => exact ⟨i + 1, HI1.out, by go_num, by rw [HMJ.out], HBR.out⟩
                case measure => simp [intOf]; omega
              · obtain rfl : i = g.2.length + 1 := by omega
                have hmi : min (g.2.length + 1) g.2.length = g.2.length := by omega
                rw [hmi]
                have HBWR : Hid (Bl w8 wr) := HB11.out.step HBR.out
                have hnn : ((g.2.length : Int) != (g.2.length : Int)) = false := by simp
                obtain ⟨f0, f1, f2, f3⟩ := HC.out _ (HB8.out.step HBWR.out)
                obtain ⟨_, e0, e1⟩ := HGH8.out _ HBWR.out
                obtain ⟨dl1, dl2, dl3, dl4⟩ := HDR.out
                have HD3 : Hid (∀ (i x : Nat), DL[i]? = some x → DH[i]? = some x) := dl3
                have hdl1 : decide ((DH.length : Int) < (DL.length : Int)) = false := by simp; omega
                have hdl2 : decide ((DL.length : Int) + 1 < (DH.length : Int)) = false := by simp; omega
                have hdl3 : decide (DH.length < DL.length) = false := by simp; omega
                have hdl4 : decide (DL.length + 1 < DH.length) = false := by simp; omega
                clear hmi hlt heq dl3 HDR
                go_wp2_with (first
                  | (go_at_call 19; refine (CDg.out _ (HB8.out.step HBWR.out)).mono ?_; clear CDg f0 f1 f2 f3 e0 e1; rintro e w12 ⟨ca, cc, rfl, hia, hb12⟩; have HI12 : Hid (IA w12 ca DL) := hia; have HB12 : Hid (Bl w8 w12) := HBWR.out.step hb12; clear hia hb12; obtain ⟨f0, f1, f2, f3⟩ := HC.out _ (HB8.out.step HB12.out); obtain ⟨_, e0, e1⟩ := HGH8.out _ HB12.out)
                  | (go_at_call 19; refine (CDh.out _ _ _ (HGH8.out _ HB12.out).1 f3).mono ?_; clear CDh f0 f1 f2 f3 e0 e1; rintro e w13 ⟨da, dd, rfl, hia, hb13⟩; have HI13 : Hid (IA w13 da DH) := hia; have HI12' : Hid (IA w13 ca DL) := IA.bl HI12.out hb13; have HB13 : Hid (Bl w8 w13) := HB12.out.step hb13; clear hia hb13 HI12 HB12))
                go_loopw [16] (fun u16 wr => ∃ i : Nat, i ≤ DL.length ∧ u16 = .int .i64 i ∧ Bl w13 wr) (fun u16 _ => DL.length - (intOf u16).toNat)
                case atStart => exact ⟨0, Nat.zero_le _, rfl, Bl.refl w13⟩
                case round =>
                  obtain ⟨i, hi1, rfl, hb⟩ := hrel
                  have HBS : Hid (Bl w13 wr) := hb
                  clear hb
                  by_cases hlt : i < DL.length
                  · obtain ⟨p, hp⟩ : ∃ p, DL[i]? = some p := ⟨_, List.getElem?_eq_getElem hlt⟩
                    obtain ⟨b1', o1', rfl, _, hc1⟩ := IA.bl HI12'.out HBS.out i p hp
                    obtain ⟨b2', o2', rfl, _, hc2⟩ := IA.bl HI13.out HBS.out i p (HD3.out i p hp)
                    have hpp : ((p : Int) != (p : Int)) = false := by simp
                    have hlt2 : (i : Int) < (DH.length : Int) := by omega
                    clear hp
                    go_wp2_with fail
                    go_quiet (fail)
                    go_wp2_with fail
                    go_roundw
                    case rel => exact ⟨i + 1, by omega, by go_num, HBS.out.drewN _⟩
                    case measure => simp [intOf]; omega
                  · obtain rfl : i = DL.length := by omega
                    clear hlt hi1
                    go_wp2_with fail
                    go_loopw [17, 18, 19, 20] (fun u17 u18 u19 u20 wr => ∃ i : Nat, i ≤ g.2.length ∧ u17 = .int .i64 i ∧ Bl w13 wr) (fun u17 _ _ _ _ => g.2.length - (intOf u17).toNat)
                    case atStart => exact ⟨0, Nat.zero_le _, rfl, HBS.out⟩
                    case round =>
                      obtain ⟨i, hi1, rfl, hb⟩ := hrel
                      have HBT : Hid (Bl w13 wr) := hb
                      clear hb
                      by_cases hlt : i < g.2.length
                      · obtain ⟨t, ht⟩ : ∃ t, g.2[i]? = some t := ⟨_, List.getElem?_eq_getElem hlt⟩
                        have HB8R : Hid (Bl w8 wr) := HB13.out.step HBT.out
                        have HBWR2 : Hid (Bl (W.alloc BX) wr) := HB8.out.step HB8R.out
                        have hnd := HND.out i t ht
                        have hnl := HNL.out t.1
                        have KP39 : Hid (∀ U, Bl wr U → U.cell? ⟨W.heap.size, 0, none⟩ = some (.slice sa g.1.length sc) ∧ U.cell? ⟨W.heap.size, 1, none⟩ = some (.slice (some ⟨ab, aoff, none⟩) g.2.length ac) ∧ U.cell? ⟨ab, aoff + i * 3, none⟩ = some (.string (M.bs t.1))) := fun U hU => by
                          obtain ⟨g0, g1, g2, g3⟩ := HC.out _ (HBWR2.out.step hU)
                          exact ⟨g0, g1, HNM.out _ g3 i t ht⟩
                        have KP0 : Hid (∀ U, Bl wr U → U.cell? ⟨w3.heap.size, 0, none⟩ = some (.slice sa g.1.length sc) ∧ U.cell? ⟨w3.heap.size, 1, none⟩ = some (.slice a6 (g.2.length + 1) c6) ∧ U.cell? ⟨W.heap.size, 1, none⟩ = some (.slice (some ⟨ab, aoff, none⟩) g.2.length ac) ∧ U.cell? ⟨ab, aoff + i * 3, none⟩ = some (.string (M.bs t.1))) := fun U hU => by
                          obtain ⟨g0, g1, g2, g3⟩ := HC.out _ (HBWR2.out.step hU)
                          obtain ⟨_, h0, h1⟩ := HGH8.out _ (HB8R.out.step hU)
                          exact ⟨h0, h1, g1, HNM.out _ g3 i t ht⟩
                        have CNg : Hid (∀ U, Bl wr U → Calls Try.prog 17 #[.agg #[.slice sa g.1.length sc, .slice (some ⟨ab, aoff, none⟩) g.2.length ac], .string (M.bs t.1)] U fun e w' => ∃ a c, e = .returned (.slice a (ndL g t.1).length c) ∧ TA.TS w' a (ndL g t.1) ∧ Bl wr w') := fun U hU => by
                          refine (HCNg.out U t.1 (HBWR2.out.step hU)).mono ?_
                          rintro e w' ⟨a, c, rfl, h1, h2⟩
                          exact ⟨a, c, rfl, h1, hU.step h2⟩
                        have CN0 : Hid (∀ U, Bl wr U → Calls Try.prog 17 #[.agg #[.slice sa g.1.length sc, .slice a6 (g.2.length + 1) c6], .string (M.bs t.1)] U fun e w' => ∃ a c, e = .returned (.slice a (ndL g t.1).length c) ∧ TA.TS w' a (ndL g t.1) ∧ Bl U w') := fun U hU => by
                          have h := HCNh.out U a6 c6 t.1 (HGH8.out _ (HB8R.out.step hU)).1
                          rw [hnd] at h; exact h
                        have hii : (i : Int) < (g.2.length : Int) := by omega
                        clear ht hnd
                        generalize hND : ndL g t.1 = ND at *
                        generalize t.1 = tn at *
                        clear hND
                        go_wp2_with fail
                        refine wp_region_noPanic ?_
                        refine wp_region_held_drew (S := fun U => U.cell? ⟨W.heap.size, 0, none⟩ = some (.slice sa g.1.length sc) ∧ U.cell? ⟨W.heap.size, 1, none⟩ = some (.slice (some ⟨ab, aoff, none⟩) g.2.length ac) ∧ U.cell? ⟨ab, aoff + i * 3, none⟩ = some (.string (M.bs tn))) (by kernel_rfl) (KP39.out _ ((Bl.refl wr).drewN 1)) (fun hHeld => ?_)
                        refine wpAnyH_take (i := 0) (v := ?_) rfl (by kernel_rfl) (by kernel_rfl) (by kernel_rfl) (fun _ _ _ h => h) (Or.inl ⟨by kernel_rfl, ?_⟩) (by assumption) ?_
                        rotate_left
                        · (intro w hSw; (try dsimp only at hSw); go_simp; (try with_reducible rfl))
                        simp only [Act.put, List.getElem_toArray, List.getElem_cons_succ, List.getElem_cons_zero, List.setIfInBounds_toArray, List.set_cons_zero, List.set_cons_succ]
                        refine wpAnyH_take (i := 1) (v := ?_) rfl (by kernel_rfl) (by kernel_rfl) (by kernel_rfl) (fun _ _ _ h => h) (Or.inl ⟨by kernel_rfl, ?_⟩) (by assumption) ?_
                        rotate_left
                        · (intro w hSw; (try dsimp only at hSw); go_simp; (try with_reducible rfl))
                        simp only [Act.put, List.getElem_toArray, List.getElem_cons_succ, List.getElem_cons_zero, List.setIfInBounds_toArray, List.set_cons_zero, List.set_cons_succ]
                        refine wpAnyH_take (i := 2) (v := ?_) rfl (by kernel_rfl) (by kernel_rfl) (by kernel_rfl) (fun _ _ _ h => h) (Or.inl ⟨by kernel_rfl, ?_⟩) (by assumption) ?_
                        rotate_left
                        · (intro w hSw; (try dsimp only at hSw); go_simp; (try with_reducible rfl))
                        simp only [Act.put, List.getElem_toArray, List.getElem_cons_succ, List.getElem_cons_zero, List.setIfInBounds_toArray, List.set_cons_zero, List.set_cons_succ]
                        refine wpAnyH_take (i := 3) rfl (by kernel_rfl) (by kernel_rfl) (by kernel_rfl) (fun _ _ _ h => h) (yi_move (by kernel_rfl) rfl rfl) (by assumption) ?_
                        simp only [Act.put, List.getElem_toArray, List.getElem_cons_succ, List.getElem_cons_zero, List.setIfInBounds_toArray, List.set_cons_zero, List.set_cons_succ]
                        refine wpAnyH_take (i := 4) (v := ?_) rfl (by kernel_rfl) (by kernel_rfl) (by kernel_rfl) (fun _ _ _ h => h) (Or.inl ⟨by kernel_rfl, ?_⟩) (by assumption) ?_
                        rotate_left
                        · (intro w hSw; (try dsimp only at hSw); go_simp; (try with_reducible rfl))
                        simp only [Act.put, List.getElem_toArray, List.getElem_cons_succ, List.getElem_cons_zero, List.setIfInBounds_toArray, List.set_cons_zero, List.set_cons_succ]
                        refine wpAnyH_take (i := 5) (v := ?_) rfl (by kernel_rfl) (by kernel_rfl) (by kernel_rfl) (fun _ _ _ h => h) (Or.inl ⟨by kernel_rfl, ?_⟩) (by assumption) ?_
                        rotate_left
                        · (intro w hSw; (try dsimp only at hSw); go_simp; (try with_reducible rfl))
                        simp only [Act.put, List.getElem_toArray, List.getElem_cons_succ, List.getElem_cons_zero, List.setIfInBounds_toArray, List.set_cons_zero, List.set_cons_succ]
                        refine wpAnyH_take (i := 6) (v := ?_) rfl (by kernel_rfl) (by kernel_rfl) (by kernel_rfl) (fun _ _ _ h => h) (Or.inl ⟨by kernel_rfl, ?_⟩) (by assumption) ?_
                        rotate_left
                        · (intro w hSw; (try dsimp only at hSw); go_simp; (try with_reducible rfl))
                        simp only [Act.put, List.getElem_toArray, List.getElem_cons_succ, List.getElem_cons_zero, List.setIfInBounds_toArray, List.set_cons_zero, List.set_cons_succ]
                        refine wpAnyH_take (i := 7) (v := ?_) rfl (by kernel_rfl) (by kernel_rfl) (by kernel_rfl) (fun _ _ _ h => h) (Or.inl ⟨by kernel_rfl, ?_⟩) (by assumption) ?_
                        rotate_left
                        · (intro w hSw; (try dsimp only at hSw); go_simp; (try with_reducible rfl))
                        simp only [Act.put, List.getElem_toArray, List.getElem_cons_succ, List.getElem_cons_zero, List.setIfInBounds_toArray, List.set_cons_zero, List.set_cons_succ]
                        refine wpAnyH_ready (rs := [8]) (by kernel_rfl) (by simp) ?_
                        refine AllReadyH.cons (o := _) rfl (fun K hK => ?_) AllReadyH.nil
                        go_simp
                        go_at_call 17; refine (CNg.out _ ((Bl.refl wr).drewN 1)).mono ?_; rintro e wn ⟨xb, xd, rfl, HTX, HB9⟩
                        refine hK.out _ _ (KP39.out _ HB9) (fun hHeld => ?_)
                        clear hK K
                        (try simp only [Act.put, List.getElem_toArray, List.getElem_cons_succ, List.getElem_cons_zero, List.setIfInBounds_toArray, List.set_cons_zero, List.set_cons_succ])
                        refine wpAnyH_take (i := 9) (v := .slice xb ND.length xd) rfl (by kernel_rfl) (by kernel_rfl) (by kernel_rfl) (fun _ _ _ h => h) (yi_assign (by kernel_rfl) rfl (by rfl)) (by assumption) ?_
                        simp only [Act.put, List.getElem_toArray, List.getElem_cons_succ, List.getElem_cons_zero, List.setIfInBounds_toArray, List.set_cons_zero, List.set_cons_succ]
                        refine wpAnyH_done (by kernel_rfl) ?_ _
                        refine NoPanic.normal ?_
                        have HTXH : Hid (TA.TS wn xb ND) := HTX
                        have HBN : Hid (Bl wr wn) := HB9
                        clear HTX
                        generalize hWn : wn = Wn at *
                        clear hWn
                        go_wp2_with fail
                        have KP40 : Hid (∀ U, Bl Wn U → U.cell? ⟨w3.heap.size, 0, none⟩ = some (.slice sa g.1.length sc) ∧ U.cell? ⟨w3.heap.size, 1, none⟩ = some (.slice a6 (g.2.length + 1) c6) ∧ U.cell? ⟨W.heap.size, 1, none⟩ = some (.slice (some ⟨ab, aoff, none⟩) g.2.length ac) ∧ U.cell? ⟨ab, aoff + i * 3, none⟩ = some (.string (M.bs tn))) := fun U hU => KP0.out U (HBN.out.step hU)
                        have CNh : Hid (∀ U, Bl Wn U → Calls Try.prog 17 #[.agg #[.slice sa g.1.length sc, .slice a6 (g.2.length + 1) c6], .string (M.bs tn)] U fun e w' => ∃ a c, e = .returned (.slice a ND.length c) ∧ TA.TS w' a ND ∧ Bl Wn w') := fun U hU => by
                          refine (CN0.out U (HBN.out.step hU)).mono ?_
                          rintro e w' ⟨a, c, rfl, h1, h2⟩
                          exact ⟨a, c, rfl, h1, hU.step h2⟩
                        refine wp_region_noPanic ?_
                        refine wp_region_held_drew (S := fun U => U.cell? ⟨w3.heap.size, 0, none⟩ = some (.slice sa g.1.length sc) ∧ U.cell? ⟨w3.heap.size, 1, none⟩ = some (.slice a6 (g.2.length + 1) c6) ∧ U.cell? ⟨W.heap.size, 1, none⟩ = some (.slice (some ⟨ab, aoff, none⟩) g.2.length ac) ∧ U.cell? ⟨ab, aoff + i * 3, none⟩ = some (.string (M.bs tn))) (by kernel_rfl) (KP40.out _ ((Bl.refl Wn).drewN 1)) (fun hHeld => ?_)
                        refine wpAnyH_take (i := 0) (v := ?_) rfl (by kernel_rfl) (by kernel_rfl) (by kernel_rfl) (fun _ _ _ h => h) (Or.inl ⟨by kernel_rfl, ?_⟩) (by assumption) ?_
                        rotate_left
                        · (intro w hSw; (try dsimp only at hSw); go_simp; (try with_reducible rfl))
                        simp only [Act.put, List.getElem_toArray, List.getElem_cons_succ, List.getElem_cons_zero, List.setIfInBounds_toArray, List.set_cons_zero, List.set_cons_succ]
                        refine wpAnyH_take (i := 1) (v := ?_) rfl (by kernel_rfl) (by kernel_rfl) (by kernel_rfl) (fun _ _ _ h => h) (Or.inl ⟨by kernel_rfl, ?_⟩) (by assumption) ?_
                        rotate_left
                        · (intro w hSw; (try dsimp only at hSw); go_simp; (try with_reducible rfl))
                        simp only [Act.put, List.getElem_toArray, List.getElem_cons_succ, List.getElem_cons_zero, List.setIfInBounds_toArray, List.set_cons_zero, List.set_cons_succ]
                        refine wpAnyH_take (i := 2) (v := ?_) rfl (by kernel_rfl) (by kernel_rfl) (by kernel_rfl) (fun _ _ _ h => h) (Or.inl ⟨by kernel_rfl, ?_⟩) (by assumption) ?_
                        rotate_left
                        · (intro w hSw; (try dsimp only at hSw); go_simp; (try with_reducible rfl))
                        simp only [Act.put, List.getElem_toArray, List.getElem_cons_succ, List.getElem_cons_zero, List.setIfInBounds_toArray, List.set_cons_zero, List.set_cons_succ]
                        refine wpAnyH_take (i := 3) rfl (by kernel_rfl) (by kernel_rfl) (by kernel_rfl) (fun _ _ _ h => h) (yi_move (by kernel_rfl) rfl rfl) (by assumption) ?_
                        simp only [Act.put, List.getElem_toArray, List.getElem_cons_succ, List.getElem_cons_zero, List.setIfInBounds_toArray, List.set_cons_zero, List.set_cons_succ]
                        refine wpAnyH_take (i := 4) (v := ?_) rfl (by kernel_rfl) (by kernel_rfl) (by kernel_rfl) (fun _ _ _ h => h) (Or.inl ⟨by kernel_rfl, ?_⟩) (by assumption) ?_
                        rotate_left
                        · (intro w hSw; (try dsimp only at hSw); go_simp; (try with_reducible rfl))
                        simp only [Act.put, List.getElem_toArray, List.getElem_cons_succ, List.getElem_cons_zero, List.setIfInBounds_toArray, List.set_cons_zero, List.set_cons_succ]
                        refine wpAnyH_take (i := 5) (v := ?_) rfl (by kernel_rfl) (by kernel_rfl) (by kernel_rfl) (fun _ _ _ h => h) (Or.inl ⟨by kernel_rfl, ?_⟩) (by assumption) ?_
                        rotate_left
                        · (intro w hSw; (try dsimp only at hSw); go_simp; (try with_reducible rfl))
                        simp only [Act.put, List.getElem_toArray, List.getElem_cons_succ, List.getElem_cons_zero, List.setIfInBounds_toArray, List.set_cons_zero, List.set_cons_succ]
                        refine wpAnyH_take (i := 6) (v := ?_) rfl (by kernel_rfl) (by kernel_rfl) (by kernel_rfl) (fun _ _ _ h => h) (Or.inl ⟨by kernel_rfl, ?_⟩) (by assumption) ?_
                        rotate_left
                        · (intro w hSw; (try dsimp only at hSw); go_simp; (try with_reducible rfl))
                        simp only [Act.put, List.getElem_toArray, List.getElem_cons_succ, List.getElem_cons_zero, List.setIfInBounds_toArray, List.set_cons_zero, List.set_cons_succ]
                        refine wpAnyH_take (i := 7) (v := ?_) rfl (by kernel_rfl) (by kernel_rfl) (by kernel_rfl) (fun _ _ _ h => h) (Or.inl ⟨by kernel_rfl, ?_⟩) (by assumption) ?_
                        rotate_left
                        · (intro w hSw; (try dsimp only at hSw); go_simp; (try with_reducible rfl))
                        simp only [Act.put, List.getElem_toArray, List.getElem_cons_succ, List.getElem_cons_zero, List.setIfInBounds_toArray, List.set_cons_zero, List.set_cons_succ]
                        refine wpAnyH_ready (rs := [8]) (by kernel_rfl) (by simp) ?_
                        refine AllReadyH.cons (o := _) rfl (fun K hK => ?_) AllReadyH.nil
                        go_simp
                        go_at_call 17; refine (CNh.out _ ((Bl.refl Wn).drewN 1)).mono ?_; rintro e wm ⟨yb, yd, rfl, HTY, HB9⟩
                        refine hK.out _ _ (KP40.out _ HB9) (fun hHeld => ?_)
                        clear hK K
                        (try simp only [Act.put, List.getElem_toArray, List.getElem_cons_succ, List.getElem_cons_zero, List.setIfInBounds_toArray, List.set_cons_zero, List.set_cons_succ])
                        refine wpAnyH_take (i := 9) (v := .slice yb ND.length yd) rfl (by kernel_rfl) (by kernel_rfl) (by kernel_rfl) (fun _ _ _ h => h) (yi_assign (by kernel_rfl) rfl (by rfl)) (by assumption) ?_
                        simp only [Act.put, List.getElem_toArray, List.getElem_cons_succ, List.getElem_cons_zero, List.setIfInBounds_toArray, List.set_cons_zero, List.set_cons_succ]
                        refine wpAnyH_done (by kernel_rfl) ?_ _
                        refine NoPanic.normal ?_
                        have HTYH : Hid (TA.TS wm yb ND) := HTY
                        have HTXM : Hid (TA.TS wm xb ND) := TA.TS.below HTXH.out (HB9)
                        have HBM : Hid (Bl w13 wm) := HBT.out.step (HBN.out.step (HB9))
                        have hnn2 : ((ND.length : Int) != (ND.length : Int)) = false := by simp
                        clear HTY
                        generalize wm = Wm at *
                        go_wp2_with fail
                        go_loopw [20] (fun u20 wr => ∃ j : Nat, j ≤ ND.length ∧ u20 = .int .i64 j ∧ Bl Wm wr) (fun u20 _ => ND.length - (intOf u20).toNat)
                        case atStart => exact ⟨0, Nat.zero_le _, rfl, Bl.refl Wm⟩
                        case round =>
                          obtain ⟨j, hj1, rfl, hb⟩ := hrel
                          have HBJ : Hid (Bl Wm wr) := hb
                          clear hb
                          by_cases hlj : j < ND.length
                          · obtain ⟨s, hs⟩ : ∃ s, ND[j]? = some s := ⟨_, List.getElem?_eq_getElem hlj⟩
                            obtain ⟨b1', o1', rfl, _, hc1⟩ := (TA.TS.below HTXM.out HBJ.out) j s hs
                            obtain ⟨b2', o2', rfl, _, hc2⟩ := (TA.TS.below HTYH.out HBJ.out) j s hs
                            have hss : (!(M.bs s).toList == (M.bs s).toList) = false := by simp
                            clear hs
                            go_wp2_with fail
                            go_quiet (fail)
                            go_wp2_with fail
                            go_roundw
                            case rel => exact ⟨j + 1, by omega, by go_num, HBJ.out.drewN _⟩
                            case measure => simp [intOf]; omega
                          · obtain rfl : j = ND.length := by omega
                            go_wp2_with fail
                            go_roundw
                            case rel => exact ⟨i + 1, by omega, by go_num, HBM.out.step HBJ.out⟩
                            case measure => simp [intOf]; omega
                      · obtain rfl : i = g.2.length := by omega
                        go_wp2_with fail
                        go_ret
                        exact ⟨rfl, (HC.out _ (HB8.out.step (HB13.out.step HBT.out))).2.2.2⟩
          · have hq1 : ((TR.chk (gPlus g (z8, is, [])) : Int) != 0) = true := by rw [bne_iff_ne]; omega
            clear hcg hch
            generalize TR.chk (gPlus g (z8, is, [])) = ck at *
            go_wp2_with (first
              | (refine wl_appX rfl _ _ rfl W.heap.size (w3.heap.size + 1) [] [] (.slice (some ⟨w3.heap.size + 1, 0, none⟩) 0 0) rfl AO0.out g.2 ys ab aoff g.2.length ac rfl rfl (NEWS.out _ HWV.out) hyl (INSS.out _ HWV.out) n0 (by simp; omega) (fun a5 c5 w5 HA5 hg5 => ?_); have HB5 : Bl (w3.alloc BX) w5 := AO0.out.below ((Bl.refl _).alloc _) (by simp) hg5; have HA5 : AO W.heap.size (w3.heap.size + 1) w5 (.slice a5 g.2.length c5) g.2 ys := HA5; have HB5H : Hid (Bl (w3.alloc BX) w5) := HB5; have HF5 : Hid _ := FIN5.out _ _ _ HA5 ((HW3.out.alloc _).step HB5); clear AO0 FIN5 HA5 hg5 HB5)
              | (go_at_call 22; refine (action_x _ _ _ _ _).mono ?_; rintro e w' ⟨rfl, hw'⟩; rw [hw']; clear hw' w')
              | (refine wl_appX rfl _ _ rfl W.heap.size (w3.heap.size + 1) g.2 ys (.slice a5 g.2.length c5) rfl (HF5.out.1 _ _) [(z8, is, [])] [(ia, ic)] (w5.heap.size + 1) 0 1 1 rfl rfl (HF5.out.2.1 _) rfl (HF5.out.2.2 _ _) (by simp) (by simp; omega) (fun a6 c6 w6 HA6 hg6 => ?_); have HB6 : Bl (w3.alloc BX) w6 := AO.below (HF5.out.1 _ _) ((HB5H.out.alloc _).alloc _) (by simp) hg6; have HA6H : Hid _ := HA6; have HB6H : Hid (Bl (w3.alloc BX) w6) := HB6; have hbk6 := hhb.out _ HB6; have HK6 : Hid _ := hbk6; have k1 : w6.cell? ⟨w3.heap.size, 1, none⟩ = some (.slice (some ⟨ab, aoff, none⟩) g.2.length ac) := (by rw [Lib.cell_of_heap hbk6]; rfl); have k2 : w6.frozen? ⟨w3.heap.size, 1, none⟩ = false := (by simp [World.frozen?, hbk6]); have k3 : w3.heap.size < w6.heap.size := TA.lt_heap hbk6; have HB7 : Bl (W.alloc BX) (w6.setCell ⟨w3.heap.size, 1, none⟩ (.slice a6 (g.2.length + 1) c6)) := Below.setCell (HBX.out.step (HV3.out.step HB6)) hsz3 _; have HB7H : Hid (Bl (W.alloc BX) (w6.setCell ⟨w3.heap.size, 1, none⟩ (.slice a6 (g.2.length + 1) c6))) := HB7; have HGH : Hid (GA (w6.setCell ⟨w3.heap.size, 1, none⟩ (.slice a6 (g.2.length + 1) c6)).heap.size (w6.setCell ⟨w3.heap.size, 1, none⟩ (.slice a6 (g.2.length + 1) c6)) (gPlus g (z8, is, [])) sa sc a6 c6 ∧ (w6.setCell ⟨w3.heap.size, 1, none⟩ (.slice a6 (g.2.length + 1) c6)).heap[w3.heap.size]? = some (.cells #[.slice sa g.1.length sc, .slice a6 (g.2.length + 1) c6] 25 (0, 0))) := HMK.out _ _ _ HA6 hbk6 HB7; obtain ⟨f0, f1, f2, f3⟩ := HC.out _ HB7; clear HF5 HA6 hg6 HB6 hbk6 p1 p2 p3 HA6H HB6H HK6 HB7 f3)
              | (go_at_call 11; refine (CCg.out _ HB7H.out).mono ?_; clear CCg k1 k2 k3; rintro e w8 ⟨rfl, hb8⟩; have HB8 : Hid (Bl (W.alloc BX) w8) := HB7H.out.step hb8; have HGH8 : Hid (∀ U, Bl w8 U → GA U.heap.size U (gPlus g (z8, is, [])) sa sc a6 c6 ∧ U.cell? ⟨w3.heap.size, 0, none⟩ = some (.slice sa g.1.length sc) ∧ U.cell? ⟨w3.heap.size, 1, none⟩ = some (.slice a6 (g.2.length + 1) c6)) := HM8.out _ _ _ _ HGH.out hb8; clear f0 f1 f2; obtain ⟨f0, f1, f2, f3⟩ := HC.out _ HB8.out; obtain ⟨_, e0, e1⟩ := HGH8.out _ (Bl.refl w8); clear HGH HB7H hb8 f3)
              | (go_at_call 11; refine (CCh.out _ _ _ (HGH8.out _ (Bl.refl w8)).1).mono ?_; clear CCh f0 f1 f2 e0 e1; rintro e w9 ⟨rfl, hb9⟩; have HB9 : Hid (Bl w8 w9) := hb9; clear hb9; obtain ⟨f0, f1, f2, f3⟩ := HC.out _ (HB8.out.step HB9.out); obtain ⟨_, e0, e1⟩ := HGH8.out _ HB9.out))
            go_ret
            exact ⟨rfl, f3⟩
        · have hq1 : ((TR.chk g : Int) != 0) = true := by rw [bne_iff_ne]; omega
          clear hcg
          generalize TR.chk g = ck at *
          go_wp2_with (first
            | (refine wl_appX rfl _ _ rfl W.heap.size (w3.heap.size + 1) [] [] (.slice (some ⟨w3.heap.size + 1, 0, none⟩) 0 0) rfl AO0.out g.2 ys ab aoff g.2.length ac rfl rfl (NEWS.out _ HWV.out) hyl (INSS.out _ HWV.out) n0 (by simp; omega) (fun a5 c5 w5 HA5 hg5 => ?_); have HB5 : Bl (w3.alloc BX) w5 := AO0.out.below ((Bl.refl _).alloc _) (by simp) hg5; have HA5 : AO W.heap.size (w3.heap.size + 1) w5 (.slice a5 g.2.length c5) g.2 ys := HA5; have HB5H : Hid (Bl (w3.alloc BX) w5) := HB5; have HF5 : Hid _ := FIN5.out _ _ _ HA5 ((HW3.out.alloc _).step HB5); clear AO0 FIN5 HA5 hg5 HB5)
            | (go_at_call 22; refine (action_x _ _ _ _ _).mono ?_; rintro e w' ⟨rfl, hw'⟩; rw [hw']; clear hw' w')
            | (refine wl_appX rfl _ _ rfl W.heap.size (w3.heap.size + 1) g.2 ys (.slice a5 g.2.length c5) rfl (HF5.out.1 _ _) [(z8, is, [])] [(ia, ic)] (w5.heap.size + 1) 0 1 1 rfl rfl (HF5.out.2.1 _) rfl (HF5.out.2.2 _ _) (by simp) (by simp; omega) (fun a6 c6 w6 HA6 hg6 => ?_); have HB6 : Bl (w3.alloc BX) w6 := AO.below (HF5.out.1 _ _) ((HB5H.out.alloc _).alloc _) (by simp) hg6; have HA6H : Hid _ := HA6; have HB6H : Hid (Bl (w3.alloc BX) w6) := HB6; have hbk6 := hhb.out _ HB6; have HK6 : Hid _ := hbk6; have k1 : w6.cell? ⟨w3.heap.size, 1, none⟩ = some (.slice (some ⟨ab, aoff, none⟩) g.2.length ac) := (by rw [Lib.cell_of_heap hbk6]; rfl); have k2 : w6.frozen? ⟨w3.heap.size, 1, none⟩ = false := (by simp [World.frozen?, hbk6]); have k3 : w3.heap.size < w6.heap.size := TA.lt_heap hbk6; have HB7 : Bl (W.alloc BX) (w6.setCell ⟨w3.heap.size, 1, none⟩ (.slice a6 (g.2.length + 1) c6)) := Below.setCell (HBX.out.step (HV3.out.step HB6)) hsz3 _; have HB7H : Hid (Bl (W.alloc BX) (w6.setCell ⟨w3.heap.size, 1, none⟩ (.slice a6 (g.2.length + 1) c6))) := HB7; have HGH : Hid (GA (w6.setCell ⟨w3.heap.size, 1, none⟩ (.slice a6 (g.2.length + 1) c6)).heap.size (w6.setCell ⟨w3.heap.size, 1, none⟩ (.slice a6 (g.2.length + 1) c6)) (gPlus g (z8, is, [])) sa sc a6 c6 ∧ (w6.setCell ⟨w3.heap.size, 1, none⟩ (.slice a6 (g.2.length + 1) c6)).heap[w3.heap.size]? = some (.cells #[.slice sa g.1.length sc, .slice a6 (g.2.length + 1) c6] 25 (0, 0))) := HMK.out _ _ _ HA6 hbk6 HB7; obtain ⟨f0, f1, f2, f3⟩ := HC.out _ HB7; clear HF5 HA6 hg6 HB6 hbk6 p1 p2 p3 HA6H HB6H HK6 HB7 f3)
            | (go_at_call 11; refine (CCg.out _ HB7H.out).mono ?_; clear CCg k1 k2 k3; rintro e w8 ⟨rfl, hb8⟩; have HB8 : Hid (Bl (W.alloc BX) w8) := HB7H.out.step hb8; have HGH8 : Hid (∀ U, Bl w8 U → GA U.heap.size U (gPlus g (z8, is, [])) sa sc a6 c6 ∧ U.cell? ⟨w3.heap.size, 0, none⟩ = some (.slice sa g.1.length sc) ∧ U.cell? ⟨w3.heap.size, 1, none⟩ = some (.slice a6 (g.2.length + 1) c6)) := HM8.out _ _ _ _ HGH.out hb8; clear f0 f1 f2; obtain ⟨f0, f1, f2, f3⟩ := HC.out _ HB8.out; obtain ⟨_, e0, e1⟩ := HGH8.out _ (Bl.refl w8); clear HGH HB7H hb8 f3))
          go_ret
          exact ⟨rfl, (HC.out _ HB8.out).2.2.2⟩
  · have hq : greatB g xs = true ∨ (greatB g xs = false ∧ (20 < is.length ∨ (¬ 20 < is.length ∧ g.2.length = 0))) := by
      cases h : greatB g xs with
      | true => exact Or.inl rfl
      | false =>
        refine Or.inr ⟨rfl, ?_⟩
        by_cases h2 : 20 < is.length
        · exact Or.inl h2
        · refine Or.inr ⟨h2, ?_⟩
          refine Classical.byContradiction fun h3 => hgo ⟨h, by omega, by omega⟩
    clear hg hk hgo hiv hil hx hxn hxl
    unfold gv at CG ⊢
    rcases hq with hgr | ⟨hgr, h20 | ⟨h20, h0⟩⟩
    · rw [hgr] at CG
      clear hgr
      go_enter Try.func8, Try.ntmps8
      go_wp2_with (first
        | (go_at_call 9; refine CA.out.mono ?_; clear CA; rintro e w1 ⟨rfl, HB1⟩; obtain ⟨p1, p2, p3, p4⟩ := HC.out _ HB1)
        | (go_at_call 10; refine (CG.out _ HB1).mono ?_; clear CG p1 p2 p3 p4 HB1; rintro e w3 ⟨rfl, HB3⟩; obtain ⟨p1, p2, p3, p4⟩ := HC.out _ HB3))
      go_ret
      exact ⟨rfl, p4⟩
    · rw [hgr] at CG
      have b2 := (great_not hgr).2.1
      have hd20 : decide ((20 : Int) < (is.length : Int)) = true := by simp; omega
      clear hgr
      go_enter Try.func8, Try.ntmps8
      go_wp2_with (first
        | (go_at_call 9; refine CA.out.mono ?_; clear CA; rintro e w1 ⟨rfl, HB1⟩; obtain ⟨p1, p2, p3, p4⟩ := HC.out _ HB1)
        | (go_at_call 10; refine (CG.out _ HB1).mono ?_; clear CG p1 p2 p3 p4 HB1; rintro e w3 ⟨rfl, HB3⟩; obtain ⟨p1, p2, p3, p4⟩ := HC.out _ HB3))
      go_ret
      exact ⟨rfl, p4⟩
    · rw [hgr] at CG
      have hd20 : decide ((20 : Int) < (is.length : Int)) = false := by simp; omega
      have hne : ((g.2.length : Int) == 0) = true := by rw [h0]; rfl
      clear hgr h0
      go_enter Try.func8, Try.ntmps8
      go_wp2_with (first
        | (go_at_call 9; refine CA.out.mono ?_; clear CA; rintro e w1 ⟨rfl, HB1⟩; obtain ⟨p1, p2, p3, p4⟩ := HC.out _ HB1)
        | (go_at_call 10; refine (CG.out _ HB1).mono ?_; clear CG p1 p2 p3 p4 HB1; rintro e w3 ⟨rfl, HB3⟩; obtain ⟨p1, p2, p3, p4⟩ := HC.out _ HB3))
      go_ret
      exact ⟨rfl, p4⟩
end Go.Proofs.Ythpdmeoljdmncaa
