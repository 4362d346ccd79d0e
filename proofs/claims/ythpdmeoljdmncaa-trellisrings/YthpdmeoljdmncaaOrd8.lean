/- TrellisOrders, walked. -/
import Derived.Test.YthpdmeoljdmncaaGre8
import Derived.Test.YthpdmeoljdmncaaAw8
import Derived.Test.YthpdmeoljdmncaaTM3
namespace Go.Proofs.Ythpdmeoljdmncaa
open Go.RowKit
set_option linter.unusedVariables false
set_option linter.unusedSimpArgs false

theorem box_cells {W : World} {g : RC.Gr} {sa aa : Option Addr} {sc ac : Nat} {T : TypeId} {U : World} (h : Bl (W.alloc (.cells #[.slice sa g.1.length sc, .slice aa g.2.length ac] T)) U) : U.cell? ⟨W.heap.size, 0, none⟩ = some (.slice sa g.1.length sc) ∧ U.cell? ⟨W.heap.size, 1, none⟩ = some (.slice aa g.2.length ac) ∧ W.heap.size < U.heap.size ∧ Bl W U := by
  have hz : W.heap.size < (W.alloc (.cells #[.slice sa g.1.length sc, .slice aa g.2.length ac] T)).heap.size := by simp
  refine ⟨?_, ?_, Nat.lt_of_lt_of_le hz (Below.size h), ((Bl.refl W).alloc _).step h⟩
  · rw [h.cell hz, Lib.cell_of_heap (heap_alloc_new W _)]; rfl
  · rw [h.cell hz, Lib.cell_of_heap (heap_alloc_new W _)]; rfl
theorem strs_nil (W : World) : Strs W.heap.size W (.slice none ([] : List (List UInt8)).length 0) [] := Or.inl ⟨rfl, none, 0, rfl⟩

set_option maxRecDepth 8000 in
set_option maxHeartbeats 8000000 in
theorem trellisOrders_walk (W : World) (g : RC.Gr) (sa : Option Addr) (sc : Nat) (aa : Option Addr) (ac : Nat) (hg : GA W.heap.size W g sa sc aa ac) (hk : grOk g) :
    Calls Try.prog 4 #[.agg (gv g sa sc aa ac)] W fun e w' => e = .returned (.bool true) ∧ Bl W w' := by
  let BX : Obj := .cells #[.slice sa g.1.length sc, .slice aa g.2.length ac] 25
  have CA : Hid (Calls Try.prog 9 #[] (W.alloc BX) fun e w' => e = .returned (.bool true) ∧ Bl (W.alloc BX) w') := awake_8 (Bl.refl _)
  have CG : Hid (∀ U, Bl (W.alloc BX) U → Calls Try.prog 10 #[.agg (gv g sa sc aa ac), .slice none 0 0] U fun e w' => e = .returned (.bool (greatB g [])) ∧ Bl (W.alloc BX) w') := fun U hU =>
    great_x g sa sc aa ac hU (hg.bl (((Bl.refl W).alloc _).step hU)) hk [] none 0 (strs_nil U) (by simp) (by simp)
  have HC : Hid (∀ U, Bl (W.alloc BX) U → U.cell? ⟨W.heap.size, 0, none⟩ = some (.slice sa g.1.length sc) ∧ U.cell? ⟨W.heap.size, 1, none⟩ = some (.slice aa g.2.length ac) ∧ W.heap.size < U.heap.size ∧ Bl W U) := fun U hU => box_cells hU
  cases hgr : greatB g [] with
  | true =>
    rw [hgr] at CG
    clear hg hk hgr
    unfold gv at CG ⊢
    go_enter Try.func4, Try.ntmps4
    go_wp2_with (first
      | (go_at_call 9; refine CA.out.mono ?_; clear CA; rintro e w1 ⟨rfl, HB1⟩; obtain ⟨p1, p2, p3, p4⟩ := HC.out _ HB1)
      | (go_at_call 10; refine (CG.out _ HB1).mono ?_; clear CG; rintro e w2 ⟨rfl, HB2⟩))
    go_ret
    exact ⟨rfl, (HC.out _ HB2).2.2.2⟩
  | false =>
  rw [hgr] at CG
  obtain ⟨b1, b2, _, _, _, _⟩ := great_not hgr
  have CO : Hid (∀ U, Bl (W.alloc BX) U → Calls Try.prog 14 #[.agg (gv g sa sc aa ac)] U fun e w' => ∃ a c, e = .returned (.slice a (ordL g).length c) ∧ IA w' a (ordL g) ∧ Bl (W.alloc BX) w') := fun U hU =>
    Order_x g sa sc aa ac hU (hg.bl (((Bl.refl W).alloc _).step hU)) hk
  have CC : Hid (∀ U V, Bl (W.alloc BX) V → Bl V U → Calls Try.prog 11 #[.agg (gv g sa sc aa ac)] U fun e w' => e = .returned (.int .i64 (TR.chk g : Int)) ∧ Bl V w') := fun U V hV hU =>
    Check_x g sa sc aa ac hU (hg.bl (((Bl.refl W).alloc _).step (hV.step hU))) hk
  by_cases hck : TR.chk g = 0
  · have hG := TR.chk_zero.1 hck
    have hord : ordL g = (TR.fin g).order := by unfold ordL; rw [if_pos hck]
    have hlen := hG.len
    have hle := hG.le
    rw [hord, hlen] at CO
    rw [hck] at CC
    have HGD : Hid (TR.Good g) := hG
    have HGA : Hid (∀ U, Bl (W.alloc BX) U → GA U.heap.size U g sa sc aa ac) := fun U hU => hg.bl (((Bl.refl W).alloc _).step hU)
    have HGK : Hid (grOk g) := hk
    obtain ⟨fs, hum⟩ := undAc
    have hq0 : ((g.2.length : Int) != (g.2.length : Int)) = false := by simp
    clear hg hk hgr hG hord hck
    unfold gv at CG CO CC ⊢
    go_enter Try.func4, Try.ntmps4
    go_wp2_with (first
      | (go_at_call 9; refine CA.out.mono ?_; clear CA; rintro e w1 ⟨rfl, HB1⟩; obtain ⟨p1, p2, p3, p4⟩ := HC.out _ HB1)
      | (go_at_call 10; refine (CG.out _ HB1).mono ?_; clear CG p1 p2 p3 p4 HB1; rintro e w2 ⟨rfl, HB2⟩; obtain ⟨p1, p2, p3, p4⟩ := HC.out _ HB2)
      | (go_at_call 14; refine (CO.out _ HB2).mono ?_; clear CO p1 p2 p3 p4 HB2; rintro e w3 ⟨la, lc, rfl, HI3, HB3⟩; obtain ⟨p1, p2, p3, p4⟩ := HC.out _ HB3)
      | (go_at_call 11; refine (CC.out _ _ HB3 (Bl.refl _)).mono ?_; clear CC p1 p2 p3 p4; rintro e w4 ⟨rfl, HB34⟩; have HB4 := HB3.step HB34; have HI4 := HI3.bl HB34; have HII : Hid _ := HI4; clear HI3 HI4 HB34 HB3; obtain ⟨p1, p2, p3, p4⟩ := HC.out _ HB4; have HTS : Hid (TA.TS (w4.alloc (.cells #[] 9)) sa g.1) := TA.ts_of ((HGA.out _ HB4).s.bl ((Bl.refl w4).alloc _)); have HO0 : Hid ((w4.alloc (.cells #[] 9)).ownsRow w4.heap.size 9 1 (.slice (some ⟨w4.heap.size, 0, none⟩) 0 0) ([] : List (List UInt8)).length (([] : List (List UInt8)).map encS)) := TA.own_new w4 [] (by unfold maxLen; simp))
      | (refine TA.wl_app rfl _ _ rfl w4.heap.size [] (.slice (some ⟨w4.heap.size, 0, none⟩) 0 0) rfl HO0.out sa g.1 g.1.length sc rfl rfl HTS.out (by simp) (by simp; omega) (fun v5 w5 ho5 hg5 => ?_); have HB5 : Bl w4 w5 := Below.grown ((Bl.refl w4).alloc _) hg5 (by simp) (fun k hk => (TA.owns_ge HO0.out hk).1); have HO5 : Hid (w5.ownsRow w4.heap.size 9 1 v5 (TR.dn g 0).length ((TR.dn g 0).map encS)) := (by rw [TR.dn_zero]; exact ho5); clear HO0 HTS ho5 hg5 p1 p2))
    have HBX : Hid (Bl (W.alloc BX) w4) := HB4
    have HB50 : Hid (Bl w4 w5) := HB5
    clear HB4 HB5 p3 p4
    go_loopw [4, 5, 6, 7] (fun u4 u5 u6 u7 wr => ∃ i : Nat, i ≤ g.2.length ∧ u5 = .int .i64 i ∧ wr.ownsRow w4.heap.size 9 1 u4 (TR.dn g i).length ((TR.dn g i).map encS) ∧ Bl w4 wr) (fun _ u5 _ _ _ => g.2.length - (intOf u5).toNat)
    case atStart => exact ⟨0, Nat.zero_le _, rfl, HO5.out, HB50.out⟩
    case round =>
      obtain ⟨i, hi0, rfl, ho, hb⟩ := hrel
      have HO : Hid (wr.ownsRow w4.heap.size 9 1 u4 (TR.dn g i).length ((TR.dn g i).map encS)) := ho
      have HB : Hid (Bl w4 wr) := hb
      obtain ⟨p1, p2, p3, p4⟩ := HC.out _ (HBX.out.step hb)
      clear ho hb HO5 HB50
      by_cases hlt : i < g.2.length
      · obtain ⟨p, hp⟩ : ∃ p, (TR.fin g).order[i]? = some p := ⟨_, List.getElem?_eq_getElem (by omega)⟩
        have hpl : p < g.2.length := HGD.out.inv.lt p (List.mem_of_getElem? hp)
        obtain ⟨t, ht⟩ : ∃ t, g.2[p]? = some t := ⟨g.2[p], List.getElem?_eq_getElem hpl⟩
        obtain ⟨lb, loff, rfl, hlb, hlc⟩ := IA.bl HII.out HB.out i p hp
        obtain ⟨ab, aoff, x, c, rfl, hab, hr, hs⟩ := (HGA.out _ (HBX.out.step HB.out)).a p t ht
        have HIN : Hid (∀ s ∈ t.2.1, s ∈ TR.dn g i) := TR.dn_ins HGD.out hp ht
        have HNT : Hid (t.1 ∉ TR.dn g i) := TR.dn_not HGD.out hp ht
        have HSU : Hid (TR.dn g (i + 1) = TR.dn g i ++ [t.1]) := TR.dn_succ hp ht
        have hil := (HGK.out.b t (List.mem_of_getElem? ht)).2.1
        have hdl : (TR.dn g i).length ≤ 20 := by
          unfold TR.dn; simp; omega
        have hi := infoAc t x c
        have hr2 := hr
        have HS : Hid (∀ U, Bl wr U → SA U x t.2.1) := fun U hU => (Strs.sa (hs.bl hU)).2
        obtain ⟨n, ins, code⟩ := t
        unfold acL at hi hr2
        simp only [] at hi hr2 HIN HNT HSU hil HS
        have HRR : Hid (wr.rangeAt ab (aoff + p * 3) [.string (M.bs n), .slice x ins.length c, .string (M.bs code)]) := hr2
        have hn0 : decide ((p : Int) < 0) = false := by simp
        have hn1 : decide ((g.2.length : Int) ≤ (p : Int)) = false := by simp; omega
        have hp12 : (p : Int) < (g.2.length : Int) := by omega
        clear hp ht hr hs hr2
        unfold maxLen at hil
        go_wp2_with fail
        go_quiet (fail)
        go_wp2_with fail
        have HBV : Hid (Bl wr (wr.drewN nq)) := (Bl.refl wr).drewN nq
        have KP : Hid (∀ U, Bl (wr.drewN nq) U → U.cell? ⟨W.heap.size, 1, none⟩ = some (.slice (some ⟨ab, aoff, none⟩) g.2.length ac) ∧ U.cell? ⟨lb, loff + i, none⟩ = some (.int .i64 (p : Int)) ∧ U.rangeAt ab (aoff + p * 3) [.string (M.bs n), .slice x ins.length c, .string (M.bs code)]) := fun U hU => by
          have hB := HBV.out.step hU
          refine ⟨by rw [Bl.cell hB p3]; exact p2, by rw [Bl.cell hB hlb]; exact hlc, fun j v hv => ?_⟩
          rw [Bl.cell hB hab]; exact HRR.out j v hv
        generalize wr.drewN nq = V at *
        refine wp_region_noPanic ?_
        refine wp_region_held_drew (S := fun U => U.cell? ⟨W.heap.size, 1, none⟩ = some (.slice (some ⟨ab, aoff, none⟩) g.2.length ac) ∧ U.cell? ⟨lb, loff + i, none⟩ = some (.int .i64 (p : Int)) ∧ U.rangeAt ab (aoff + p * 3) [.string (M.bs n), .slice x ins.length c, .string (M.bs code)]) (by kernel_rfl) (KP.out _ ((Bl.refl V).drewN 1)) (fun hHeld => ?_)
        refine wpAnyH_take (i := 0) (v := ?_) rfl (by kernel_rfl) (by kernel_rfl) (by kernel_rfl) (fun _ _ _ h => h) (Or.inl ⟨by kernel_rfl, ?_⟩) (by assumption) ?_
        rotate_left
        · (intro w hSw; (try dsimp only at hSw); go_simp; (try with_reducible rfl))
        simp only [Act.put, List.getElem_toArray, List.getElem_cons_succ, List.getElem_cons_zero, List.setIfInBounds_toArray, List.set_cons_zero, List.set_cons_succ]
        refine wpAnyH_take (i := 1) (v := ?_) rfl (by kernel_rfl) (by kernel_rfl) (by kernel_rfl) (fun _ _ _ h => h) (Or.inl ⟨by kernel_rfl, ?_⟩) (by assumption) ?_
        rotate_left
        · (intro w hSw; (try dsimp only at hSw); go_simp; (try with_reducible rfl))
        simp only [Act.put, List.getElem_toArray, List.getElem_cons_succ, List.getElem_cons_zero, List.setIfInBounds_toArray, List.set_cons_zero, List.set_cons_succ]
        refine wpAnyH_take (i := 2) rfl (by kernel_rfl) (by kernel_rfl) (by kernel_rfl) (fun _ _ _ h => h) (yi_move (by kernel_rfl) rfl rfl) (by assumption) ?_
        simp only [Act.put, List.getElem_toArray, List.getElem_cons_succ, List.getElem_cons_zero, List.setIfInBounds_toArray, List.set_cons_zero, List.set_cons_succ]
        refine wpAnyH_take (i := 3) rfl (by kernel_rfl) (by kernel_rfl) (by kernel_rfl) (fun _ _ _ h => h) (yi_move (by kernel_rfl) rfl rfl) (by assumption) ?_
        simp only [Act.put, List.getElem_toArray, List.getElem_cons_succ, List.getElem_cons_zero, List.setIfInBounds_toArray, List.set_cons_zero, List.set_cons_succ]
        refine wpAnyH_take (i := 4) (v := ?_) rfl (by kernel_rfl) (by kernel_rfl) (by kernel_rfl) (fun _ _ _ h => h) (Or.inl ⟨by kernel_rfl, ?_⟩) (by assumption) ?_
        rotate_left
        · (intro w hSw; (try dsimp only at hSw); go_simp; (try with_reducible rfl))
        simp only [Act.put, List.getElem_toArray, List.getElem_cons_succ, List.getElem_cons_zero, List.setIfInBounds_toArray, List.set_cons_zero, List.set_cons_succ]
        refine wpAnyH_take (i := 5) (v := ?_) rfl (by kernel_rfl) (by kernel_rfl) (by kernel_rfl) (fun _ _ _ h => h) (Or.inl ⟨by kernel_rfl, ?_⟩) (by assumption) ?_
        rotate_left
        · (intro w hSw; (try dsimp only at hSw); go_simp; (try with_reducible rfl))
        simp only [Act.put, List.getElem_toArray, List.getElem_cons_succ, List.getElem_cons_zero, List.setIfInBounds_toArray, List.set_cons_zero, List.set_cons_succ]
        refine wpAnyH_take (i := 6) (v := ?_) rfl (by kernel_rfl) (by kernel_rfl) (by kernel_rfl) (fun _ _ _ h => h) (Or.inl ⟨by kernel_rfl, ?_⟩) (by assumption) ?_
        rotate_left
        · (intro w hSw; (try dsimp only at hSw); go_simp; (try with_reducible rfl))
        simp only [Act.put, List.getElem_toArray, List.getElem_cons_succ, List.getElem_cons_zero, List.setIfInBounds_toArray, List.set_cons_zero, List.set_cons_succ]
        refine wpAnyH_take (i := 7) (v := .agg (List.toArray [.string (M.bs n), .slice x ins.length c, .string (M.bs code)])) rfl (by kernel_rfl) (by kernel_rfl) (by kernel_rfl) (fun _ _ _ h => h) (yieldsIf_load_mid (by kernel_rfl) _ (.tmp 57) (by kernel_rfl) ab (aoff + p * 3) (by kernel_rfl) [.string (M.bs n), .slice x ins.length c, .string (M.bs code)] _ (fun W hW => hW.2.2) hum rfl hi) (by assumption) ?_
        simp only [Act.put, List.getElem_toArray, List.getElem_cons_succ, List.getElem_cons_zero, List.setIfInBounds_toArray, List.set_cons_zero, List.set_cons_succ]
        refine wpAnyH_ready (rs := [8]) (by kernel_rfl) (by simp) ?_
        refine AllReadyH.cons (o := _) rfl (fun K hK => ?_) AllReadyH.nil
        go_simp
        refine hK.out _ _ (KP.out _ (((Bl.refl V).drewN 1).alloc _)) (fun hHeld => ?_)
        clear hK K
        (try simp only [Act.put, List.getElem_toArray, List.getElem_cons_succ, List.getElem_cons_zero, List.setIfInBounds_toArray, List.set_cons_zero, List.set_cons_succ])
        refine wpAnyH_ready (rs := [9]) (by kernel_rfl) (by simp) ?_
        refine AllReadyH.cons (o := _) rfl (fun K hK => ?_) AllReadyH.nil
        go_simp
        refine hK.out _ _ (KP.out _ (((Bl.refl V).drewN 1).alloc _)) (fun hHeld => ?_)
        clear hK K
        (try simp only [Act.put, List.getElem_toArray, List.getElem_cons_succ, List.getElem_cons_zero, List.setIfInBounds_toArray, List.set_cons_zero, List.set_cons_succ])
        refine wpAnyH_done (by kernel_rfl) ?_ _
        refine NoPanic.normal ?_
        have c0 : ((V.alloc (.cells #[.string (M.bs n), .slice x ins.length c, .string (M.bs code)] 41)).drew).cell? ⟨V.heap.size, 0, none⟩ = some (.string (M.bs n)) := by
          show (V.alloc _).cell? _ = _
          rw [Lib.cell_of_heap (heap_alloc_new V _)]; rfl
        have c1 : ((V.alloc (.cells #[.string (M.bs n), .slice x ins.length c, .string (M.bs code)] 41)).drew).cell? ⟨V.heap.size, 1, none⟩ = some (.slice x ins.length c) := by
          show (V.alloc _).cell? _ = _
          rw [Lib.cell_of_heap (heap_alloc_new V _)]; rfl
        have HBU : Hid (Bl wr ((V.alloc (.cells #[.string (M.bs n), .slice x ins.length c, .string (M.bs code)] 41)).drew)) := (HBV.out.alloc _).drewN 1
        generalize (V.alloc (.cells #[.string (M.bs n), .slice x ins.length c, .string (M.bs code)] 41)).drew = U at *
        generalize V.heap.size = ub at *
        clear KP HBV HRR
        obtain ⟨da, dc, rfl⟩ := own_shape HO.out
        have HDA : Hid (SA U da (TR.dn g i)) := by
          obtain ⟨a', c', e, _, hs⟩ := Strs.ofOwns (ownsRow_belowT HO.out HBU.out)
          simp only [Value.slice.injEq] at e
          rw [e.1]; exact (Strs.sa hs).2
        have CI0 : Hid (Calls Try.prog 21 #[.slice da (TR.dn g i).length dc, .string (M.bs n)] U fun e w' => e = .returned (.bool false) ∧ w' = U) := by
          have := in_at (TR.dn g i) da dc n U HDA.out (by unfold maxLen; omega)
          rw [decide_eq_false HNT.out] at this; exact this
        have CI1 : Hid (∀ s ∈ ins, Calls Try.prog 21 #[.slice da (TR.dn g i).length dc, .string (M.bs s)] U fun e w' => e = .returned (.bool true) ∧ w' = U) := fun s hs => by
          have := in_at (TR.dn g i) da dc s U HDA.out (by unfold maxLen; omega)
          rw [decide_eq_true (HIN.out s hs)] at this; exact this
        have HSX : Hid (SA U x ins) := HS.out _ HBU.out
        have OWN : Hid ((U.alloc (.cells #[.string (M.bs n)] 9)).ownsRow w4.heap.size 9 1 (.slice da (TR.dn g i).length dc) (TR.dn g i).length ((TR.dn g i).map encS)) := ownsRow_belowT HO.out (HBU.out.alloc _)
        have NEW : Hid (TA.TS (U.alloc (.cells #[.string (M.bs n)] 9)) (some ⟨U.heap.size, 0, none⟩) [n]) := by
          show TA.TS _ _ _
          have := TA.ts_new U [n] 9
          simpa [encS] using this
        have hsz : w4.heap.size ≤ (U.alloc (.cells #[.string (M.bs n)] 9)).heap.size := by
          have := Below.size (HB.out.step HBU.out)
          simp; omega
        have FIN : Hid (∀ v' w8, w8.ownsRow w4.heap.size 9 1 v' (TR.dn g i ++ [n]).length ((TR.dn g i ++ [n]).map encS) → (U.alloc (.cells #[.string (M.bs n)] 9)).grownBy w8 (Value.slice da (TR.dn g i).length dc).ownBlock → w8.ownsRow w4.heap.size 9 1 v' (TR.dn g (i + 1)).length ((TR.dn g (i + 1)).map encS) ∧ Bl w4 w8) := fun v' w8 h3 h4 => by
          rw [HSU.out]
          exact ⟨h3, Below.grown ((HB.out.step HBU.out).alloc _) h4 hsz (fun q hq => (TA.owns_ge HO.out hq).1)⟩
        clear HO HBU HDA HSU HNT HIN HS
        generalize TR.dn g i = DN at *
        go_wp2_with (go_at_call 21; refine CI0.out.mono ?_; clear CI0; rintro e w' ⟨rfl, hw'⟩; rw [hw']; clear hw' w')
        go_loop [7] (fun u7 => ∃ j : Nat, j ≤ ins.length ∧ u7 = .int .i64 j) (fun u7 => ins.length - (intOf u7).toNat)
        case atStart => exact ⟨0, Nat.zero_le _, rfl⟩
        case round =>
          obtain ⟨j, hj, rfl⟩ := hrel
          by_cases hlj : j < ins.length
          · obtain ⟨s, hs⟩ : ∃ s, ins[j]? = some s := ⟨ins[j], List.getElem?_eq_getElem hlj⟩
            obtain ⟨b2, off2, rfl, hcell⟩ := HSX.out j s hs
            have CI2 : Hid (Calls Try.prog 21 #[.slice da DN.length dc, .string (M.bs s)] U fun e w' => e = .returned (.bool true) ∧ w' = U) := CI1.out s (List.mem_of_getElem? hs)
            clear hs
            go_wp2_with (go_at_call 21; refine CI2.out.mono ?_; clear CI2; rintro e w' ⟨rfl, hw'⟩; rw [hw']; clear hw' w')
            go_round
            case rel => exact ⟨j + 1, by omega, by go_num⟩
            case measure => simp [intOf]; omega
          · obtain rfl : j = ins.length := by omega
            go_wp2_with (refine TA.wl_app rfl _ _ rfl w4.heap.size DN (.slice da DN.length dc) rfl OWN.out (some ⟨U.heap.size, 0, none⟩) [n] 1 1 rfl rfl NEW.out hsz (by simp; omega) (fun v' w8 ho8 hg8 => ?_); obtain ⟨HO8, HB8⟩ := FIN.out _ _ ho8 hg8; clear FIN OWN NEW ho8 hg8)
            go_roundw
            case rel => exact ⟨i + 1, by omega, by go_num, HO8, HB8⟩
            case measure => simp [intOf]; omega
      · obtain rfl : i = g.2.length := by omega
        go_wp2_with fail
        go_ret
        exact ⟨rfl, (HC.out _ (HBX.out.step HB.out)).2.2.2⟩
  · have hord : ordL g = [] := by unfold ordL; rw [if_neg hck]
    rw [hord] at CO
    have hq1 : ((TR.chk g : Int) != 0) = true := by rw [bne_iff_ne]; omega
    clear hg hk hgr hord hck
    generalize TR.chk g = ck at *
    unfold gv at CG CO CC ⊢
    go_enter Try.func4, Try.ntmps4
    go_wp2_with (first
      | (go_at_call 9; refine CA.out.mono ?_; clear CA; rintro e w1 ⟨rfl, HB1⟩; obtain ⟨p1, p2, p3, p4⟩ := HC.out _ HB1)
      | (go_at_call 10; refine (CG.out _ HB1).mono ?_; clear CG p1 p2 p3 p4 HB1; rintro e w2 ⟨rfl, HB2⟩; obtain ⟨p1, p2, p3, p4⟩ := HC.out _ HB2)
      | (go_at_call 14; refine (CO.out _ HB2).mono ?_; clear CO p1 p2 p3 p4 HB2; rintro e w3 ⟨la, lc, rfl, HI3, HB3⟩; obtain ⟨p1, p2, p3, p4⟩ := HC.out _ HB3)
      | (go_at_call 11; refine (CC.out _ _ HB3 (Bl.refl _)).mono ?_; clear CC p1 p2 p3 p4; rintro e w4 ⟨rfl, HB34⟩; have HB4 := HB3.step HB34; clear HI3 HB34 HB3))
    go_ret
    exact ⟨rfl, (HC.out _ HB4).2.2.2⟩
end Go.Proofs.Ythpdmeoljdmncaa
