/- The texts Y8e Y8f as one. -/
import Derived.Test.YthpdmeoljdmncaaYB
/- The reference's needs, Needs. -/
namespace Go.Proofs.Ythpdmeoljdmncaa
open Go.RowKit
set_option linter.unusedVariables false
set_option linter.unusedSimpArgs false

theorem plcI_some {g : RC.Gr} {s : List UInt8} {j : Nat} (h : plc g s = some j) : plcI g s = (j : Int) := by unfold plcI; rw [h]
theorem plcI_none {g : RC.Gr} {s : List UInt8} (h : plc g s = none) : plcI g s = -1 := by unfold plcI; rw [h]
theorem cl1_some {g : RC.Gr} {s : List UInt8} {j : Nat} {t : RC.Ac} (o : List (List UInt8)) (h : plc g s = some j) (ht : g.2[j]? = some t) : cl1 g o s = insA o t.2.1 := by unfold cl1; rw [h]; simp only []; rw [TR.insO_of ht]
theorem cl1_none {g : RC.Gr} {s : List UInt8} (o : List (List UInt8)) (h : plc g s = none) : cl1 g o s = o := by unfold cl1; rw [h]
theorem ts_nil (W : World) (a : Option Addr) : TA.TS W a [] := fun i t ht => by simp at ht

set_option maxRecDepth 8000 in
set_option maxHeartbeats 8000000 in
theorem rneeds_x (g : RC.Gr) (sa : Option Addr) (sc : Nat) (aa : Option Addr) (ac : Nat) (p : Nat) {w W : World} (HB : Bl w W) (hg : GA W.heap.size W g sa sc aa ac) (hk : grOk g) (hG : TR.Good g) (hp : p < g.2.length) :
    Calls Try.prog 32 #[.agg (gv g sa sc aa ac), .int .i64 (p : Int)] W fun e w' => ∃ a c, e = .returned (.slice a (rn g p g.2.length).length c) ∧ TA.TS w' a (rn g p g.2.length) ∧ Bl w w' := by
  obtain ⟨V, hV⟩ : ∃ V, V = W.alloc (.cells #[.slice sa g.1.length sc, .slice aa g.2.length ac] 25) := ⟨_, rfl⟩
  have HBV : Hid (Bl w V) := by rw [hV]; exact HB.alloc _
  have HC : Hid (∀ U, Bl V U → U.cell? ⟨W.heap.size, 0, none⟩ = some (.slice sa g.1.length sc) ∧ U.cell? ⟨W.heap.size, 1, none⟩ = some (.slice aa g.2.length ac) ∧ W.heap.size < U.heap.size) := fun U hU => by
    rw [hV] at hU
    obtain ⟨h1, h2, h3, _⟩ := rbox_cells hU
    exact ⟨h1, h2, h3⟩
  have HG : Hid (GA V.heap.size V g sa sc aa ac) := by rw [hV]; exact hg.bl ((Bl.refl W).alloc _)
  have HK : Hid (grOk g) := hk
  have CA : Hid (∀ X U s, Bl V X → Bl X U → Calls Try.prog 31 #[.agg (gv g sa sc aa ac), .string (M.bs s)] U fun e w' => e = .returned (.int .i64 (plcI g s)) ∧ Bl X w') := fun X U s hX hU => rAt_x g sa sc aa ac s hU (HG.out.bl (hX.step hU)) HK.out
  have HNC : Hid (∀ r, Nice g (rn g p r)) := fun r => rn_nice hG.ms p r
  have HIN : Hid (∀ j, ∀ s ∈ TR.insO g j, s ∈ TR.nm g) := fun j => insO_nm hG.ms j
  have HMS : Hid (TR.miss g = false) := hG.ms
  obtain ⟨h8, h12⟩ := hG.le
  obtain ⟨t, ht⟩ : ∃ t, g.2[p]? = some t := ⟨g.2[p], List.getElem?_eq_getElem hp⟩
  have HI0 : Hid (rn g p 0 = insA [] t.2.1) := by
    show _ = _
    unfold rn; rw [TR.insO_of ht]
  have HI1 : Hid (∀ s ∈ t.2.1, s ∈ TR.nm g) := by
    have := HIN.out p
    rw [TR.insO_of ht] at this
    exact this
  obtain ⟨ab, aoff, x, c, rfl, hcs⟩ := acts_cells (U := V) HG.out.a ht
  have hil := (hk.b t (List.mem_of_getElem? ht)).2.1
  unfold maxLen at hil
  obtain ⟨tn, ins, code⟩ := t
  simp only [] at hil hcs HI0 HI1
  have HCS : Hid (∀ U, Bl V U → U.cell? ⟨ab, aoff + p * 3 + 1, none⟩ = some (.slice x ins.length c) ∧ TA.TS U x ins) := fun U hU => (hcs U hU).2
  have hn0 : decide ((p : Int) < 0) = false := by simp
  have hn1 : decide ((g.2.length : Int) ≤ (p : Int)) = false := by simp; omega
  have hp12 : (p : Int) < (g.2.length : Int) := by omega
  have HB0 : Hid (Bl V (V.alloc (.cells #[] 9))) := (Bl.refl V).alloc _
  have HVV : Hid (V = W.alloc (.cells #[.slice sa g.1.length sc, .slice (some ⟨ab, aoff, none⟩) g.2.length ac] 25)) := hV
  clear hg hk HB hG hV ht hcs
  unfold gv at CA ⊢
  go_enter Try.func32, Try.ntmps32
  go_wp2_with fail
  rw [← HVV.out]
  clear HVV
  generalize hbx : W.heap.size = bx at *
  clear hbx
  go_loopw [5, 6] (fun u5 u6 wr => ∃ (k : Nat) (oa : Option Addr) (oc : Nat), k ≤ ins.length ∧ u6 = .int .i64 k ∧ u5 = .slice oa (insA [] (ins.take k)).length oc ∧ TA.TS wr oa (insA [] (ins.take k)) ∧ Bl V wr ∧ Nice g (insA [] (ins.take k))) (fun _ u6 _ => ins.length - (intOf u6).toNat)
  case atStart => exact ⟨0, _, _, Nat.zero_le _, rfl, rfl, ts_nil _ _, HB0.out, Nice.nil g⟩
  case round =>
    obtain ⟨k, oa, oc, hk, rfl, rfl, hts, hb, hni⟩ := hrel
    have HTS : Hid (TA.TS wr oa (insA [] (ins.take k))) := hts
    have HB : Hid (Bl V wr) := hb
    have HNI : Hid (Nice g (insA [] (ins.take k))) := hni
    have hol := hni.len
    obtain ⟨p1, p2, p3⟩ := HC.out _ hb
    obtain ⟨hc1, htx⟩ := HCS.out _ hb
    have HTX : Hid (TA.TS wr x ins) := htx
    clear hts hb hni htx HB0
    by_cases hlt : k < ins.length
    · obtain ⟨s, hs⟩ : ∃ s, ins[k]? = some s := ⟨ins[k], List.getElem?_eq_getElem hlt⟩
      obtain ⟨b2, off2, rfl, _, hc2⟩ := HTX.out k s hs
      have HSU : Hid (insA [] (ins.take (k + 1)) = insL s (insA [] (ins.take k))) := by
        show _ = _
        rw [tk_succ hs, insA_snoc]
      have HN2 : Hid (Nice g (insL s (insA [] (ins.take k)))) := HNI.out.ins (HI1.out s (List.mem_of_getElem? hs))
      have CIN : Hid (Calls Try.prog 49 #[.slice oa (insA [] (ins.take k)).length oc, .string (M.bs s)] wr fun e w' => ∃ a' c', e = .returned (.slice a' (insL s (insA [] (ins.take k))).length c') ∧ TA.TS w' a' (insL s (insA [] (ins.take k))) ∧ Bl wr w') := rinsert_x _ oa oc s wr HTS.out (by omega)
      clear hs HTS HTX HNI
      generalize insA [] (ins.take k) = o at *
      go_wp2_with (go_at_call 49; refine CIN.out.mono ?_; clear CIN; rintro e w' ⟨oa', oc', rfl, HT2, HB2⟩)
      go_roundw
      case rel => exact ⟨k + 1, oa', oc', by omega, by go_num, by rw [HSU.out], by rw [HSU.out]; exact HT2, HB.out.step HB2, by rw [HSU.out]; exact HN2.out⟩
      case measure => simp [intOf]; omega
    · obtain rfl : k = ins.length := by omega
      rw [List.take_length, ← HI0.out] at HTS
      rw [List.take_length, ← HI0.out]
      clear HNI hol HTX HI1 HCS
      go_wp2_with fail
      clear p1 p2 p3 hc1
      go_loopw [5, 7, 8, 9, 10, 11] (fun u5 u7 u8 u9 u10 u11 wr => ∃ (r : Nat) (oa : Option Addr) (oc : Nat), r ≤ g.2.length ∧ u7 = .int .i64 r ∧ u5 = .slice oa (rn g p r).length oc ∧ TA.TS wr oa (rn g p r) ∧ Bl V wr) (fun _ u7 _ _ _ _ _ => g.2.length - (intOf u7).toNat)
      case atStart => exact ⟨0, _, _, Nat.zero_le _, rfl, rfl, HTS.out, HB.out⟩
      case round =>
        clear HTS HB
        obtain ⟨r, la, lc, hr, rfl, rfl, hts, hb⟩ := hrel
        have HTL : Hid (TA.TS wr la (rn g p r)) := hts
        have HBL : Hid (Bl V wr) := hb
        obtain ⟨p1, p2, p3⟩ := HC.out _ hb
        clear hts hb
        by_cases hlt : r < g.2.length
        · have HNX : Hid (rn g p (r + 1) = clo g (rn g p r) (rn g p r)) := rfl
          have HNL : Hid (Nice g (rn g p r)) := HNC.out r
          have hLl := HNL.out.len
          generalize rn g p r = L at *
          go_wp2_with fail
          clear p1 p2 p3
          generalize hw0 : wr = w0 at *
          clear hw0
          have HR0 : Hid (Bl w0 w0) := Bl.refl w0
          go_loopw [5, 9, 10, 11] (fun u5 u9 u10 u11 wr2 => ∃ (n : Nat) (oa : Option Addr) (oc : Nat), n ≤ L.length ∧ u9 = .int .i64 n ∧ u5 = .slice oa (clo g L (L.take n)).length oc ∧ TA.TS wr2 oa (clo g L (L.take n)) ∧ Bl w0 wr2) (fun _ u9 _ _ _ => L.length - (intOf u9).toNat)
          case atStart => exact ⟨0, _, _, Nat.zero_le _, rfl, rfl, HTL.out, HR0.out⟩
          case round =>
            clear HR0
            obtain ⟨n, oa, oc, hn, rfl, rfl, hts, hb⟩ := hrel
            have HTO : Hid (TA.TS wr oa (clo g L (L.take n))) := hts
            have HBO : Hid (Bl w0 wr) := hb
            have HNO : Hid (Nice g (clo g L (L.take n))) := Nice.clo HMS.out HNL.out
            have hol := HNO.out.len
            obtain ⟨p1, p2, p3⟩ := HC.out _ (HBL.out.step hb)
            clear hts hb
            by_cases hln : n < L.length
            · obtain ⟨y, hy⟩ : ∃ y, L[n]? = some y := ⟨L[n], List.getElem?_eq_getElem hln⟩
              obtain ⟨lb, loff, rfl, hlb, hlc⟩ := HTL.out n y hy
              have HLC : Hid (∀ U, Bl w0 U → U.cell? ⟨lb, loff + n, none⟩ = some (.string (M.bs y))) := fun U hU => by rw [Bl.cell hU hlb]; exact hlc
              have HSU : Hid (clo g L (L.take (n + 1)) = cl1 g (clo g L (L.take n)) y) := by
                show _ = _
                rw [tk_succ hy, clo_snoc]
              have KP : Hid (∀ U, Bl wr U → U.cell? ⟨bx, 0, none⟩ = some (.slice sa g.1.length sc) ∧ U.cell? ⟨bx, 1, none⟩ = some (.slice (some ⟨ab, aoff, none⟩) g.2.length ac) ∧ U.cell? ⟨lb, loff + n, none⟩ = some (.string (M.bs y))) := fun U hU => by
                obtain ⟨h1, h2, _⟩ := HC.out U (HBL.out.step (HBO.out.step hU))
                exact ⟨h1, h2, HLC.out U (HBO.out.step hU)⟩
              have hcl := HLC.out _ HBO.out
              have CA2 : Hid (∀ U, Bl wr U → Calls Try.prog 31 #[.agg #[.slice sa g.1.length sc, .slice (some ⟨ab, aoff, none⟩) g.2.length ac], .string (M.bs y)] U fun e w' => e = .returned (.int .i64 (plcI g y)) ∧ Bl wr w') := fun U hU => CA.out wr U y (HBL.out.step HBO.out) hU
              clear hlb hlc HLC
              cases hpl : plc g y with
              | none =>
                rw [plcI_none hpl] at CA2
                have HS2 : Hid (clo g L (L.take (n + 1)) = clo g L (L.take n)) := by
                  show _ = _
                  rw [HSU.out, cl1_none _ hpl]
                clear hy hpl HSU
                go_wp2_with fail
                refine wp_region_noPanic ?_
                refine wp_region_held_drew (S := fun U => U.cell? ⟨bx, 0, none⟩ = some (.slice sa g.1.length sc) ∧ U.cell? ⟨bx, 1, none⟩ = some (.slice (some ⟨ab, aoff, none⟩) g.2.length ac) ∧ U.cell? ⟨lb, loff + n, none⟩ = some (.string (M.bs y))) (by kernel_rfl) (KP.out _ ((Bl.refl wr).drewN 1)) (fun hHeld => ?_)
                refine wpAnyH_take (i := 0) (v := ?_) rfl (by kernel_rfl) (by kernel_rfl) (by kernel_rfl) (fun _ _ _ h => h) (Or.inl ⟨by kernel_rfl, ?_⟩) (by assumption) ?_
                rotate_left
                · (intro w hSw; (try dsimp only at hSw); go_simp; (try with_reducible rfl))
                simp only [Act.put, List.getElem_toArray, List.getElem_cons_succ, List.getElem_cons_zero, List.setIfInBounds_toArray, List.set_cons_zero, List.set_cons_succ]
                refine wpAnyH_take (i := 1) rfl (by kernel_rfl) (by kernel_rfl) (by kernel_rfl) (fun _ _ _ h => h) (yi_move (by kernel_rfl) rfl rfl) (by assumption) ?_
                simp only [Act.put, List.getElem_toArray, List.getElem_cons_succ, List.getElem_cons_zero, List.setIfInBounds_toArray, List.set_cons_zero, List.set_cons_succ]
                refine wpAnyH_take (i := 2) rfl (by kernel_rfl) (by kernel_rfl) (by kernel_rfl) (fun _ _ _ h => h) (yi_move (by kernel_rfl) rfl rfl) (by assumption) ?_
                simp only [Act.put, List.getElem_toArray, List.getElem_cons_succ, List.getElem_cons_zero, List.setIfInBounds_toArray, List.set_cons_zero, List.set_cons_succ]
                refine wpAnyH_take (i := 3) (v := ?_) rfl (by kernel_rfl) (by kernel_rfl) (by kernel_rfl) (fun _ _ _ h => h) (Or.inl ⟨by kernel_rfl, ?_⟩) (by assumption) ?_
                rotate_left
                · (intro w hSw; (try dsimp only at hSw); go_simp; (try with_reducible rfl))
                simp only [Act.put, List.getElem_toArray, List.getElem_cons_succ, List.getElem_cons_zero, List.setIfInBounds_toArray, List.set_cons_zero, List.set_cons_succ]
                refine wpAnyH_take (i := 4) (v := ?_) rfl (by kernel_rfl) (by kernel_rfl) (by kernel_rfl) (fun _ _ _ h => h) (Or.inl ⟨by kernel_rfl, ?_⟩) (by assumption) ?_
                rotate_left
                · (intro w hSw; (try dsimp only at hSw); go_simp; (try with_reducible rfl))
                simp only [Act.put, List.getElem_toArray, List.getElem_cons_succ, List.getElem_cons_zero, List.setIfInBounds_toArray, List.set_cons_zero, List.set_cons_succ]
                refine wpAnyH_ready (rs := [5]) (by kernel_rfl) (by simp) ?_
                refine AllReadyH.cons (o := _) rfl (fun K hK => ?_) AllReadyH.nil
                go_simp
                go_at_call 31; refine (CA2.out _ ((Bl.refl wr).drewN 1)).mono ?_; clear CA2; rintro e wn ⟨rfl, HB6⟩
                refine hK.out _ _ (KP.out _ HB6) (fun hHeld => ?_)
                clear hK K
                (try simp only [Act.put, List.getElem_toArray, List.getElem_cons_succ, List.getElem_cons_zero, List.setIfInBounds_toArray, List.set_cons_zero, List.set_cons_succ])
                refine wpAnyH_take (i := 6) (v := .int .i64 (-1)) rfl (by kernel_rfl) (by kernel_rfl) (by kernel_rfl) (fun _ _ _ h => h) (yi_assign (by kernel_rfl) rfl (by rfl)) (by assumption) ?_
                simp only [Act.put, List.getElem_toArray, List.getElem_cons_succ, List.getElem_cons_zero, List.setIfInBounds_toArray, List.set_cons_zero, List.set_cons_succ]
                refine wpAnyH_done (by kernel_rfl) ?_ _
                refine NoPanic.normal ?_
                have HTO2 : Hid (TA.TS wn oa (clo g L (L.take n))) := HTO.out.below HB6
                have HB3 : Hid (Bl w0 wn) := HBO.out.step HB6
                go_wp2_with fail
                go_loopw [5, 11] (fun u5 u11 wr2 => u5 = .slice oa (clo g L (L.take n)).length oc ∧ wr2 = wn) (fun _ _ _ => 0)
                case atStart => exact ⟨rfl, rfl⟩
                case round =>
                  obtain ⟨rfl, hw⟩ := hrel
                  rw [hw]
                  clear hw
                  go_wp2_with fail
                  go_roundw
                  case rel => exact ⟨n + 1, oa, oc, by omega, by go_num, by rw [HS2.out], by rw [HS2.out]; exact HTO2.out, HB3.out⟩
                  case measure => simp [intOf]; omega
              | some j =>
                rw [plcI_some hpl] at CA2
                obtain ⟨t, ht, _⟩ := plc_some hpl
                have hjl : j < g.2.length := (List.getElem?_eq_some_iff.1 ht).1
                have HS2 : Hid (clo g L (L.take (n + 1)) = insA (clo g L (L.take n)) t.2.1) := by
                  show _ = _
                  rw [HSU.out, cl1_some _ hpl ht]
                have HI2 : Hid (∀ s ∈ t.2.1, s ∈ TR.nm g) := by
                  have := HIN.out j
                  rw [TR.insO_of ht] at this
                  exact this
                have hil2 := (HK.out.b t (List.mem_of_getElem? ht)).2.1
                unfold maxLen at hil2
                obtain ⟨b3, off3, x3, c3, e3, hcs⟩ := acts_cells (U := V) HG.out.a ht
                simp only [Option.some.injEq, Addr.mk.injEq] at e3
                obtain ⟨rfl, rfl, _⟩ := e3
                obtain ⟨tn3, ins3, code3⟩ := t
                simp only [] at hcs HS2 HI2 hil2
                have HCS : Hid (∀ U, Bl w0 U → U.cell? ⟨ab, aoff + j * 3 + 1, none⟩ = some (.slice x3 ins3.length c3) ∧ TA.TS U x3 ins3) := fun U hU => (hcs U (HBL.out.step hU)).2
                have hj0 : decide ((j : Int) < 0) = false := by simp
                have hj1 : decide ((g.2.length : Int) ≤ (j : Int)) = false := by simp; omega
                have hj2 : (j : Int) < (g.2.length : Int) := by omega
                have hj3 : decide ((0 : Int) ≤ (j : Int)) = true := by simp
                clear hy hpl HSU ht hcs
                go_wp2_with fail
                refine wp_region_noPanic ?_
                refine wp_region_held_drew (S := fun U => U.cell? ⟨bx, 0, none⟩ = some (.slice sa g.1.length sc) ∧ U.cell? ⟨bx, 1, none⟩ = some (.slice (some ⟨ab, aoff, none⟩) g.2.length ac) ∧ U.cell? ⟨lb, loff + n, none⟩ = some (.string (M.bs y))) (by kernel_rfl) (KP.out _ ((Bl.refl wr).drewN 1)) (fun hHeld => ?_)
                refine wpAnyH_take (i := 0) (v := ?_) rfl (by kernel_rfl) (by kernel_rfl) (by kernel_rfl) (fun _ _ _ h => h) (Or.inl ⟨by kernel_rfl, ?_⟩) (by assumption) ?_
                rotate_left
                · (intro w hSw; (try dsimp only at hSw); go_simp; (try with_reducible rfl))
                simp only [Act.put, List.getElem_toArray, List.getElem_cons_succ, List.getElem_cons_zero, List.setIfInBounds_toArray, List.set_cons_zero, List.set_cons_succ]
                refine wpAnyH_take (i := 1) rfl (by kernel_rfl) (by kernel_rfl) (by kernel_rfl) (fun _ _ _ h => h) (yi_move (by kernel_rfl) rfl rfl) (by assumption) ?_
                simp only [Act.put, List.getElem_toArray, List.getElem_cons_succ, List.getElem_cons_zero, List.setIfInBounds_toArray, List.set_cons_zero, List.set_cons_succ]
                refine wpAnyH_take (i := 2) rfl (by kernel_rfl) (by kernel_rfl) (by kernel_rfl) (fun _ _ _ h => h) (yi_move (by kernel_rfl) rfl rfl) (by assumption) ?_
                simp only [Act.put, List.getElem_toArray, List.getElem_cons_succ, List.getElem_cons_zero, List.setIfInBounds_toArray, List.set_cons_zero, List.set_cons_succ]
                refine wpAnyH_take (i := 3) (v := ?_) rfl (by kernel_rfl) (by kernel_rfl) (by kernel_rfl) (fun _ _ _ h => h) (Or.inl ⟨by kernel_rfl, ?_⟩) (by assumption) ?_
                rotate_left
                · (intro w hSw; (try dsimp only at hSw); go_simp; (try with_reducible rfl))
                simp only [Act.put, List.getElem_toArray, List.getElem_cons_succ, List.getElem_cons_zero, List.setIfInBounds_toArray, List.set_cons_zero, List.set_cons_succ]
                refine wpAnyH_take (i := 4) (v := ?_) rfl (by kernel_rfl) (by kernel_rfl) (by kernel_rfl) (fun _ _ _ h => h) (Or.inl ⟨by kernel_rfl, ?_⟩) (by assumption) ?_
                rotate_left
                · (intro w hSw; (try dsimp only at hSw); go_simp; (try with_reducible rfl))
                simp only [Act.put, List.getElem_toArray, List.getElem_cons_succ, List.getElem_cons_zero, List.setIfInBounds_toArray, List.set_cons_zero, List.set_cons_succ]
                refine wpAnyH_ready (rs := [5]) (by kernel_rfl) (by simp) ?_
                refine AllReadyH.cons (o := _) rfl (fun K hK => ?_) AllReadyH.nil
                go_simp
                go_at_call 31; refine (CA2.out _ ((Bl.refl wr).drewN 1)).mono ?_; clear CA2; rintro e wn ⟨rfl, HB6⟩
                refine hK.out _ _ (KP.out _ HB6) (fun hHeld => ?_)
                clear hK K
                (try simp only [Act.put, List.getElem_toArray, List.getElem_cons_succ, List.getElem_cons_zero, List.setIfInBounds_toArray, List.set_cons_zero, List.set_cons_succ])
                refine wpAnyH_take (i := 6) (v := .int .i64 (j : Int)) rfl (by kernel_rfl) (by kernel_rfl) (by kernel_rfl) (fun _ _ _ h => h) (yi_assign (by kernel_rfl) rfl (by rfl)) (by assumption) ?_
                simp only [Act.put, List.getElem_toArray, List.getElem_cons_succ, List.getElem_cons_zero, List.setIfInBounds_toArray, List.set_cons_zero, List.set_cons_succ]
                refine wpAnyH_done (by kernel_rfl) ?_ _
                refine NoPanic.normal ?_
                have HTO2 : Hid (TA.TS wn oa (insA (clo g L (L.take n)) (ins3.take 0))) := HTO.out.below HB6
                have HB3 : Hid (Bl w0 wn) := HBO.out.step HB6
                have HN0 : Hid (Nice g (insA (clo g L (L.take n)) (ins3.take 0))) := HNO.out
                clear HNO hol p1 p2 p3 hcl
                generalize clo g L (L.take n) = CL at *
                go_wp2_with fail
                go_loopw [5, 11] (fun u5 u11 wr2 => ∃ (k : Nat) (oa : Option Addr) (oc : Nat), k ≤ ins3.length ∧ u11 = .int .i64 k ∧ u5 = .slice oa (insA CL (ins3.take k)).length oc ∧ TA.TS wr2 oa (insA CL (ins3.take k)) ∧ Bl w0 wr2 ∧ Nice g (insA CL (ins3.take k))) (fun _ u11 _ => ins3.length - (intOf u11).toNat)
                case atStart => exact ⟨0, _, _, Nat.zero_le _, rfl, rfl, HTO2.out, HB3.out, HN0.out⟩
                case round =>
                  clear HTO2 HB3 HN0
                  obtain ⟨k, oa, oc, hk3, rfl, rfl, hts, hb, hni⟩ := hrel
                  have HTS : Hid (TA.TS wr oa (insA CL (ins3.take k))) := hts
                  have HB4 : Hid (Bl w0 wr) := hb
                  have HNI : Hid (Nice g (insA CL (ins3.take k))) := hni
                  have hol := hni.len
                  obtain ⟨p1, p2, p3⟩ := HC.out _ (HBL.out.step hb)
                  obtain ⟨hc1, htx⟩ := HCS.out _ hb
                  have HTX : Hid (TA.TS wr x3 ins3) := htx
                  clear hts hb hni htx
                  by_cases hlt3 : k < ins3.length
                  · obtain ⟨s, hs⟩ : ∃ s, ins3[k]? = some s := ⟨ins3[k], List.getElem?_eq_getElem hlt3⟩
                    obtain ⟨b2, off2, rfl, _, hc2⟩ := HTX.out k s hs
                    have HSU3 : Hid (insA CL (ins3.take (k + 1)) = insL s (insA CL (ins3.take k))) := by
                      show _ = _
                      rw [tk_succ hs, insA_snoc]
                    have HN3 : Hid (Nice g (insL s (insA CL (ins3.take k)))) := HNI.out.ins (HI2.out s (List.mem_of_getElem? hs))
                    have CIN : Hid (Calls Try.prog 49 #[.slice oa (insA CL (ins3.take k)).length oc, .string (M.bs s)] wr fun e w' => ∃ a' c', e = .returned (.slice a' (insL s (insA CL (ins3.take k))).length c') ∧ TA.TS w' a' (insL s (insA CL (ins3.take k))) ∧ Bl wr w') := rinsert_x _ oa oc s wr HTS.out (by omega)
                    clear hs HTS HTX HNI
                    generalize insA CL (ins3.take k) = o at *
                    go_wp2_with (go_at_call 49; refine CIN.out.mono ?_; clear CIN; rintro e w' ⟨oa', oc', rfl, HT2, HB2⟩)
                    go_roundw
                    case rel => exact ⟨k + 1, oa', oc', by omega, by go_num, by rw [HSU3.out], by rw [HSU3.out]; exact HT2, HB4.out.step HB2, by rw [HSU3.out]; exact HN3.out⟩
                    case measure => simp [intOf]; omega
                  · obtain rfl : k = ins3.length := by omega
                    rw [List.take_length, ← HS2.out] at HTS
                    rw [List.take_length, ← HS2.out]
                    clear HNI hol HTX
                    go_wp2_with fail
                    go_roundw
                    case rel => exact ⟨n + 1, oa, oc, by omega, by go_num, rfl, HTS.out, HB4.out⟩
                    case measure => simp [intOf]; omega
            · obtain rfl : n = L.length := by omega
              rw [List.take_length, ← HNX.out] at HTO
              rw [List.take_length, ← HNX.out]
              clear HNO hol
              go_wp2_with fail
              go_roundw
              case rel => exact ⟨r + 1, oa, oc, by omega, by go_num, rfl, HTO.out, HBL.out.step HBO.out⟩
              case measure => simp [intOf]; omega
        · obtain rfl : r = g.2.length := by omega
          go_wp2_with fail
          go_ret
          exact ⟨la, lc, rfl, HTL.out, HBV.out.step HBL.out⟩

set_option maxRecDepth 8000 in
set_option maxHeartbeats 2000000 in
theorem rNeeds_x (g : RC.Gr) (sa : Option Addr) (sc : Nat) (aa : Option Addr) (ac : Nat) (s : List UInt8) {w W : World} (HB : Bl w W) (hg : GA W.heap.size W g sa sc aa ac) (hk : grOk g) :
    Calls Try.prog 18 #[.agg (gv g sa sc aa ac), .string (M.bs s)] W fun e w' => ∃ a c, e = .returned (.slice a (ndL g s).length c) ∧ TA.TS w' a (ndL g s) ∧ Bl w w' := by
  have HC : Hid (∀ T U, Bl (W.alloc (.cells #[.slice sa g.1.length sc, .slice aa g.2.length ac] T)) U → U.cell? ⟨W.heap.size, 0, none⟩ = some (.slice sa g.1.length sc) ∧ U.cell? ⟨W.heap.size, 1, none⟩ = some (.slice aa g.2.length ac) ∧ W.heap.size < U.heap.size ∧ Bl W U) := fun T U hU => rbox_cells hU
  have HBV : Hid (∀ o U, Bl (W.alloc o) U → Bl w U) := fun o U hU => (HB.alloc o).step hU
  have CC : Hid (∀ o, Calls Try.prog 12 #[.agg (gv g sa sc aa ac)] (W.alloc o) fun e w' => e = .returned (.int .i64 (TR.chk g : Int)) ∧ Bl (W.alloc o) w') := fun o =>
    rCheck_x g sa sc aa ac (Bl.refl _) (hg.bl ((Bl.refl W).alloc o)) hk
  by_cases hck : TR.chk g = 0
  · have hG := TR.chk_zero.1 hck
    have CA : Hid (∀ o U, Bl (W.alloc o) U → Calls Try.prog 31 #[.agg (gv g sa sc aa ac), .string (M.bs s)] U fun e w' => e = .returned (.int .i64 (plcI g s)) ∧ Bl (W.alloc o) w') := fun o U hU => rAt_x g sa sc aa ac s hU (hg.bl (((Bl.refl W).alloc o).step hU)) hk
    rw [hck] at CC
    cases hpl : plc g s with
    | none =>
      have hnd : ndL g s = [] := by
        unfold ndL ndK; rw [if_pos hck, hpl]
      rw [hnd]
      rw [plcI_none hpl] at CA
      clear hg hk HB hck hG hpl hnd
      unfold gv at CC CA ⊢
      go_enter Try.func18, Try.ntmps18
      go_wp2_with (first
        | (go_at_call 12; refine (CC.out _).mono ?_; clear CC; rintro e w1 ⟨rfl, HB1⟩; obtain ⟨p1, p2, p3, p4⟩ := HC.out _ _ HB1)
        | (go_at_call 31; refine (CA.out _ _ HB1).mono ?_; clear CA p1 p2 p3 p4; rintro e w2 ⟨rfl, HB2⟩; obtain ⟨p1, p2, p3, p4⟩ := HC.out _ _ HB2))
      go_ret
      exact ⟨none, 0, rfl, ts_nil _ _, HBV.out _ _ HB2⟩
    | some j =>
      obtain ⟨t, ht, e⟩ := plc_some hpl
      have hjl : j < g.2.length := (List.getElem?_eq_some_iff.1 ht).1
      have hnd : ndL g s = rn g j g.2.length := by rw [rn_eq hG ht, e]
      rw [hnd]
      rw [plcI_some hpl] at CA
      have CN : Hid (∀ o U, Bl (W.alloc o) U → Calls Try.prog 32 #[.agg (gv g sa sc aa ac), .int .i64 (j : Int)] U fun e w' => ∃ a c, e = .returned (.slice a (rn g j g.2.length).length c) ∧ TA.TS w' a (rn g j g.2.length) ∧ Bl (W.alloc o) w') := fun o U hU => rneeds_x g sa sc aa ac j hU (hg.bl (((Bl.refl W).alloc o).step hU)) hk hG hjl
      have hj0 : decide ((j : Int) < 0) = false := by simp
      clear hg hk HB hck hG hpl hnd ht e
      unfold gv at CC CA CN ⊢
      generalize rn g j g.2.length = RN at *
      go_enter Try.func18, Try.ntmps18
      go_wp2_with (first
        | (go_at_call 12; refine (CC.out _).mono ?_; clear CC; rintro e w1 ⟨rfl, HB1⟩; obtain ⟨p1, p2, p3, p4⟩ := HC.out _ _ HB1)
        | (go_at_call 31; refine (CA.out _ _ HB1).mono ?_; clear CA p1 p2 p3 p4; rintro e w2 ⟨rfl, HB2⟩; obtain ⟨p1, p2, p3, p4⟩ := HC.out _ _ HB2)
        | (go_at_call 32; refine (CN.out _ _ HB2).mono ?_; clear CN p1 p2 p3 p4; rintro e w3 ⟨xa, xc, rfl, HT, HB3⟩))
      go_ret
      exact ⟨xa, xc, rfl, HT, HBV.out _ _ HB3⟩
  · have hnd : ndL g s = [] := by unfold ndL; rw [if_neg hck]
    rw [hnd]
    have hq1 : ((TR.chk g : Int) == 0) = false := by rw [beq_eq_false_iff_ne]; omega
    clear hg hk HB hck hnd
    generalize TR.chk g = ck at *
    unfold gv at CC ⊢
    go_enter Try.func18, Try.ntmps18
    go_wp2_with (go_at_call 12; refine (CC.out _).mono ?_; clear CC; rintro e w1 ⟨rfl, HB1⟩; obtain ⟨p1, p2, p3, p4⟩ := HC.out _ _ HB1)
    go_ret
    exact ⟨none, 0, rfl, ts_nil _ _, HBV.out _ _ HB1⟩
end Go.Proofs.Ythpdmeoljdmncaa

/- The reference's Dirty. -/
namespace Go.Proofs.Ythpdmeoljdmncaa
open Go.RowKit
set_option linter.unusedVariables false
set_option linter.unusedSimpArgs false

/-- whether one of k is there -/
def anK (xs : List (List UInt8)) (q : Bool) (l : List (List UInt8)) (k : Nat) : Bool := q || (l.take k).any fun s => decide (s ∈ xs)
theorem anK_succ {xs : List (List UInt8)} {q : Bool} {l : List (List UInt8)} {k : Nat} {s : List UInt8} (h : l[k]? = some s) : anK xs q l (k + 1) = (anK xs q l k || decide (s ∈ xs)) := by
  unfold anK
  rw [tk_succ h]
  simp [Bool.or_assoc]
theorem plcs_nx (q : Nat → Bool) (i : Nat) : plcs q (i + 1) = plcs q i ++ (if q i = true then [i] else []) := by
  unfold plcs
  rw [List.range_succ, List.filter_append]
  congr 1
  by_cases h : q i = true
  · rw [if_pos h]; simp [h]
  · rw [if_neg h]; simp [h]
theorem plcs_len (q : Nat → Bool) (i : Nat) : (plcs q i).length ≤ i := by
  unfold plcs
  have := List.length_filter_le q (List.range i)
  simpa using this

set_option maxRecDepth 8000 in
set_option maxHeartbeats 8000000 in
theorem rDirty_x (g : RC.Gr) (sa : Option Addr) (sc : Nat) (aa : Option Addr) (ac : Nat) (xs : List (List UInt8)) (xa : Option Addr) (xc : Nat) {w W : World} (HB : Bl w W) (hg : GA W.heap.size W g sa sc aa ac) (hk : grOk g) (hx : Strs W.heap.size W (.slice xa xs.length xc) xs) (hxn : xs.length ≤ maxLen) :
    Calls Try.prog 20 #[.agg (gv g sa sc aa ac), .slice xa xs.length xc] W fun e w' => ∃ a c, e = .returned (.slice a (drL g xs).length c) ∧ IA w' a (drL g xs) ∧ Bl w w' := by
  obtain ⟨V, hV⟩ : ∃ V, V = W.alloc (.cells #[.slice sa g.1.length sc, .slice aa g.2.length ac] 25) := ⟨_, rfl⟩
  have hVs : V.heap.size = W.heap.size + 1 := by rw [hV]; simp
  have HBV : Hid (Bl w V) := by rw [hV]; exact HB.alloc _
  have HC : Hid (∀ U, Bl V U → U.cell? ⟨W.heap.size, 0, none⟩ = some (.slice sa g.1.length sc) ∧ U.cell? ⟨W.heap.size, 1, none⟩ = some (.slice aa g.2.length ac) ∧ W.heap.size < U.heap.size) := fun U hU => by
    rw [hV] at hU
    obtain ⟨h1, h2, h3, _⟩ := rbox_cells hU
    exact ⟨h1, h2, h3⟩
  have HG : Hid (GA V.heap.size V g sa sc aa ac) := by rw [hV]; exact hg.bl ((Bl.refl W).alloc _)
  have HX : Hid (∀ U, Bl V U → SA U xa xs) := fun U hU => (Strs.sa (hx.bl (((Bl.refl W).alloc _).step (by rw [hV] at hU; exact hU)))).2
  have HXN : Hid (xs.length ≤ maxLen) := hxn
  have HK : Hid (grOk g) := hk
  have CC : Hid (Calls Try.prog 12 #[.agg (gv g sa sc aa ac)] (V.alloc (.cells #[] 3)) fun e w' => e = .returned (.int .i64 (TR.chk g : Int)) ∧ Bl (V.alloc (.cells #[] 3)) w') :=
    rCheck_x g sa sc aa ac (Bl.refl _) (HG.out.bl ((Bl.refl V).alloc _)) hk
  have p1 := (HC.out (V.alloc (.cells #[] 3)) ((Bl.refl V).alloc _)).1
  have p2 := (HC.out (V.alloc (.cells #[] 3)) ((Bl.refl V).alloc _)).2.1
  have HB0 : Hid (∀ U, Bl (V.alloc (.cells #[] 3)) U → Bl V U) := fun U hU => ((Bl.refl V).alloc _).step hU
  by_cases hck : TR.chk g = 0
  · have hG := TR.chk_zero.1 hck
    obtain ⟨h8, h12⟩ := hG.le
    have HO0 : Hid (∀ U, Bl (V.alloc (.cells #[] 3)) U → U.ownsRow V.heap.size 3 1 (.slice (some ⟨W.heap.size + 1, 0, none⟩) 0 0) 0 ([].map encI)) := fun U hU => by
      have h := ownsRow_belowT (own_newI V) hU
      rw [show (some (⟨V.heap.size, 0, none⟩ : Addr)) = some ⟨W.heap.size + 1, 0, none⟩ by rw [hVs]] at h
      exact h
    have CN : Hid (∀ X U j, Bl V X → Bl X U → j < g.2.length → Calls Try.prog 32 #[.agg (gv g sa sc aa ac), .int .i64 (j : Int)] U fun e w' => ∃ a c, e = .returned (.slice a (rn g j g.2.length).length c) ∧ TA.TS w' a (rn g j g.2.length) ∧ Bl X w') := fun X U j hX hU hj => rneeds_x g sa sc aa ac j hU (HG.out.bl (hX.step hU)) HK.out hG hj
    obtain ⟨qq, hqq⟩ : ∃ qq, qq = drt g (TR.fin g) (TR.setOf (TR.nm g) xs) := ⟨_, rfl⟩
    have HDL : Hid (drL g xs = plcs qq g.2.length) := by
      show _ = _
      unfold drL; rw [if_pos hck, hqq]
    have HQI : Hid (∀ i t, g.2[i]? = some t → qq i = anK xs (decide (t.1 ∈ xs)) (rn g i g.2.length) (rn g i g.2.length).length) := fun i t ht => by
      rw [hqq, drt_iff hG ht, rn_eq hG ht]
      unfold anK; rw [List.take_length]
    have HNC : Hid (∀ r, (rn g r g.2.length).length ≤ g.1.length + g.2.length) := fun r => (rn_nice hG.ms r _).len
    rw [hck] at CC
    have HVV : Hid (V = W.alloc (.cells #[.slice sa g.1.length sc, .slice aa g.2.length ac] 25)) := hV
    rw [hV] at CC p1 p2 HB0 HO0
    unfold maxLen at hxn
    clear hg hk HB hx hck hG hqq hV
    unfold gv at CC CN ⊢
    go_enter Try.func20, Try.ntmps20
    go_wp2_with (go_at_call 12; refine CC.out.mono ?_; clear CC; rintro e w1 ⟨rfl, HB1⟩; have hb1 := HB0.out _ HB1; have ho1 := HO0.out _ HB1; rw [← HVV.out] at hb1 ho1; have HB2 : Hid (Bl V w1) := hb1; have HO2 : Hid (w1.ownsRow V.heap.size 3 1 (.slice (some ⟨W.heap.size + 1, 0, none⟩) 0 0) 0 ([].map encI)) := ho1; clear hb1 ho1 HB1 HB0 HO0 HVV p1 p2)
    generalize hbx : W.heap.size = bx at *
    clear hbx
    go_loopw [5, 6, 7, 8, 9] (fun u5 u6 u7 u8 u9 wr => ∃ (i : Nat) (oa : Option Addr) (oc : Nat), i ≤ g.2.length ∧ u6 = .int .i64 i ∧ u5 = .slice oa (plcs qq i).length oc ∧ wr.ownsRow V.heap.size 3 1 (.slice oa (plcs qq i).length oc) (plcs qq i).length ((plcs qq i).map encI) ∧ Bl V wr) (fun _ u6 _ _ _ _ => g.2.length - (intOf u6).toNat)
    case atStart => exact ⟨0, _, _, Nat.zero_le _, rfl, rfl, HO2.out, HB2.out⟩
    case round =>
      clear HO2 HB2
      obtain ⟨i, oa, oc, hi, rfl, rfl, ho, hb⟩ := hrel
      have HO : Hid (wr.ownsRow V.heap.size 3 1 (.slice oa (plcs qq i).length oc) (plcs qq i).length ((plcs qq i).map encI)) := ho
      have HB : Hid (Bl V wr) := hb
      obtain ⟨p1, p2, p3⟩ := HC.out _ hb
      clear ho hb
      by_cases hlt : i < g.2.length
      · obtain ⟨t, ht⟩ : ∃ t, g.2[i]? = some t := ⟨g.2[i], List.getElem?_eq_getElem hlt⟩
        obtain ⟨ab, aoff, x, c, rfl, hcs⟩ := acts_cells (U := V) HG.out.a ht
        obtain ⟨hc0, _, _⟩ := hcs _ HB.out
        have HQ : Hid (qq i = anK xs (decide (t.1 ∈ xs)) (rn g i g.2.length) (rn g i g.2.length).length) := HQI.out i t ht
        have hnl := HNC.out i
        have CI : Hid (Calls Try.prog 25 #[.slice xa xs.length xc, .string (M.bs t.1)] wr fun e w' => e = .returned (.bool (decide (t.1 ∈ xs))) ∧ w' = wr) := rhas_at xs xa xc t.1 wr (HX.out _ HB.out) HXN.out
        have CN2 : Hid (Calls Try.prog 32 #[.agg #[.slice sa g.1.length sc, .slice (some ⟨ab, aoff, none⟩) g.2.length ac], .int .i64 (i : Int)] wr fun e w' => ∃ a c, e = .returned (.slice a (rn g i g.2.length).length c) ∧ TA.TS w' a (rn g i g.2.length) ∧ Bl wr w') := CN.out wr wr i HB.out (Bl.refl wr) hlt
        have HSU : Hid (plcs qq (i + 1) = plcs qq i ++ (if qq i = true then [i] else [])) := plcs_nx qq i
        have hpl := plcs_len qq i
        clear ht hcs
        generalize t.1 = tn at *
        generalize decide (tn ∈ xs) = q0 at *
        generalize rn g i g.2.length = ND at *
        go_wp2_with (first
          | (go_at_call 25; refine CI.out.mono ?_; clear CI; rintro e w' ⟨rfl, hw'⟩; rw [hw']; clear hw' w')
          | (go_at_call 32; refine CN2.out.mono ?_; clear CN2; rintro e w3 ⟨na, nc, rfl, HTN, HB3⟩))
        have HO3 : Hid (w3.ownsRow V.heap.size 3 1 (.slice oa (plcs qq i).length oc) (plcs qq i).length ((plcs qq i).map encI)) := ownsRow_belowT HO.out HB3
        have HB4 : Hid (Bl V w3) := HB.out.step HB3
        have HT4 : Hid (TA.TS w3 na ND) := HTN
        have CI2 : Hid (∀ s, Calls Try.prog 25 #[.slice xa xs.length xc, .string (M.bs s)] w3 fun e w' => e = .returned (.bool (decide (s ∈ xs))) ∧ w' = w3) := fun s => rhas_at xs xa xc s w3 (HX.out _ HB4.out) HXN.out
        clear HTN HB3 HO HB p1 p2 p3 hc0
        go_loop [7, 9] (fun u7 u9 => ∃ k : Nat, k ≤ ND.length ∧ u9 = .int .i64 k ∧ u7 = .bool (anK xs q0 ND k)) (fun _ u9 => ND.length - (intOf u9).toNat)
        case atStart => exact ⟨0, Nat.zero_le _, rfl, by simp [anK]⟩
        case round =>
          obtain ⟨k, hk, rfl, rfl⟩ := hrel
          by_cases hlk : k < ND.length
          · obtain ⟨s, hs⟩ : ∃ s, ND[k]? = some s := ⟨ND[k], List.getElem?_eq_getElem hlk⟩
            obtain ⟨b2, off2, rfl, _, hcell⟩ := HT4.out k s hs
            have HK2 : Hid (anK xs q0 ND (k + 1) = (anK xs q0 ND k || decide (s ∈ xs))) := anK_succ hs
            have CI3 : Hid (Calls Try.prog 25 #[.slice xa xs.length xc, .string (M.bs s)] w3 fun e w' => e = .returned (.bool (decide (s ∈ xs))) ∧ w' = w3) := CI2.out s
            clear hs
            generalize decide (s ∈ xs) = q2 at *
            generalize anK xs q0 ND k = q1 at *
            cases q1
            · go_wp2_with (go_at_call 25; refine CI3.out.mono ?_; clear CI3; rintro e w' ⟨rfl, hw'⟩; rw [hw']; clear hw' w')
              go_round
              case rel => exact ⟨k + 1, by omega, by go_num, by rw [HK2.out]; rfl⟩
              case measure => simp [intOf]; omega
            · go_wp2_with fail
              go_round
              case rel => exact ⟨k + 1, by omega, by go_num, by rw [HK2.out]; rfl⟩
              case measure => simp [intOf]; omega
          · obtain rfl : k = ND.length := by omega
            rw [← HQ.out]
            cases hqi : qq i with
            | false =>
              have HS2 : Hid (plcs qq (i + 1) = plcs qq i) := by
                show _ = _
                rw [HSU.out, if_neg (by rw [hqi]; simp), List.append_nil]
              clear HSU HQ hqi
              go_wp2_with fail
              go_roundw
              case rel => exact ⟨i + 1, oa, oc, by omega, by go_num, by rw [HS2.out], by rw [HS2.out]; exact HO3.out, HB4.out⟩
              case measure => simp [intOf]; omega
            | true =>
              have HS2 : Hid (plcs qq (i + 1) = plcs qq i ++ [i]) := by
                show _ = _
                rw [HSU.out, if_pos hqi]
              clear HSU HQ hqi
              go_wp2_with (refine wl_appI1 rfl _ _ rfl (plcs qq i).length (plcs qq i) rfl i (.slice oa (plcs qq i).length oc) rfl HB4.out HO3.out rfl (by omega) (fun a' c' w' h1 h2 => ?_) rfl; have HO5 : Hid (w'.ownsRow V.heap.size 3 1 (.slice a' ((plcs qq i).length + 1) c') ((plcs qq i).length + 1) ((plcs qq i ++ [i]).map encI)) := h1; have HB5 : Hid (Bl V w') := h2; clear HO3 HB4 h1 h2)
              go_roundw
              case rel => exact ⟨i + 1, a', c', by omega, by go_num, by rw [HS2.out]; simp, by rw [HS2.out]; exact own_len (by simp) HO5.out, HB5.out⟩
              case measure => simp [intOf]; omega
      · obtain rfl : i = g.2.length := by omega
        go_wp2_with fail
        go_ret
        rw [HDL.out]
        obtain ⟨a, c, e1, e2⟩ := ia_of HO.out
        exact ⟨a, c, by rw [← e1]; rfl, e2, HBV.out.step HB.out⟩
  · have hd : drL g xs = [] := by unfold drL; rw [if_neg hck]
    rw [hd]
    have hq1 : ((TR.chk g : Int) != 0) = true := by rw [bne_iff_ne]; omega
    generalize TR.chk g = ck at *
    have HVV : Hid (V = W.alloc (.cells #[.slice sa g.1.length sc, .slice aa g.2.length ac] 25)) := hV
    rw [hV] at CC p1 p2 HB0
    clear hg hk HB hx hck hV hd
    unfold gv at CC ⊢
    go_enter Try.func20, Try.ntmps20
    go_wp2_with (go_at_call 12; refine CC.out.mono ?_; clear CC; rintro e w1 ⟨rfl, HB1⟩; have hb1 := HB0.out _ HB1; rw [← HVV.out] at hb1; have HB2 : Hid (Bl V w1) := hb1; clear hb1 HB1 HB0 HVV p1 p2)
    go_ret
    exact ⟨_, _, rfl, fun i x hx => by simp at hx, HBV.out.step HB2.out⟩
end Go.Proofs.Ythpdmeoljdmncaa
