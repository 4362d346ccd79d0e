/- What the reference's Parse answers. -/
import Derived.Test.YtgjpcddjfmdobaaDoorX7i
namespace Go.Proofs.YtgjpcddjfmdobaaDoor
open Go.RowKit
set_option linter.unusedVariables false
set_option linter.unusedSimpArgs false

set_option maxRecDepth 8000 in
set_option maxHeartbeats 2000000 in
theorem rParse_long (t : List UInt8) {w W : World} (HB : Bl w W) (hl : 8192 < t.length) (hm : t.length ≤ maxLen) :
    Calls Tryd.prog 18 #[.string (M.bs t)] W fun e w' => e = .returned (.tuple #[.agg zG, .int .i64 0, .int .i64 4]) ∧ Bl w w' := by
  have HB0 : Hid (∀ o o', Bl w ((W.alloc o).alloc o')) := fun o o' => (HB.alloc o).alloc o'
  have hbs := M.bs_size t
  unfold maxLen at hm
  clear HB
  unfold zG
  go_enter Tryd.func18, Tryd.ntmps18
  go_wp2_with fail
  exact bodyPost_ret (v := .tuple #[.agg #[.slice none 0 0, .slice none 0 0], .int .i64 0, .int .i64 4]) (by simp [results, Tryd.results18, go_sem]) rfl ⟨rfl, HB0.out _ _⟩

/-- the words of a line in memory, behind which the build stands -/
structure WD (W : World) (g : RC.Gr) (vs va : Value) (xs : List (Option Addr × Nat)) (l : List (List UInt8)) (wb wc : Nat) (U : World) : Prop where
  d : DG (V0 W) (W.heap.size + 3) (W.heap.size + 2) g vs va xs U
  hv : ∀ i t, l[i]? = some t → wb < U.heap.size ∧ U.cell? ⟨wb, 0 + i, none⟩ = some (.string (M.bs t))
  hc : l.length ≤ wc
theorem wd_of {W : World} {g : RC.Gr} {vs va : Value} {xs : List (Option Addr × Nat)} {l : List (List UInt8)} {wr w1 : World} {v : Value} (h : DG (V0 W) (W.heap.size + 3) (W.heap.size + 2) g vs va xs wr) (hb : Bl wr w1) (ho : w1.ownsRow wr.heap.size 9 1 v l.length (l.map encS)) (hne : l ≠ []) : ∃ wb wc, v = .slice (some ⟨wb, 0, none⟩) l.length wc ∧ WD W g vs va xs l wb wc w1 := by
  obtain ⟨h0, ⟨_, h2⟩ | ⟨gb, cap, cur, h1, h2, h3, h4, h5, h6, h7⟩⟩ := ho
  · exact absurd (List.length_eq_zero_iff.1 h2) hne
  · refine ⟨gb, cap, h1, h.step hb, fun i t ht => ⟨TA.lt_heap h3, ?_⟩, h4⟩
    rw [Lib.cell_of_heap h3, Nat.zero_add]
    have hi := (List.getElem?_eq_some_iff.1 ht).1
    have h8 : (cur.toList.take (l.length * 1))[i]? = (l.map encS)[i]? := by rw [h7]
    rw [List.getElem?_take_of_lt (by omega), List.getElem?_map, ht, Array.getElem?_toList] at h8
    exact h8

set_option maxRecDepth 8000 in
set_option maxHeartbeats 16000000 in
theorem rParse_x (t0 : List UInt8) {w W : World} (HB : Bl w W) (hl : t0.length ≤ 8192) :
    Calls Tryd.prog 18 #[.string (M.bs t0)] W (PR w (RC.P ([], []) 1 t0)) := by
  have hbs := M.bs_size t0
  have D0 : Hid (DG (V0 W) (W.heap.size + 3) (W.heap.size + 2) ([], []) (.slice none 0 0) (.slice none 0 0) [] ((V0 W).alloc (.cells zG 25))) := DG.start W
  obtain ⟨R, hR⟩ : ∃ R, RC.P ([], []) 1 t0 = R := ⟨_, rfl⟩
  rw [hR]
  have HRR : Hid (RC.P ([], []) (0 + 1) t0 = R) := hR
  clear hR
  have hws : w.heap.size ≤ W.heap.size := Below.size HB
  have HFN : Hid (∀ U cs, Bl (V0 W) U → Bl w (U.setRow W.heap.size cs)) := fun U cs h => (HB.step ((V0.bl W).step h)).setRow hws _
  obtain ⟨fs, hum⟩ := undG
  clear HB
  go_enter Tryd.func18, Tryd.ntmps18
  go_wp2_with fail
  go_loopw [0, 7, 8, 9, 10, 11] (fun u0 u7 u8 u9 u10 u11 wr => ∃ (t : List UInt8) (g : RC.Gr) (n : Nat) (vs va : Value) (xs : List (Option Addr × Nat)), u0 = .string (M.bs t) ∧ u7 = .int .i64 n ∧ n + t.length ≤ 8192 ∧ RC.P g (n + 1) t = R ∧ RC.can g = true ∧ DG (V0 W) (W.heap.size + 3) (W.heap.size + 2) g vs va xs wr) (fun u0 _ _ _ _ _ _ => strLen u0)
  case atStart => exact ⟨t0, ([], []), 0, _, _, [], rfl, rfl, by omega, HRR.out, by decide, D0.out⟩
  case round =>
    obtain ⟨t, g, n, vs, va, xs, rfl, rfl, hnt, hPR, hcan, hD⟩ := hrel
    obtain ⟨S, A⟩ := g
    have HPR : Hid (RC.P (S, A) (n + 1) t = R) := hPR
    have HD : Hid (DG (V0 W) (W.heap.size + 3) (W.heap.size + 2) (S, A) vs va xs wr) := hD
    have HCAN : Hid (RC.can (S, A) = true) := hcan
    have hbst := M.bs_size t
    have hem := bs_empty t
    clear hPR hD hcan D0 HRR
    by_cases ht : t = []
    · rw [decide_eq_true ht] at hem
      subst ht
      have HH := (V0.blk W HD.out.bl).1
      have HF := HFN.out _ #[vs, va] HD.out.bl
      have hga := ((HD.out.weak ((V0.bl W).step HD.out.bl) (by omega)).setRow (r := W.heap.size) (by omega) (Nat.le_refl _) #[vs, va]).ga
      have HGR : Hid (wr.rangeAt (W.heap.size + 2) 0 [vs, va]) := fun j u hu => by
        rcases j with _ | _ | j
        · cases hu; exact HD.out.cs
        · cases hu; exact HD.out.ca
        · simp at hu
      obtain ⟨sa, sc, aa, ac, rfl, rfl, hga⟩ := hga
      have HGA : Hid (GA (wr.setRow W.heap.size #[.slice sa S.length sc, .slice aa A.length ac]).heap.size (wr.setRow W.heap.size #[.slice sa S.length sc, .slice aa A.length ac]) (S, A) sa sc aa ac) := hga
      have HRE : Hid (R = .inl (S, A)) := HPR.out.symm.trans (RC.P_nil (S, A) (n + 1))
      clear HPR HFN hga HD HCAN
      simp only [] at HGR HH HF
      unfold zG at HH
      go_wp2_with (first
        | (refine wpList_load_mid rfl 25 _ rfl (W.heap.size + 2) 0 rfl _ _ HGR.out hum rfl (by rw [infoG]; rfl) ?_; clear HGR)
        | (refine wpList_store_row rfl 25 _ _ rfl W.heap.size #[.slice sa S.length sc, .slice aa A.length ac] rfl rfl 25 _ HH infoG rfl (by simp [Value.oneCell']) ?_))
      (try simp only [Exit.inBlock, Exit.then])
      refine bodyPost_ret (results3_row rfl _ _ _ 25 #[.slice sa S.length sc, .slice aa A.length ac] (0, 0) _ rfl (setRow_heap _ _ _ _ _ _ HH) hum rfl infoG) rfl ?_
      rw [HRE.out]
      exact ⟨sa, sc, aa, ac, rfl, HGA.out, HF⟩
    · rw [decide_eq_false ht] at hem
      have HT : Hid (t ≠ []) := ht
      have hpos : 0 < t.length := List.length_pos_iff.2 ht
      clear ht
      go_wp2_with fail
      go_loop [8] (fun u8 => ∃ k : Nat, k ≤ t.length ∧ u8 = .int .i64 k ∧ (10 : UInt8) ∉ t.take k) (fun u8 => t.length - (intOf u8).toNat)
      case atStart => exact ⟨0, Nat.zero_le _, rfl, by simp⟩
      case round =>
        obtain ⟨k, hk, rfl, hnk⟩ := hrel
        have HK : Hid ((10 : UInt8) ∉ t.take k) := hnk
        clear hnk
        by_cases hlt : k < t.length
        · have hg : t[k]? = some t[k] := List.getElem?_eq_getElem hlt
          obtain ⟨c, hc⟩ : ∃ c, t[k] = c := ⟨_, rfl⟩
          rw [hc] at hg
          have dS := strR_at t k c hg
          unfold vB at dS
          by_cases h10 : c = 10
          · subst h10
            have hkl : ((k : Int) == (t.length : Int)) = false := by rw [beq_eq_false_iff_ne]; omega
            have hcut := cut_here t k HK.out hg
            have hcl := RC.cutL_len 10 t _ _ hcut
            have HPC : Hid (RC.P (S, A) (n + 1) t = match RC.addL (S, A) (RC.spl 32 (t.take k)) with | none => .inr (n + 1, 24) | some g' => RC.P g' (n + 1 + 1) (t.drop (k + 1))) := RC.P_cut (S, A) (n + 1) t _ _ hcut
            have ex1 : (M.bs t).extract 0 k = M.bs (t.take k) := by rw [cut_bsR]; simp
            have ex2 : (M.bs t).extract (k + 1) t.length = M.bs (t.drop (k + 1)) := by
              rw [cut_bsR, List.take_of_length_le (by simp)]
            have hol : (t.take k).length = k := by rw [List.length_take]; omega
            have hrl : (t.drop (k + 1)).length = t.length - (k + 1) := by simp
            generalize t.take k = one at *
            generalize t.drop (k + 1) = rest at *
            have hlen := spl_length 32 one
            have hmem := spl_mem_len 32 one
            have hne := RC.spl_ne 32 one
            have CW : Hid (∀ W', Bl wr W' → Calls Tryd.prog 34 #[.string (M.bs one)] W' fun e w' => ∃ v, e = .returned v ∧ w'.ownsRow W'.heap.size 9 1 v (RC.spl 32 one).length ((RC.spl 32 one).map encS) ∧ Bl wr w') := fun W' h => rwords_at one h (by omega)
            have hsl : (RC.spl 32 one).length ≤ 8194 := by omega
            generalize RC.spl 32 one = l at *
            obtain ⟨cp1, cp2, cp3, cp4⟩ := RC.can_parts HCAN.out
            simp only [] at cp1 cp2
            have HML : Hid (∀ x ∈ l, x.length ≤ 100000) := fun x hx => by have := hmem x hx; omega
            have HNE : Hid (l ≠ []) := hne
            obtain ⟨sa, sc, rfl⟩ := own_shape HD.out.s
            obtain ⟨aa, ac, rfl⟩ := own_shape HD.out.a
            clear hcut hg hc HK cp3 cp4 hmem hne hlen HT
            have hcsz := HD.out.sz
            by_cases hsrc : ∃ nm, l = [RC.wSource, nm] ∧ RC.isNm nm = true ∧ A = [] ∧ S.length ≠ 8
            · obtain ⟨nm, rfl, hnm, rfl, hs8⟩ := hsrc
              have hS8 : (S.length : Int) < 8 := by omega
              have hadd := RC.addL_source (S, []) nm rfl hs8 hnm
              have HRE : Hid (RC.P (S ++ [nm], []) (n + 1 + 1) rest = R) := by show _ = _; rw [← HPR.out, HPC.out, hadd]
              have HCN : Hid (RC.can (S ++ [nm], []) = true) := (RC.addL_some _ _ _ HCAN.out hadd).1
              have hxs : xs = [] := List.length_eq_zero_iff.1 HD.out.len
              subst hxs
              have hnl := HML.out nm (by simp)
              have CI : Hid (∀ W', Calls Tryd.prog 16 #[.string (M.bs nm)] W' fun e w' => e = .returned (.bool true) ∧ w' = W') := fun W' => by rw [← hnm]; exact rIsName_at nm W' (by unfold maxLen; omega)
              have hne0 : ((M.bs RC.wSource).toList == [115, 111, 117, 114, 99, 101]) = true := by rw [bs_eqW]; rfl
              have HLL : Hid ([RC.wSource, nm].length = 2) := rfl
              simp only [List.length_cons, List.length_nil, Nat.zero_add] at CW
              clear HPR HPC hadd hnm HCAN HFN HML hsl
              go_wp2_with (first
                | (go_at_call 34; refine (CW.out _ (Bl.refl _)).mono ?_; rintro e w1 ⟨v1, rfl, hown1, hb1⟩; obtain ⟨wb, wc, rfl, hwd⟩ := wd_of HD.out hb1 hown1 HNE.out; have hcs := hwd.d.cs; have hca := hwd.d.ca; simp only [List.length_nil] at hcs hca; have hw0 := (hwd.hv 0 _ rfl).2; have hw1 := (hwd.hv 1 _ rfl).2; rw [Nat.zero_add] at hw0 hw1; clear HD CW hown1 hb1)
                | (go_at_call 16; refine (CI.out _).mono ?_; rintro e w' ⟨rfl, hw⟩; rw [hw]; clear hw w' CI))
              have DQ := hwd.d
              have hwb := (hwd.hv 0 _ rfl).1
              have hbw := TA.lt_heap DQ.blk
              have hfz := DQ.fz 0
              have hszz := DQ.sz
              have hal : ∀ o, (w1.alloc o).cell? ⟨W.heap.size + 2, 0, none⟩ = some (.slice sa S.length sc) := fun o => (((Below.refl _ w1).alloc (Nat.le_refl _) o).cell (p := ⟨W.heap.size + 2, 0, none⟩) hbw).trans hcs
              have hal2 : ∀ o, (w1.alloc o).cell? ⟨wb, 1, none⟩ = some (.string (M.bs nm)) := fun o => (((Below.refl _ w1).alloc (Nat.le_refl _) o).cell (p := ⟨wb, 1, none⟩) hwb).trans hw1
              have OWN : Hid (∀ o, (w1.drew.alloc o).ownsRow (W.heap.size + 3) 9 1 (.slice sa S.length sc) S.length (S.map encS)) := fun o => (DQ.step (((Bl.refl w1).drewN 1).alloc o)).s
              have NEWS : Hid (∀ (j : Nat) (u : Value), [encS nm][j]? = some u → (w1.drew.alloc (.cells #[.string (M.bs nm)] 9)).cell? ((⟨w1.heap.size, 0, none⟩ : Addr).add j) = some u) := fun j u hu => World.news_of_block (heap_alloc_new w1.drew _) j u hu
              obtain ⟨i0, hi, hz0, hz1, hz2⟩ := TA.info_partsT (show (Tryd.prog.info? 9).map (fun i => (i.zero, i.size, i.bytes)) = some (some (.string ⟨#[]⟩), 1, 16) by kernel_rfl)
              have FIN : Hid (∀ o w8 g cap', (w1.drew.alloc o).grownBy w8 (Value.slice sa S.length sc).ownBlock → w8.ownsRow (W.heap.size + 3) 9 1 (.slice (some ⟨g, 0, none⟩) (S.length + 1) cap') (S.length + 1) (S.map encS ++ [encS nm]) → DG (V0 W) (W.heap.size + 3) (W.heap.size + 2) (S ++ [nm], []) (.slice (some ⟨g, 0, none⟩) (S.length + 1) cap') (.slice aa 0 ac) [] (w8.setCell ⟨W.heap.size + 2, 0, none⟩ (.slice (some ⟨g, 0, none⟩) (S.length + 1) cap')) ∧ w8.cell? ⟨W.heap.size + 2, 0, none⟩ = some (.slice sa S.length sc) ∧ w8.frozen? ⟨W.heap.size + 2, 0, none⟩ = false) := fun o w8 g cap' hg ho => by
                have hb1 : Bl w1 (w1.drew.alloc o) := ((Bl.refl w1).drewN 1).alloc o
                have h1 := DQ.step hb1
                have hne : some (W.heap.size + 2) ≠ (Value.slice sa S.length sc).ownBlock := fun e => by have := (TA.owns_ge h1.s e.symm).1; omega
                have hblk : w8.heap[W.heap.size + 2]? = some (.cells #[.slice sa S.length sc, .slice aa 0 ac] 25 (0, 0)) := by rw [hg.block _ (TA.lt_heap h1.blk) hne]; exact h1.blk
                exact ⟨DQ.appS hb1 nm _ ho hg, by rw [Lib.cell_of_heap hblk]; rfl, by simp [World.frozen?, hblk]⟩
              clear DQ hwd
              go_region_law (refine step_append_lies _ (by rfl) _ _ 22 (by rfl) (W.heap.size + 3) 9 i0 (.string ⟨#[]⟩) 1 16 TA.undS hi hz0 hz1 hz2 rfl (by decide) _ S.length _ (by rfl) (OWN.out _) ⟨w1.heap.size, 0, none⟩ 1 1 [encS nm] (by rfl) rfl NEWS.out (fun u hu => by simp at hu; subst hu; rfl) (by decide) (by unfold maxLen; omega) (by omega) (by simp; omega) (w1.heap.size + 1) (by simp) ?_; intro g cap' w8 hown8 hgrow8 hat8 hlt8; obtain ⟨HD9, c3, c4⟩ := FIN.out _ _ _ _ hgrow8 hown8)
              all_goals
                have HD8 : Hid (DG (V0 W) (W.heap.size + 3) (W.heap.size + 2) (S ++ [nm], []) (.slice (some ⟨g, 0, none⟩) (S.length + 1) cap') (.slice aa 0 ac) [] (w8.setCell ⟨W.heap.size + 2, 0, none⟩ (.slice (some ⟨g, 0, none⟩) (S.length + 1) cap'))) := HD9
                clear HD9 OWN NEWS FIN hown8 hgrow8 hat8
                go_wp2_with fail
                go_roundw
                case rel => exact ⟨rest, (S ++ [nm], []), n + 1, _, _, [], rfl, by go_num, by omega, HRE.out, HCN.out, HD8.out⟩
                case measure => simp [strLen, M.bs_size]; omega
            · have hadd := addL_not (S, A) l (fun nm h1 h2 h3 => Classical.byContradiction fun h4 => hsrc ⟨nm, h1, h2, h3, h4⟩)
              have HNO : Hid (rA l = none → R = .inr (n + 1, 24)) := fun h => by rw [← HPR.out, HPC.out, hadd, h]
              have CAN : Hid (rA l = none → ∀ wb wc U, WD W (S, A) (.slice sa S.length sc) (.slice aa A.length ac) xs l wb wc U → Calls Tryd.prog 35 #[.slice (some ⟨wb, 0, none⟩) l.length wc] U (RNo (V0 W))) := fun h wb wc U hu => by
                refine raction_x l wb 0 wc _ hu.d.bl hu.hv hu.hc HML.out (by omega) (fun t a' c' w' h1 _ _ => ?_) (fun cs w' _ h1 h2 h3 => RNo.of h1 h2 h3)
                rw [h] at h1; cases h1
              by_cases h2 : l.length = 2
              · have hra : rA l = none := by
                  match l, h2 with
                  | [k0, x], _ =>
                    show (if k0 = RC.wMake then RC.readA [x] else none) = none
                    rw [RC.readA_short _ (by simp)]
                    split <;> rfl
                have HRE : Hid (R = .inr (n + 1, 24)) := HNO.out hra
                replace CAN : Hid (∀ wb wc U, WD W (S, A) (.slice sa S.length sc) (.slice aa A.length ac) xs l wb wc U → Calls Tryd.prog 35 #[.slice (some ⟨wb, 0, none⟩) l.length wc] U (RNo (V0 W))) := CAN.out hra
                obtain ⟨k0, x, rfl⟩ : ∃ k0 x, l = [k0, x] := by
                  match l, h2 with
                  | [k0, x], _ => exact ⟨k0, x, rfl⟩
                have hxl := HML.out x (by simp)
                have hk0 := bs_eqW k0 RC.wSource
                unfold RC.wSource at hk0
                have CI : Hid (∀ W', Calls Tryd.prog 16 #[.string (M.bs x)] W' fun e w' => e = .returned (.bool (RC.isNm x)) ∧ w' = W') := fun W' => rIsName_at x W' (by unfold maxLen; omega)
                simp only [List.length_cons, List.length_nil, Nat.zero_add] at CW CAN
                clear HPR HPC hadd hra HNO h2 HCAN hsl HML
                by_cases q1 : k0 = RC.wSource
                · rw [decide_eq_true (show k0 = [115, 111, 117, 114, 99, 101] from q1)] at hk0
                  cases q2 : RC.isNm x with
                  | false =>
                    rw [q2] at CI
                    clear q1 q2 hsrc
                    go_wp2_with (first
                      | (go_at_call 34; refine (CW.out _ (Bl.refl _)).mono ?_; rintro e w1 ⟨v1, rfl, hown1, hb1⟩; obtain ⟨wb, wc, rfl, hwd⟩ := wd_of HD.out hb1 hown1 HNE.out; have hcs := hwd.d.cs; have hca := hwd.d.ca; (try simp only [List.length_nil] at hcs hca); clear HD; have hw0 := (hwd.hv 0 _ rfl).2; have hw1 := (hwd.hv 1 _ rfl).2; rw [Nat.zero_add] at hw0 hw1; clear CW hown1 hb1)
                      | (go_at_call 16; refine (CI.out _).mono ?_; rintro e w' ⟨rfl, hw⟩; rw [hw]; clear hw w' CI)
                      | (go_at_call 35; refine (CAN.out _ _ _ hwd).mono ?_; rintro e w3 ⟨cs, hcs3, hone, rfl, hb3⟩; have HH3 := heap_alloc_new w3 (.cells #[.string ⟨#[]⟩, .slice none 0 0, .string ⟨#[]⟩] 42); have hin3 : (Tryd.prog.info? 42).map (·.size) = some cs.size := infoAc3.trans (congrArg some hcs3.symm); have hU := (hb3.alloc (.cells #[.string ⟨#[]⟩, .slice none 0 0, .string ⟨#[]⟩] 42)).setRow (g := w3.heap.size) (Below.size hb3) cs; obtain ⟨HH, RN⟩ := V0.blk W hU; unfold zG at HH; have HF := HFN.out _ #[.slice none 0 0, .slice none 0 0] hU; clear CAN hwd hb3 hU HFN)
                      | (refine wpList_store_row rfl 42 _ _ rfl w3.heap.size cs rfl rfl 42 _ HH3 hin3 hcs3.symm hone ?_; clear HH3)
                      | (refine wpList_load_mid rfl 25 _ rfl (W.heap.size + 1) 0 rfl _ _ RN hum rfl infoG2 ?_; clear RN)
                      | (refine wpList_store_row rfl 25 _ _ rfl W.heap.size #[.slice none 0 0, .slice none 0 0] rfl rfl 25 _ HH infoG rfl (by simp [Value.oneCell']) ?_))
                    (try simp only [Exit.inBlock, Exit.then])
                    refine bodyPost_ret (results3_row rfl _ _ _ 25 #[.slice none 0 0, .slice none 0 0] (0, 0) _ rfl (setRow_heap _ _ _ _ _ _ HH) hum rfl infoG) rfl ?_
                    rw [HRE.out]
                    exact ⟨by first | rfl | (congr 3 <;> go_num), HF⟩
                  | true =>
                    rw [q2] at CI
                    by_cases q3 : A = []
                    · have q4 : ¬ (S.length : Int) < 8 := by
                        intro h
                        exact hsrc ⟨x, by rw [q1], q2, q3, by omega⟩
                      subst q3
                      clear q1 q2 hsrc
                      go_wp2_with (first
                        | (go_at_call 34; refine (CW.out _ (Bl.refl _)).mono ?_; rintro e w1 ⟨v1, rfl, hown1, hb1⟩; obtain ⟨wb, wc, rfl, hwd⟩ := wd_of HD.out hb1 hown1 HNE.out; have hcs := hwd.d.cs; have hca := hwd.d.ca; (try simp only [List.length_nil] at hcs hca); clear HD; have hw0 := (hwd.hv 0 _ rfl).2; have hw1 := (hwd.hv 1 _ rfl).2; rw [Nat.zero_add] at hw0 hw1; clear CW hown1 hb1)
                        | (go_at_call 16; refine (CI.out _).mono ?_; rintro e w' ⟨rfl, hw⟩; rw [hw]; clear hw w' CI)
                        | (go_at_call 35; refine (CAN.out _ _ _ hwd).mono ?_; rintro e w3 ⟨cs, hcs3, hone, rfl, hb3⟩; have HH3 := heap_alloc_new w3 (.cells #[.string ⟨#[]⟩, .slice none 0 0, .string ⟨#[]⟩] 42); have hin3 : (Tryd.prog.info? 42).map (·.size) = some cs.size := infoAc3.trans (congrArg some hcs3.symm); have hU := (hb3.alloc (.cells #[.string ⟨#[]⟩, .slice none 0 0, .string ⟨#[]⟩] 42)).setRow (g := w3.heap.size) (Below.size hb3) cs; obtain ⟨HH, RN⟩ := V0.blk W hU; unfold zG at HH; have HF := HFN.out _ #[.slice none 0 0, .slice none 0 0] hU; clear CAN hwd hb3 hU HFN)
                        | (refine wpList_store_row rfl 42 _ _ rfl w3.heap.size cs rfl rfl 42 _ HH3 hin3 hcs3.symm hone ?_; clear HH3)
                        | (refine wpList_load_mid rfl 25 _ rfl (W.heap.size + 1) 0 rfl _ _ RN hum rfl infoG2 ?_; clear RN)
                        | (refine wpList_store_row rfl 25 _ _ rfl W.heap.size #[.slice none 0 0, .slice none 0 0] rfl rfl 25 _ HH infoG rfl (by simp [Value.oneCell']) ?_))
                      (try simp only [Exit.inBlock, Exit.then])
                      refine bodyPost_ret (results3_row rfl _ _ _ 25 #[.slice none 0 0, .slice none 0 0] (0, 0) _ rfl (setRow_heap _ _ _ _ _ _ HH) hum rfl infoG) rfl ?_
                      rw [HRE.out]
                      exact ⟨by first | rfl | (congr 3 <;> go_num), HF⟩
                    · have q3' : ((A.length : Int) == 0) = false := by
                        rw [beq_eq_false_iff_ne]
                        intro e
                        exact q3 (List.length_eq_zero_iff.1 (by omega))
                      clear q1 q2 q3 hsrc
                      go_wp2_with (first
                        | (go_at_call 34; refine (CW.out _ (Bl.refl _)).mono ?_; rintro e w1 ⟨v1, rfl, hown1, hb1⟩; obtain ⟨wb, wc, rfl, hwd⟩ := wd_of HD.out hb1 hown1 HNE.out; have hcs := hwd.d.cs; have hca := hwd.d.ca; (try simp only [List.length_nil] at hcs hca); clear HD; have hw0 := (hwd.hv 0 _ rfl).2; have hw1 := (hwd.hv 1 _ rfl).2; rw [Nat.zero_add] at hw0 hw1; clear CW hown1 hb1)
                        | (go_at_call 16; refine (CI.out _).mono ?_; rintro e w' ⟨rfl, hw⟩; rw [hw]; clear hw w' CI)
                        | (go_at_call 35; refine (CAN.out _ _ _ hwd).mono ?_; rintro e w3 ⟨cs, hcs3, hone, rfl, hb3⟩; have HH3 := heap_alloc_new w3 (.cells #[.string ⟨#[]⟩, .slice none 0 0, .string ⟨#[]⟩] 42); have hin3 : (Tryd.prog.info? 42).map (·.size) = some cs.size := infoAc3.trans (congrArg some hcs3.symm); have hU := (hb3.alloc (.cells #[.string ⟨#[]⟩, .slice none 0 0, .string ⟨#[]⟩] 42)).setRow (g := w3.heap.size) (Below.size hb3) cs; obtain ⟨HH, RN⟩ := V0.blk W hU; unfold zG at HH; have HF := HFN.out _ #[.slice none 0 0, .slice none 0 0] hU; clear CAN hwd hb3 hU HFN)
                        | (refine wpList_store_row rfl 42 _ _ rfl w3.heap.size cs rfl rfl 42 _ HH3 hin3 hcs3.symm hone ?_; clear HH3)
                        | (refine wpList_load_mid rfl 25 _ rfl (W.heap.size + 1) 0 rfl _ _ RN hum rfl infoG2 ?_; clear RN)
                        | (refine wpList_store_row rfl 25 _ _ rfl W.heap.size #[.slice none 0 0, .slice none 0 0] rfl rfl 25 _ HH infoG rfl (by simp [Value.oneCell']) ?_))
                      (try simp only [Exit.inBlock, Exit.then])
                      refine bodyPost_ret (results3_row rfl _ _ _ 25 #[.slice none 0 0, .slice none 0 0] (0, 0) _ rfl (setRow_heap _ _ _ _ _ _ HH) hum rfl infoG) rfl ?_
                      rw [HRE.out]
                      exact ⟨by first | rfl | (congr 3 <;> go_num), HF⟩
                · rw [decide_eq_false (show ¬ k0 = [115, 111, 117, 114, 99, 101] from q1)] at hk0
                  clear q1 hsrc CI
                  go_wp2_with (first
                    | (go_at_call 34; refine (CW.out _ (Bl.refl _)).mono ?_; rintro e w1 ⟨v1, rfl, hown1, hb1⟩; obtain ⟨wb, wc, rfl, hwd⟩ := wd_of HD.out hb1 hown1 HNE.out; have hcs := hwd.d.cs; have hca := hwd.d.ca; (try simp only [List.length_nil] at hcs hca); clear HD; have hw0 := (hwd.hv 0 _ rfl).2; have hw1 := (hwd.hv 1 _ rfl).2; rw [Nat.zero_add] at hw0 hw1; clear CW hown1 hb1)
                    | (go_at_call 35; refine (CAN.out _ _ _ hwd).mono ?_; rintro e w3 ⟨cs, hcs3, hone, rfl, hb3⟩; have HH3 := heap_alloc_new w3 (.cells #[.string ⟨#[]⟩, .slice none 0 0, .string ⟨#[]⟩] 42); have hin3 : (Tryd.prog.info? 42).map (·.size) = some cs.size := infoAc3.trans (congrArg some hcs3.symm); have hU := (hb3.alloc (.cells #[.string ⟨#[]⟩, .slice none 0 0, .string ⟨#[]⟩] 42)).setRow (g := w3.heap.size) (Below.size hb3) cs; obtain ⟨HH, RN⟩ := V0.blk W hU; unfold zG at HH; have HF := HFN.out _ #[.slice none 0 0, .slice none 0 0] hU; clear CAN hwd hb3 hU HFN)
                    | (refine wpList_store_row rfl 42 _ _ rfl w3.heap.size cs rfl rfl 42 _ HH3 hin3 hcs3.symm hone ?_; clear HH3)
                    | (refine wpList_load_mid rfl 25 _ rfl (W.heap.size + 1) 0 rfl _ _ RN hum rfl infoG2 ?_; clear RN)
                    | (refine wpList_store_row rfl 25 _ _ rfl W.heap.size #[.slice none 0 0, .slice none 0 0] rfl rfl 25 _ HH infoG rfl (by simp [Value.oneCell']) ?_))
                  (try simp only [Exit.inBlock, Exit.then])
                  refine bodyPost_ret (results3_row rfl _ _ _ 25 #[.slice none 0 0, .slice none 0 0] (0, 0) _ rfl (setRow_heap _ _ _ _ _ _ HH) hum rfl infoG) rfl ?_
                  rw [HRE.out]
                  exact ⟨by first | rfl | (congr 3 <;> go_num), HF⟩
              · have h2' : ((l.length : Int) == 2) = false := by rw [beq_eq_false_iff_ne]; omega
                cases hra : rA l with
                | none =>
                  have HRE : Hid (R = .inr (n + 1, 24)) := HNO.out hra
                  replace CAN : Hid (∀ wb wc U, WD W (S, A) (.slice sa S.length sc) (.slice aa A.length ac) xs l wb wc U → Calls Tryd.prog 35 #[.slice (some ⟨wb, 0, none⟩) l.length wc] U (RNo (V0 W))) := CAN.out hra
                  clear HPR HPC hadd hra HNO h2 HCAN HML hsrc
                  go_wp2_with (first
                    | (go_at_call 34; refine (CW.out _ (Bl.refl _)).mono ?_; rintro e w1 ⟨v1, rfl, hown1, hb1⟩; obtain ⟨wb, wc, rfl, hwd⟩ := wd_of HD.out hb1 hown1 HNE.out; have hcs := hwd.d.cs; have hca := hwd.d.ca; (try simp only [List.length_nil] at hcs hca); clear HD; clear CW hown1 hb1)
                    | (go_at_call 35; refine (CAN.out _ _ _ hwd).mono ?_; rintro e w3 ⟨cs, hcs3, hone, rfl, hb3⟩; have HH3 := heap_alloc_new w3 (.cells #[.string ⟨#[]⟩, .slice none 0 0, .string ⟨#[]⟩] 42); have hin3 : (Tryd.prog.info? 42).map (·.size) = some cs.size := infoAc3.trans (congrArg some hcs3.symm); have hU := (hb3.alloc (.cells #[.string ⟨#[]⟩, .slice none 0 0, .string ⟨#[]⟩] 42)).setRow (g := w3.heap.size) (Below.size hb3) cs; obtain ⟨HH, RN⟩ := V0.blk W hU; unfold zG at HH; have HF := HFN.out _ #[.slice none 0 0, .slice none 0 0] hU; clear CAN hwd hb3 hU HFN)
                    | (refine wpList_store_row rfl 42 _ _ rfl w3.heap.size cs rfl rfl 42 _ HH3 hin3 hcs3.symm hone ?_; clear HH3)
                    | (refine wpList_load_mid rfl 25 _ rfl (W.heap.size + 1) 0 rfl _ _ RN hum rfl infoG2 ?_; clear RN)
                    | (refine wpList_store_row rfl 25 _ _ rfl W.heap.size #[.slice none 0 0, .slice none 0 0] rfl rfl 25 _ HH infoG rfl (by simp [Value.oneCell']) ?_))
                  (try simp only [Exit.inBlock, Exit.then])
                  refine bodyPost_ret (results3_row rfl _ _ _ 25 #[.slice none 0 0, .slice none 0 0] (0, 0) _ rfl (setRow_heap _ _ _ _ _ _ HH) hum rfl infoG) rfl ?_
                  rw [HRE.out]
                  exact ⟨by first | rfl | (congr 3 <;> go_num), HF⟩
                | some ta =>
                  obtain ⟨x, ins, code⟩ := ta
                  rw [hra] at hadd
                  have CAY : Hid (∀ wb wc U, WD W (S, A) (.slice sa S.length sc) (.slice aa A.length ac) xs l wb wc U → Calls Tryd.prog 35 #[.slice (some ⟨wb, 0, none⟩) l.length wc] U fun e w' => ∃ a' c', e = .returned (.tuple #[.agg #[.string (M.bs x), .slice a' ins.length c', .string (M.bs code)], .bool true]) ∧ w'.ownsRow U.heap.size 9 1 (.slice a' ins.length c') ins.length (ins.map encS) ∧ Bl U w') := fun wb wc U hu => by
                    refine raction_x l wb 0 wc _ (Bl.refl U) hu.hv hu.hc HML.out (by omega) (fun t a' c' w' h1 h3 h4 => ?_) (fun cs w' h1 _ _ _ => ?_)
                    · rw [hra] at h1
                      cases h1
                      exact ⟨a', c', rfl, h3, h4⟩
                    · rw [hra] at h1; cases h1
                  have hCA : Hid (∀ U o, Bl (V0 W) U → Bl (V0 W) (U.alloc o)) := fun U o h => h.alloc o
                  by_cases h12 : A.length = 12
                  · have haddN : RC.addL (S, A) l = none := by rw [hadd]; show (if A.length = 12 then (none : Option RC.Gr) else _) = none; rw [if_pos h12]
                    have HRE : Hid (R = .inr (n + 1, 24)) := by show _ = _; rw [← HPR.out, HPC.out, haddN]
                    have h12' : (12 : Int) ≤ (A.length : Int) := by omega
                    clear HPR HPC hadd haddN hra HNO h2 HCAN HML hsrc CAN
                    go_wp2_with (first
                      | (go_at_call 34; refine (CW.out _ (Bl.refl _)).mono ?_; rintro e w1 ⟨v1, rfl, hown1, hb1⟩; obtain ⟨wb, wc, rfl, hwd⟩ := wd_of HD.out hb1 hown1 HNE.out; have hcs := hwd.d.cs; have hca := hwd.d.ca; (try simp only [List.length_nil] at hcs hca); clear HD; clear CW hown1 hb1)
                      | (go_at_call 35; refine (CAY.out _ _ _ hwd).mono ?_; rintro e w3 ⟨a3, c3, rfl, hown3, hb3⟩; have hca3 : ∀ o, (w3.alloc o).cell? ⟨W.heap.size + 2, 1, none⟩ = some (.slice aa A.length ac) := fun o => (hwd.d.step (hb3.alloc o)).ca; have hU := (hwd.d.bl.step hb3).alloc (.cells #[.string (M.bs x), .slice a3 ins.length c3, .string (M.bs code)] 42); obtain ⟨HH, RN⟩ := V0.blk W hU; unfold zG at HH; have HF := HFN.out _ #[.slice none 0 0, .slice none 0 0] hU; clear CAY hwd hb3 hU HFN hown3)
                      | (refine wpList_load_mid rfl 25 _ rfl (W.heap.size + 1) 0 rfl _ _ RN hum rfl infoG2 ?_; clear RN)
                      | (refine wpList_store_row rfl 25 _ _ rfl W.heap.size #[.slice none 0 0, .slice none 0 0] rfl rfl 25 _ HH infoG rfl (by simp [Value.oneCell']) ?_))
                    (try simp only [Exit.inBlock, Exit.then])
                    refine bodyPost_ret (results3_row rfl _ _ _ 25 #[.slice none 0 0, .slice none 0 0] (0, 0) _ rfl (setRow_heap _ _ _ _ _ _ HH) hum rfl infoG) rfl ?_
                    rw [HRE.out]
                    exact ⟨by first | rfl | (congr 3 <;> go_num), HF⟩
                  · have haddY : RC.addL (S, A) l = some (S, A ++ [(x, ins, code)]) := by rw [hadd]; show (if A.length = 12 then none else _) = _; rw [if_neg h12]
                    have HRE : Hid (RC.P (S, A ++ [(x, ins, code)]) (n + 1 + 1) rest = R) := by show _ = _; rw [← HPR.out, HPC.out, haddY]
                    have HCN : Hid (RC.can (S, A ++ [(x, ins, code)]) = true) := (RC.addL_some _ _ _ HCAN.out haddY).1
                    have h12' : ¬ (12 : Int) ≤ (A.length : Int) := by omega
                    clear HPR HPC hadd haddY hra HNO h2 HCAN HML hsrc CAN HFN
                    have FIN : Hid (∀ w1 w3 wb wc a3 c3 o o' w8 g cap', WD W (S, A) (.slice sa S.length sc) (.slice aa A.length ac) xs l wb wc w1 → Bl w1 w3 → w3.ownsRow w1.heap.size 9 1 (.slice a3 ins.length c3) ins.length (ins.map encS) → w8.ownsRow (W.heap.size + 3) 42 3 (.slice (some ⟨g, 0, none⟩) (A.length + 1) cap') (A.length + 1) (flatA A xs ++ acL (x, ins, code) a3 c3) → ((w3.alloc o).alloc o').grownBy w8 (Value.slice aa A.length ac).ownBlock →
                        DG (V0 W) (W.heap.size + 3) (W.heap.size + 2) (S, A ++ [(x, ins, code)]) (.slice sa S.length sc) (.slice (some ⟨g, 0, none⟩) (A.length + 1) cap') (xs ++ [(a3, c3)]) (w8.setCell ⟨W.heap.size + 2, 1, none⟩ (.slice (some ⟨g, 0, none⟩) (A.length + 1) cap')) ∧ w8.cell? ⟨W.heap.size + 2, 1, none⟩ = some (.slice aa A.length ac) ∧ w8.frozen? ⟨W.heap.size + 2, 1, none⟩ = false) := fun w1 w3 wb wc a3 c3 o o' w8 g cap' hwd hb3 hown3 ho hg => by
                      have D3 := hwd.d.step hb3
                      have hb9 : Bl w3 ((w3.alloc o).alloc o') := ((Bl.refl w3).alloc o).alloc o'
                      have h1 := D3.step hb9
                      have hne : some (W.heap.size + 2) ≠ (Value.slice aa A.length ac).ownBlock := fun e => by have := (TA.owns_ge h1.a e.symm).1; omega
                      have hblk : w8.heap[W.heap.size + 2]? = some (.cells #[.slice sa S.length sc, .slice aa A.length ac] 25 (0, 0)) := by rw [hg.block _ (TA.lt_heap h1.blk) hne]; exact h1.blk
                      exact ⟨D3.appA hb9 (x, ins, code) a3 c3 (ownsRow_base hown3 hwd.d.sz) _ ho hg, by rw [Lib.cell_of_heap hblk]; rfl, by simp [World.frozen?, hblk]⟩
                    have OWN : Hid (∀ w1 w3 wb wc o o', WD W (S, A) (.slice sa S.length sc) (.slice aa A.length ac) xs l wb wc w1 → Bl w1 w3 → ((w3.alloc o).alloc o').ownsRow (W.heap.size + 3) 42 3 (.slice aa A.length ac) A.length (flatA A xs) ∧ W.heap.size + 3 ≤ ((w3.alloc o).alloc o').heap.size) := fun w1 w3 wb wc o o' hwd hb3 => by
                      have D4 := hwd.d.step ((hb3.alloc o).alloc o')
                      exact ⟨D4.a, D4.sz⟩
                    have NEWS : Hid (∀ (w3 : World) (o : Obj) (a3 : Option Addr) (c3 j : Nat) (u : Value), (acL (x, ins, code) a3 c3)[j]? = some u → ((w3.alloc o).alloc (.cells #[.string (M.bs x), .slice a3 ins.length c3, .string (M.bs code)] 42)).cell? ((⟨w3.heap.size + 1, 0, none⟩ : Addr).add j) = some u) := fun w3 o a3 c3 j u hu => by
                      have h := World.news_of_block (heap_alloc_new (w3.alloc o) (.cells #[.string (M.bs x), .slice a3 ins.length c3, .string (M.bs code)] 42)) j u hu
                      rwa [show (w3.alloc o).heap.size = w3.heap.size + 1 by simp] at h
                    go_wp2_with (first
                      | (go_at_call 34; refine (CW.out _ (Bl.refl _)).mono ?_; rintro e w1 ⟨v1, rfl, hown1, hb1⟩; obtain ⟨wb, wc, rfl, hwd⟩ := wd_of HD.out hb1 hown1 HNE.out; have hcs := hwd.d.cs; have hca := hwd.d.ca; (try simp only [List.length_nil] at hcs hca); clear HD; clear CW hown1 hb1)
                      | (go_at_call 35; refine (CAY.out _ _ _ hwd).mono ?_; rintro e w3 ⟨a3, c3, rfl, hown3, hb3⟩; have hca3 : ∀ o, (w3.alloc o).cell? ⟨W.heap.size + 2, 1, none⟩ = some (.slice aa A.length ac) := fun o => (hwd.d.step (hb3.alloc o)).ca; clear CAY)
                      | (refine wl_appA rfl _ _ rfl (W.heap.size + 3) A.length (flatA A xs) _ rfl (OWN.out _ _ _ _ _ _ hwd hb3).1 (w3.heap.size + 1) (x, ins, code) a3 c3 1 rfl (NEWS.out _ _ _ _) (OWN.out _ _ _ _ _ _ hwd hb3).2 (by omega) ?_; intro g cap' w8 hown8 hgrow8; obtain ⟨HD9, d3, d4⟩ := FIN.out _ _ _ _ _ _ _ _ _ _ _ hwd hb3 hown3 hown8 hgrow8; have HD8 : Hid (DG (V0 W) (W.heap.size + 3) (W.heap.size + 2) (S, A ++ [(x, ins, code)]) (.slice sa S.length sc) (.slice (some ⟨g, 0, none⟩) (A.length + 1) cap') (xs ++ [(a3, c3)]) (w8.setCell ⟨W.heap.size + 2, 1, none⟩ (.slice (some ⟨g, 0, none⟩) (A.length + 1) cap'))) := HD9; clear HD9 FIN OWN NEWS hown8 hgrow8 hwd hb3 hown3))
                    go_roundw
                    case rel => exact ⟨rest, (S, A ++ [(x, ins, code)]), n + 1, _, _, _, rfl, by go_num, by omega, HRE.out, HCN.out, HD8.out⟩
                    case measure => simp [strLen, M.bs_size]; omega
          · have HK2 : Hid ((10 : UInt8) ∉ t.take (k + 1)) := by
              show _ ∉ _
              rw [List.take_add_one, hg]
              simp only [Option.toList_some, List.mem_append, List.mem_singleton, not_or]
              exact ⟨HK.out, fun e => h10 e.symm⟩
            have hcb : ((c.toNat : Int) != 10) = true := by
              rw [bne_iff_ne]
              intro e
              exact h10 (UInt8.toNat_inj.1 (by rw [show (10 : UInt8).toNat = 10 from rfl]; omega))
            clear HK h10 hg hc
            go_wp2_with fail
            go_round
            case rel => exact ⟨k + 1, by omega, by go_num, HK2.out⟩
            case measure => first | (simp [intOf]; done) | (simp [intOf]; omega)
        · obtain rfl : k = t.length := by omega
          have hcn : RC.cutL 10 t = none := RC.cutL_not 10 t (by have := HK.out; rwa [List.take_length] at this)
          have HRE : Hid (R = .inr (n + 1, 3)) := HPR.out.symm.trans (RC.P_end (S, A) (n + 1) t hcn HT.out)
          obtain ⟨HH, RN⟩ := V0.blk W HD.out.bl
          have HF := HFN.out _ #[.slice none 0 0, .slice none 0 0] HD.out.bl
          clear HPR HT HK hcn HCAN HD HFN
          unfold zG at HH
          go_wp2_with (first
            | (refine wpList_load_mid rfl 25 _ rfl (W.heap.size + 1) 0 rfl _ _ RN hum rfl infoG2 ?_; clear RN)
            | (refine wpList_store_row rfl 25 _ _ rfl W.heap.size #[.slice none 0 0, .slice none 0 0] rfl rfl 25 _ HH infoG rfl (by simp [Value.oneCell']) ?_))
          (try simp only [Exit.inBlock, Exit.then])
          refine bodyPost_ret (results3_row rfl _ _ _ 25 #[.slice none 0 0, .slice none 0 0] (0, 0) _ rfl (setRow_heap _ _ _ _ _ _ HH) hum rfl infoG) rfl ?_
          rw [HRE.out]
          exact ⟨by first | rfl | (congr 3 <;> go_num), HF⟩
end Go.Proofs.YtgjpcddjfmdobaaDoor
