/- OvenNames: the walk. -/
import Derived.Test.YtjbffhdccgmfpaaGreatDoorNM0
import Derived.Test.YtjbffhdccgmfpaaGreatDoorAw9
import Derived.Test.YtjbffhdccgmfpaaGreatDoorGre9
import Derived.Test.YtjbffhdccgmfpaaGreatDoorRegT
import Derived.Deep.CutBlock
import Derived.Deep.DeepCutAuto
namespace Go.Proofs.YtjbffhdccgmfpaaGreatDoor
open Go.RowKit RN
set_option linter.unusedVariables false
set_option linter.unusedSimpArgs false

set_option maxRecDepth 8000 in
set_option maxHeartbeats 16000000 in
theorem names_walk (g : RC.Gr) (l : List O.So) (sa : Option Addr) (sc : Nat) (aa : Option Addr) (ac : Nat) (a : Option Addr) (c : Nat) {w W : World} (hG : GW w) (hT : Tab w) (HB : Bl w W) (hg : GA W.heap.size W g sa sc aa ac) (hk : grOk g) (hv : RS lyS W a l) (hl : l.length ≤ maxLen) (hln : ∀ s ∈ l, s.1.length ≤ maxLen ∧ s.2.length ≤ maxLen) :
    Calls Tryz.prog 4 #[.agg #[.slice sa g.1.length sc, .slice aa g.2.length ac], .slice a l.length c] W fun e w' => e = .returned (.bool true) ∧ Bl w w' := by
  have HWZ : Hid (Bl W (W.alloc (.cells #[.slice sa g.1.length sc, .slice aa g.2.length ac] 25))) := (Bl.refl W).alloc _
  have CA : Hid (Calls Tryz.prog 5 #[] (W.alloc (.cells #[.slice sa g.1.length sc, .slice aa g.2.length ac] 25)) fun e w' => e = .returned (.bool true) ∧ Bl (W.alloc (.cells #[.slice sa g.1.length sc, .slice aa g.2.length ac] 25)) w') := awake_9 (hG.below (HB.step HWZ.out) hG.z) (hT.below (HB.step HWZ.out)) (Bl.refl _)
  have HFA : Hid (∀ U, Bl (W.alloc (.cells #[.slice sa g.1.length sc, .slice aa g.2.length ac] 25)) U → U.cell? ⟨W.heap.size, 0, none⟩ = some (.slice sa g.1.length sc) ∧ U.cell? ⟨W.heap.size, 1, none⟩ = some (.slice aa g.2.length ac)) := fun U hU => by
    have b0 := heap_alloc_new W (.cells #[.slice sa g.1.length sc, .slice aa g.2.length ac] 25)
    have u0 := Below.block hU _ (TA.lt_heap b0)
    rw [b0] at u0
    exact ⟨by rw [Lib.cell_of_heap u0]; rfl, by rw [Lib.cell_of_heap u0]; rfl⟩
  have CG : Hid (∀ U, Bl (W.alloc (.cells #[.slice sa g.1.length sc, .slice aa g.2.length ac] 25)) U → Calls Tryz.prog 6 #[.agg #[.slice sa g.1.length sc, .slice aa g.2.length ac], .slice a l.length c] U fun e w' => e = .returned (.bool (greatB g l)) ∧ Bl (W.alloc (.cells #[.slice sa g.1.length sc, .slice aa g.2.length ac] 25)) w') := fun U hU => great_x g sa sc aa ac hU (hg.bl (HWZ.out.step hU)) hk l a c (hv.bl (HWZ.out.step hU)) hln hl
  have FIN : Hid (∀ U, Bl (W.alloc (.cells #[.slice sa g.1.length sc, .slice aa g.2.length ac] 25)) U → Bl w U) := fun U hU => (HB.step HWZ.out).step hU
  cases hgr : greatB g l with
  | true =>
    rw [hgr] at CG
    clear hG hT HB hg hk hv hln
    go_enter Tryz.func4, Tryz.ntmps4
    go_wp2_with (first
      | go_skip
      | (go_at_call 5; refine CA.out.mono ?_; clear CA; rintro e w1 ⟨rfl, H1⟩; obtain ⟨f0, f1⟩ := HFA.out w1 H1)
      | (go_at_call 6; refine (CG.out w1 H1).mono ?_; clear CG; rintro e w2 ⟨rfl, H2⟩))
    go_ret
    exact ⟨rfl, FIN.out _ H2⟩
  | false =>
    rw [hgr] at CG
    obtain ⟨n1, n2, n3, n4, n5, n6⟩ := great_not hgr
    have CB : Hid (∀ U, Bl (W.alloc (.cells #[.slice sa g.1.length sc, .slice aa g.2.length ac] 25)) U → Calls Tryz.prog 7 #[.agg #[.slice sa g.1.length sc, .slice aa g.2.length ac], .slice a l.length c] U (BuP g l U)) := fun U hU =>
      Build_x g l sa sc aa ac a c hG hT (FIN.out U hU) (hg.bl (HWZ.out.step hU)) hk (hv.bl (HWZ.out.step hU)) (by omega) (fun s hs => (hln s hs).1) (fun s hs => by have := (n6 s hs).2; omega)
    have CK : Hid (∀ U, Bl (W.alloc (.cells #[.slice sa g.1.length sc, .slice aa g.2.length ac] 25)) U → Calls Tryz.prog 9 #[.agg #[.slice sa g.1.length sc, .slice aa g.2.length ac], .slice a l.length c] U (KeP g l U)) := fun U hU =>
      Keys_x g l sa sc aa ac a c hG hT (FIN.out U hU) (hg.bl (HWZ.out.step hU)) hk (hv.bl (HWZ.out.step hU)) (by omega) (fun s hs => (hln s hs).1) (fun s hs => by have := (n6 s hs).2; omega)
    by_cases h0 : O.err g l = 0
    · have HOK : Hid (O.Ok g l) := O.err_zero.1 h0
      have hle := HOK.out.good.le
      have CB2 : Hid (∀ U, Bl (W.alloc (.cells #[.slice sa g.1.length sc, .slice aa g.2.length ac] 25)) U → Calls Tryz.prog 7 #[.agg #[.slice sa g.1.length sc, .slice aa g.2.length ac], .slice a l.length c] U fun e w' => ∃ a5 c5, e = .returned (.tuple #[.slice a5 g.2.length c5, .int .i64 0]) ∧ RS lyB w' a5 (O.build g l) ∧ Bl U w') := fun U hU => by
        refine (CB.out U hU).mono ?_
        rintro e w' (⟨h, _⟩ | ⟨a5, c5, _, rfl, h1, h2⟩)
        · exact absurd h0 h
        · exact ⟨a5, c5, rfl, h1, h2⟩
      have CK2 : Hid (∀ U, Bl (W.alloc (.cells #[.slice sa g.1.length sc, .slice aa g.2.length ac] 25)) U → Calls Tryz.prog 9 #[.agg #[.slice sa g.1.length sc, .slice aa g.2.length ac], .slice a l.length c] U fun e w' => ∃ a5 c5, e = .returned (.tuple #[.slice a5 g.2.length c5, .int .i64 0]) ∧ RS lyD w' a5 (O.keys g l) ∧ Bl U w') := fun U hU => by
        refine (CK.out U hU).mono ?_
        rintro e w' (⟨h, _⟩ | ⟨a5, c5, _, rfl, h1, h2⟩)
        · exact absurd h0 h
        · exact ⟨a5, c5, rfl, h1, h2⟩
      have HLV : Hid (∀ U, Bl (W.alloc (.cells #[.slice sa g.1.length sc, .slice aa g.2.length ac] 25)) U → RS lyS U a l) := fun U hU => hv.bl (HWZ.out.step hU)
      have HGV : Hid (∀ U, Bl (W.alloc (.cells #[.slice sa g.1.length sc, .slice aa g.2.length ac] 25)) U → GA U.heap.size U g sa sc aa ac) := fun U hU => hg.bl (HWZ.out.step hU)
      have HGW : Hid (GW w ∧ Tab w) := ⟨hG, hT⟩
      have HN3 : Hid (∀ s ∈ g.1, s.length ≤ 200) := n3
      have HN4 := hidN n4
      have HN6 := hidN n6
      clear hG hT HB hg hk hv hln n3 n4 n6 CB CK
      go_enter Tryz.func4, Tryz.ntmps4
      go_upto_region 9 with (first
        | go_skip
        | (go_at_call 5; refine CA.out.mono ?_; clear CA; rintro e w1 ⟨rfl, H1⟩; obtain ⟨f0, f1⟩ := HFA.out w1 H1)
        | (go_at_call 6; refine (CG.out w1 H1).mono ?_; clear CG; rintro e w2 ⟨rfl, H2⟩; obtain ⟨g0, g1⟩ := HFA.out w2 H2)
        | (go_at_call 7; refine (CB2.out w2 H2).mono ?_; clear CB2; rintro e w3 ⟨a5, c5, rfl, hbu, HB3⟩; have H3 := H2.step HB3; obtain ⟨k0, k1⟩ := HFA.out w3 H3)
        | (go_at_call 9; refine (CK2.out w3 H3).mono ?_; clear CK2; rintro e w4 ⟨a6, c6, rfl, hke, HB4⟩; have H4 := H3.step HB4))
      have HBU : Hid (RS lyB w4 a5 (O.build g l) ∧ RS lyD w4 a6 (O.keys g l)) := ⟨hbu.bl HB4, hke⟩
      have HZ4 := hidN H4
      clear f0 f1 g0 g1 k0 k1 hbu hke H1 H2 H3 H4 HB3 HB4
      have HNS := hidN (NS.new w4)
      go_wp2_with fail
      generalize (w4.alloc (.cells #[.slice none 0 0, .slice none 0 0] 25)) = w5 at HNS ⊢
      go_loopw [10, 11] (fun u10 _ wr => ∃ (k : Nat) (u : Value), k ≤ g.1.length ∧ u10 = .int .i64 k ∧ (∀ i x, i < k → g.1[i]? = some x → x.length ≤ 7) ∧ NS w4 ((g.1.take k).map qn) [] [] u (.slice none 0 0) wr) (fun u10 _ _ => g.1.length - (intOf u10).toNat)
      case atStart => exact ⟨0, _, Nat.zero_le _, rfl, fun i x h => by omega, HNS.out⟩
      case round =>
        obtain ⟨k, u, hkl, rfl, hpre, hns⟩ := hrel
        clear HNS
        have HP := hidN hpre
        have HNS := hidN hns
        have HZR := hidN (HZ4.out.step hns.bl)
        obtain ⟨f0, f1⟩ := HFA.out wr HZR.out
        clear hpre hns
        by_cases h1 : k < g.1.length
        · have h1i : (k : Int) < (g.1.length : Int) := by omega
          obtain ⟨x, hx⟩ : ∃ x, g.1[k]? = some x := ⟨g.1[k], List.getElem?_eq_getElem h1⟩
          obtain ⟨b, off, rfl, hcell⟩ := (Strs.sa (HGV.out wr HZR.out).s).2 k x hx
          have hxl := HN3.out x (List.mem_of_getElem? hx)
          have hz1 := M.bs_size x
          have hz2 := M.bs_size (qn x)
          have hz3 := qn_len x
          have hap := q_bs x
          by_cases h8 : 8 < (qn x).length
          · have h8i : ((qn x).length : Int) > 8 := by omega
            clear hx
            go_wp2_with (first | go_skip)
            go_ret
            exact ⟨rfl, FIN.out _ HZR.out⟩
          · have h8i : ¬ (((qn x).length : Int) > 8) := by omega
            have HE : Hid (∀ i y, i < k + 1 → g.1[i]? = some y → y.length ≤ 7) := fun i y hi hy => by
              rcases (by omega : i < k ∨ i = k) with h' | rfl
              · exact HP.out i y h' hy
              · rw [hx] at hy; cases hy; omega
            have HTK := hidN (take_q1 hx)
            have hlk : ((g.1.take k).map qn).length ≤ 30 := by simp; omega
            obtain ⟨ua, uc, rfl⟩ := own_shape HNS.out.s
            obtain ⟨g0, g1, g2⟩ := HNS.out.c
            clear hx HP
            generalize (g.1.take k).map qn = KS at *
            go_wp2_with (first
              | go_skip
              | (refine wl_app1G lyT (w := w4) (W := wr) 9 22 (.string ⟨#[]⟩) 16 undS infoS rfl (by omega) rfl _ _ rfl KS.length KS rfl (qn x) _ rfl HNS.out.bl HNS.out.s rfl (by omega) ?_ _ rfl rfl; intro a' c' w8 h8' hb8 hg8; have HX8 := hidN (HNS.out.src rfl (by rw [List.length_append]; exact h8') hb8 hg8); clear h8' hb8 hg8 g0 g1 g2; have g0 : w8.cell? ⟨w4.heap.size, 0, none⟩ = some (.slice ua KS.length uc) := (by rw [Lib.cell_of_heap HX8.out.1]; rfl); have g1 : w8.frozen? ⟨w4.heap.size, 0, none⟩ = false := (by simp [World.frozen?, HX8.out.1]); have g2 : w4.heap.size < w8.heap.size := TA.lt_heap HX8.out.1))
            go_roundw
            case rel => exact ⟨k + 1, _, by omega, by go_num, HE.out, by rw [HTK.out]; exact HX8.out.2⟩
            case measure => simp [intOf]; omega
        · have hkk : k = g.1.length := by omega
          have h1d : decide ((k : Int) < (g.1.length : Int)) = false := decide_eq_false (by omega)
          have HS7 : Hid (∀ s ∈ g.1, s.length ≤ 7) := fun s hs => by
            obtain ⟨i, hi, e⟩ := List.getElem_of_mem hs
            exact HP.out i s (by omega) (by rw [← e]; exact List.getElem?_eq_getElem hi)
          have HNT : Hid (NS w4 (g.1.map qn) [] [] u (.slice none 0 0) wr) := by
            have := HNS.out
            rw [hkk, List.take_length] at this
            exact this
          clear HP HNS hkk
          obtain ⟨fs, hum⟩ := undAc
          go_wp2_with (first | go_skip)
          go_loopw [12, 13, 14, 15] (fun u12 _ _ _ wq => ∃ (j : Nat) (v : Value) (ys : List (Option Addr × Nat)), j ≤ g.2.length ∧ u12 = .int .i64 j ∧ (∀ i x, i < j → g.2[i]? = some x → x.1.length ≤ 7) ∧ NS w4 (g.1.map qn) ((g.2.take j).map qa) ys u v wq) (fun u12 _ _ _ _ => g.2.length - (intOf u12).toNat)
          case atStart => exact ⟨0, _, [], Nat.zero_le _, rfl, fun i x h => by omega, HNT.out⟩
          case round =>
            clear f0 f1 HZR HNT
            obtain ⟨wo, hwo⟩ : ∃ wo, wo = wr := ⟨_, rfl⟩
            subst hwo
            obtain ⟨j, v, ys, hjl, rfl, hpre, hns⟩ := hrel
            have HP := hidN hpre
            have HNS := hidN hns
            have HZR := hidN (HZ4.out.step hns.bl)
            obtain ⟨f0, f1⟩ := HFA.out _ HZR.out
            clear hpre hns
            by_cases h2 : j < g.2.length
            · have h2i : (j : Int) < (g.2.length : Int) := by omega
              obtain ⟨t, ht⟩ : ∃ t, g.2[j]? = some t := ⟨g.2[j], List.getElem?_eq_getElem h2⟩
              obtain ⟨b, off, x, xc, rfl, hb, hr, hs⟩ := (HGV.out _ HZR.out).a j t ht
              obtain ⟨n, ins, code⟩ := t
              obtain ⟨o1, o2, o3, o4⟩ := HN4.out _ (List.mem_of_getElem? ht)
              simp only [] at o1 o2 o3 hs
              have hz1 := M.bs_size n
              have hz2 := M.bs_size (qn n)
              have hz3 := qn_len n
              have hap := q_bs n
              have HI : Hid (∀ U, Bl wo U → SA U x ins) := fun U h => (Strs.sa (hs.bl h)).2
              have HO4 := hidN o4
              have hi := infoAc (n, ins, code) x xc
              have HR : Hid (wo.rangeAt b (off + j * 3) (acL (n, ins, code) x xc)) := hr
              unfold acL at hi HR
              simp only [] at hi HR
              have HTK := hidN (take_q2 ht)
              have HE : Hid ((qn n).length ≤ 8 → ∀ i y, i < j + 1 → g.2[i]? = some y → y.1.length ≤ 7) := fun h i y hi hy => by
                rcases (by omega : i < j ∨ i = j) with h' | rfl
                · exact HP.out i y h' hy
                · rw [ht] at hy; cases hy; simp only []; omega
              clear ht hr hs o4 HP
              by_cases h8 : 8 < (qn n).length
              · have h8i : ((qn n).length : Int) > 8 := by omega
                clear HE HTK
                go_wp2_with (first | go_skip | (refine wpList_load_mid rfl 43 _ rfl b (off + j * 3) rfl _ _ HR.out hum rfl hi ?_; clear HR))
                go_ret
                exact ⟨rfl, FIN.out _ (HZR.out.step ((Bl.refl wo).alloc _))⟩
              · have h8i : ¬ (((qn n).length : Int) > 8) := by omega
                go_upto_region 24 with (first | go_skip | (refine wpList_load_mid rfl 43 _ rfl b (off + j * 3) rfl _ _ HR.out hum rfl hi ?_; clear HR))
                have HIN := hidN (INq.new wo (qn n) code x ins.length xc)
                go_wp2_with (first | go_skip)
                clear f0 f1
                have HE2 := hidN (HE.out (by omega))
                clear HE
                go_loopw [14, 15] (fun u14 u15 wx => ∃ q : Nat, q ≤ ins.length ∧ u15 = .int .i64 q ∧ INq wo (qn n) code x ins.length xc ((ins.take q).map qn) u14 wx) (fun _ u15 _ => ins.length - (intOf u15).toNat)
                case atStart => exact ⟨0, Nat.zero_le _, rfl, HIN.out⟩
                case round =>
                  obtain ⟨q, hql, rfl, hin⟩ := hrel
                  clear HIN
                  have HIN := hidN hin
                  obtain ⟨i0, i1, i2⟩ := hin.c
                  clear hin
                  by_cases h3 : q < ins.length
                  · have h3i : (q : Int) < (ins.length : Int) := by omega
                    obtain ⟨s, hs⟩ : ∃ s, ins[q]? = some s := ⟨ins[q], List.getElem?_eq_getElem h3⟩
                    obtain ⟨b2, off2, rfl, hcell⟩ := HI.out wr HIN.out.bl q s hs
                    have hsl := HO4.out s (List.mem_of_getElem? hs)
                    have hy1 := M.bs_size s
                    have hy2 := M.bs_size (qn s)
                    have hy3 := qn_len s
                    have hap2 := q_bs s
                    have HTI := hidN (take_q1 hs)
                    have hlq : ((ins.take q).map qn).length ≤ 30 := by simp; omega
                    obtain ⟨ra, rc, rfl⟩ := own_shape HIN.out.s
                    clear hs
                    generalize (ins.take q).map qn = KQ at *
                    go_wp2_with (first
                      | go_skip
                      | (refine wl_app1G lyT (w := wo) (W := wr) 9 22 (.string ⟨#[]⟩) 16 undS infoS rfl (by omega) rfl _ _ rfl KQ.length KQ rfl (qn s) _ rfl HIN.out.bl HIN.out.s rfl (by omega) ?_ _ rfl rfl; intro a' c' w8 h8' hb8 hg8; have HX8 := hidN (HIN.out.app (by rw [List.length_append]; exact h8') hb8 hg8); clear h8' hb8 hg8))
                    go_roundw
                    case rel => exact ⟨q + 1, by omega, by go_num, by rw [HTI.out]; exact HX8.out⟩
                    case measure => simp [intOf]; omega
                  · have h3d : decide ((q : Int) < (ins.length : Int)) = false := decide_eq_false (by omega)
                    have hqq : (ins.take q).map qn = ins.map qn := by rw [List.take_of_length_le (by omega)]
                    rw [hqq] at HIN
                    obtain ⟨ra, rc, rfl⟩ := own_shape HIN.out.s
                    have hml : (ins.map qn).length = ins.length := List.length_map _
                    rw [hml] at HIN
                    obtain ⟨p1, p2, p3⟩ := HIN.out.told
                    have HNU := hidN (HNS.out.grow p1)
                    have HR2 := hidN p2
                    have HIO : Hid (IO w4.heap.size (wr.setCell ⟨wo.heap.size, 1, none⟩ (.slice ra ins.length rc)) ra rc (ins.map qn)) := Or.inr (by rw [hml] at p3 ⊢; exact ownsRow_base p3 (Below.size HNS.out.bl))
                    have HZU := hidN (HZR.out.step p1)
                    clear p1 p2 p3 HNS HIN hqq
                    go_upto_region 30 with (first | go_skip)
                    clear i0 i1 i2
                    generalize wr.setCell ⟨wo.heap.size, 1, none⟩ (.slice ra ins.length rc) = U at *
                    obtain ⟨va, vc, rfl⟩ := own_shape HNU.out.a.own
                    obtain ⟨g0, g1, g2⟩ := HNU.out.c
                    have hi2 := infoAcN (qn n) code (.slice ra ins.length rc)
                    have hlA : ((g.2.take j).map qa).length ≤ 30 := by simp; omega
                    generalize (g.2.take j).map qa = KA at *
                    go_wp2_with (first
                      | go_skip
                      | (refine wpList_load_mid rfl 43 _ rfl wo.heap.size 0 rfl _ _ HR2.out hum rfl hi2 ?_; clear HR2)
                      | (refine wl_appX rfl _ _ rfl w4.heap.size w4.heap.size KA ys (.slice va KA.length vc) rfl (HNU.out.a.bl ((Bl.refl U).alloc _)) [(qn n, ins.map qn, code)] [(ra, rc)] U.heap.size 0 1 1 rfl rfl (by have := news_one U (qn n, ins.map qn, code) ra rc; rw [hml] at this; exact this) rfl (io_one (t := (qn n, ins.map qn, code)) (HIO.out.bl ((Bl.refl U).alloc _) (by omega))) (by simp) (by simp; omega) ?_; intro a' c' w8 h8' hg8; have HX8 := hidN ((HNU.out.grow ((Bl.refl U).alloc _)).act h8' hg8); clear h8' hg8 g0 g1 g2; have g0 : w8.cell? ⟨w4.heap.size, 1, none⟩ = some (.slice va KA.length vc) := (by rw [Lib.cell_of_heap HX8.out.1]; rfl); have g1 : w8.frozen? ⟨w4.heap.size, 1, none⟩ = false := (by simp [World.frozen?, HX8.out.1]); have g2 : w4.heap.size < w8.heap.size := TA.lt_heap HX8.out.1))
                    go_roundw
                    case rel => exact ⟨j + 1, .slice a' (KA.length + 1) c', ys ++ [(ra, rc)], by omega, by go_num, HE2.out, by rw [HTK.out]; have h := HX8.out.2; rw [List.length_append] at h; exact h⟩
                    case measure => simp [intOf]; omega
            · have h2d : decide ((j : Int) < (g.2.length : Int)) = false := decide_eq_false (by omega)
              have HA7 : Hid (∀ t ∈ g.2, t.1.length ≤ 7) := fun s hs => by
                obtain ⟨i, hi, e⟩ := List.getElem_of_mem hs
                exact HP.out i s (by omega) (by rw [← e]; exact List.getElem?_eq_getElem hi)
              have HNT : Hid (NS w4 (g.1.map qn) (g.2.map qa) ys u v wo) := by
                have := HNS.out
                rw [List.take_of_length_le (by omega)] at this
                exact this
              clear HP HNS
              have HOQ := hidN (ok_q HOK.out HS7.out HA7.out)
              have HSM := hidN (SM.new wo l)
              have hl30 : l.length ≤ 30 := n5
              obtain ⟨fsS, humS⟩ : ∃ fs, Tryz.prog.underlying 45 = some (.struct fs) := ⟨_, Tryz.underlying45⟩
              go_wp2_with (first | go_skip)
              clear f0 f1
              go_loopw [16, 17, 18] (fun u16 u17 _ wx => ∃ (k : Nat) (z : Int), k ≤ l.length ∧ z = (k : Int) - 1 ∧ u17 = .int .i64 z ∧ SM wo l k u16 wx) (fun _ u17 _ _ => (intOf u17 + 1).toNat)
              case atStart => exact ⟨l.length, _, Nat.le_refl _, rfl, by go_num, HSM.out⟩
              case round =>
                obtain ⟨k, z, hkl, hz, rfl, hsm⟩ := hrel
                clear HSM
                have HSM := hidN hsm
                clear hsm
                rcases k with _ | k
                · obtain rfl : z = -1 := by omega
                  obtain ⟨ma, mc, hmm, hms⟩ := owns_rs lyS HSM.out.m
                  have hqn : (ql l).length = l.length := by simp [ql]
                  have hq0 : ql (l.drop 0) = ql l := rfl
                  rw [hq0] at hms
                  rw [hq0, hqn] at hmm
                  subst hmm
                  have HNR := hidN (HNT.out.grow HSM.out.bl)
                  obtain ⟨sa2, sc2, aa2, ac2, hu2, hv2, hga⟩ := HNR.out.ga
                  rw [List.length_map] at hu2 hv2
                  subst hu2 hv2
                  obtain ⟨g0, g1, g2⟩ := HNR.out.c
                  have HZW := hidN (HZR.out.step HSM.out.bl)
                  have HB4R := hidN HNR.out.bl
                  have HGK : Hid (grOk (qg g)) := by
                    refine ⟨by unfold maxLen; simp [qg]; omega, fun s hs => ?_, by unfold maxLen; simp [qg]; omega, fun t ht => ?_⟩
                    · obtain ⟨x, hx, rfl⟩ := List.mem_map.1 hs
                      have := HN3.out x hx
                      unfold maxLen; rw [qn_len]; omega
                    · obtain ⟨x, hx, rfl⟩ := List.mem_map.1 ht
                      obtain ⟨y1, y2, y3, y4⟩ := HN4.out x hx
                      refine ⟨by show (qn x.1).length ≤ maxLen; unfold maxLen; rw [qn_len]; omega, by show (x.2.1.map qn).length ≤ maxLen; unfold maxLen; rw [List.length_map]; omega, fun s hs => ?_, by show x.2.2.length ≤ maxLen; unfold maxLen; omega⟩
                      obtain ⟨z, hz, rfl⟩ := List.mem_map.1 (show s ∈ x.2.1.map qn from hs)
                      have := y4 z hz
                      unfold maxLen; rw [qn_len]; omega
                  have HLQ : Hid (∀ s ∈ ql l, s.1.length ≤ maxLen ∧ s.2.length ≤ 1000000) := fun s hs => by
                    unfold ql at hs
                    rw [List.mem_reverse] at hs
                    obtain ⟨x, hx, rfl⟩ := List.mem_map.1 hs
                    have := HN6.out x hx
                    exact ⟨by show (qn x.1).length ≤ maxLen; unfold maxLen; rw [qn_len]; omega, by show x.2.length ≤ _; omega⟩
                  have CB3 : Hid (∀ U c5, Bl wr U → Calls Tryz.prog 7 #[.agg #[.slice sa2 g.1.length sc2, .slice aa2 g.2.length ac2], .slice ma l.length c5] U fun e w' => ∃ a7 c7, e = .returned (.tuple #[.slice a7 g.2.length c7, .int .i64 0]) ∧ RS lyB w' a7 (O.build (qg g) (ql l)) ∧ Bl U w') := fun U c5 hU => by
                    have h := Build_x (qg g) (ql l) sa2 sc2 aa2 ac2 ma c5 HGW.out.1 HGW.out.2 (FIN.out U (HZW.out.step hU)) (hga.bl hU) HGK.out (hms.bl hU) (by omega) (fun s hs => (HLQ.out s hs).1) (fun s hs => (HLQ.out s hs).2)
                    rw [(len_q g).1, (len_q g).2, hqn] at h
                    refine h.mono ?_
                    rintro e w' (⟨h, _⟩ | ⟨a5, c5, _, rfl, h1, h2⟩)
                    · exact absurd (O.err_zero.2 HOQ.out) h
                    · exact ⟨a5, c5, by rw [(len_q g).2], h1, h2⟩
                  have CK3 : Hid (∀ U c5, Bl wr U → Calls Tryz.prog 9 #[.agg #[.slice sa2 g.1.length sc2, .slice aa2 g.2.length ac2], .slice ma l.length c5] U fun e w' => ∃ a7 c7, e = .returned (.tuple #[.slice a7 g.2.length c7, .int .i64 0]) ∧ RS lyD w' a7 (O.keys (qg g) (ql l)) ∧ Bl U w') := fun U c5 hU => by
                    have h := Keys_x (qg g) (ql l) sa2 sc2 aa2 ac2 ma c5 HGW.out.1 HGW.out.2 (FIN.out U (HZW.out.step hU)) (hga.bl hU) HGK.out (hms.bl hU) (by omega) (fun s hs => (HLQ.out s hs).1) (fun s hs => (HLQ.out s hs).2)
                    rw [(len_q g).1, (len_q g).2, hqn] at h
                    refine h.mono ?_
                    rintro e w' (⟨h, _⟩ | ⟨a5, c5, _, rfl, h1, h2⟩)
                    · exact absurd (O.err_zero.2 HOQ.out) h
                    · exact ⟨a5, c5, by rw [(len_q g).2], h1, h2⟩
                  clear hz hms hga HGK HLQ HN3 HN4 HN6 HLV HGV HNT HSM HS7 HA7 HGW HZ4
                  have HNC : Hid (∀ U, Bl wr U → U.cell? ⟨w4.heap.size, 0, none⟩ = some (.slice sa2 g.1.length sc2) ∧ U.cell? ⟨w4.heap.size, 1, none⟩ = some (.slice aa2 g.2.length ac2)) := fun U hU => ⟨(HNR.out.grow hU).c.1, (HNR.out.grow hU).c.2.1⟩
                  go_upto_region 40 with (first
                    | go_skip
                    | (go_at_call 7; refine (CB3.out wr _ (Bl.refl _)).mono ?_; clear CB3 g0 g1 g2; rintro e w6 ⟨a7, c7, rfl, hb7, HB6⟩; obtain ⟨g0, g1⟩ := HNC.out w6 HB6)
                    | (go_at_call 9; refine (CK3.out w6 _ HB6).mono ?_; clear CK3 g0 g1; rintro e w7 ⟨a8, c8, rfl, hk8, HB7⟩))
                  have HCW : Hid (CN g l a5 a6 a7 a8 w7 ∧ Bl (W.alloc (.cells #[.slice sa g.1.length sc, .slice aa g.2.length ac] 25)) w7) := ⟨⟨(HBU.out.1.bl HB4R.out).bl (HB6.step HB7), (HBU.out.2.bl HB4R.out).bl (HB6.step HB7), hb7.bl HB7, hk8⟩, HZW.out.step (HB6.step HB7)⟩
                  have HCN : Hid (∀ (p : Nat) t, g.2[p]? = some t → O.gt (O.baked (qg g) (ql l)) (qn t.1) = O.gt (O.baked g l) t.1 ∧ O.keyA (O.baked (qg g) (ql l)) (qa t) = O.keyA (O.baked g l) t) := fun p t ht => names HOK.out HOQ.out ht
                  clear HOQ HOK HBU HB4R HZW HZR hb7 hk8 HB6 HB7 HNR HNC
                  go_wp2_with (first | go_skip)
                  go_loopw [23] (fun u23 wx => ∃ i : Nat, i ≤ g.2.length ∧ u23 = .int .i64 i ∧ CN g l a5 a6 a7 a8 wx ∧ Bl (W.alloc (.cells #[.slice sa g.1.length sc, .slice aa g.2.length ac] 25)) wx) (fun u23 _ => g.2.length - (intOf u23).toNat)
                  case atStart => exact ⟨0, Nat.zero_le _, rfl, HCW.out.1, HCW.out.2⟩
                  case round =>
                    obtain ⟨i, hi, rfl, hcw, hzr⟩ := hrel
                    clear HCW
                    have HCW := hidN hcw
                    have HZR := hidN hzr
                    clear hcw hzr
                    by_cases hig : i < g.2.length
                    · have hii : (i : Int) < (g.2.length : Int) := by omega
                      obtain ⟨t, ht⟩ : ∃ t, g.2[i]? = some t := ⟨g.2[i], List.getElem?_eq_getElem hig⟩
                      obtain ⟨e1, e2⟩ := HCN.out i t ht
                      have ht2 : (qg g).2[i]? = some (qa t) := by unfold qg; rw [List.getElem?_map, ht]; rfl
                      generalize hR : O.gt (O.baked g l) t.1 = R at e1
                      have HRG : Hid (∀ U, CN g l a5 a6 a7 a8 U → ∃ b5 o5 b7 o7 b6 o6 b8 o8, a5 = some ⟨b5, o5, none⟩ ∧ a7 = some ⟨b7, o7, none⟩ ∧ a6 = some ⟨b6, o6, none⟩ ∧ a8 = some ⟨b8, o8, none⟩ ∧ U.rangeAt b5 (o5 + i * 3 + 1) [.int .i64 R.1, .string (M.bs R.2)] ∧ U.rangeAt b7 (o7 + i * 3 + 1) [.int .i64 R.1, .string (M.bs R.2)] ∧ U.rangeAt b6 (o6 + i * 32) (lyD.f (O.keyA (O.baked g l) t)) ∧ U.rangeAt b8 (o8 + i * 32) (lyD.f (O.keyA (O.baked g l) t))) := fun U h => by
                        have x1 : (O.build g l)[i]? = some (t.1, R) := by unfold O.build; rw [List.getElem?_map, ht, ← hR]; rfl
                        have x2 : (O.build (qg g) (ql l))[i]? = some (qn t.1, R) := by unfold O.build; rw [List.getElem?_map, ht2, ← e1]; rfl
                        have x3 : (O.keys g l)[i]? = some (O.keyA (O.baked g l) t) := by unfold O.keys; rw [List.getElem?_map, ht]; rfl
                        have x4 : (O.keys (qg g) (ql l))[i]? = some (O.keyA (O.baked g l) t) := by unfold O.keys; rw [List.getElem?_map, ht2, ← e2]; rfl
                        obtain ⟨b5, o5, y1, _, z1⟩ := h.b1 i _ x1
                        obtain ⟨b7, o7, y2, _, z2⟩ := h.b2 i _ x2
                        obtain ⟨b6, o6, y3, _, z3⟩ := h.k1 i _ x3
                        obtain ⟨b8, o8, y4, _, z4⟩ := h.k2 i _ x4
                        refine ⟨b5, o5, b7, o7, b6, o6, b8, o8, y1, y2, y3, y4, fun j u hu => ?_, fun j u hu => ?_, z3, z4⟩
                        · have := z1 (j + 1) u hu
                          rwa [show o5 + i * lyB.k + (j + 1) = o5 + i * 3 + 1 + j from by show o5 + i * 3 + (j + 1) = _; omega] at this
                        · have := z2 (j + 1) u hu
                          rwa [show o7 + i * lyB.k + (j + 1) = o7 + i * 3 + 1 + j from by show o7 + i * 3 + (j + 1) = _; omega] at this
                      obtain ⟨b5, o5, b7, o7, b6, o6, b8, o8, rfl, rfl, rfl, rfl, _⟩ := HRG.out wr HCW.out
                      have HRH : Hid (∀ U, CN g l (some ⟨b5, o5, none⟩) (some ⟨b6, o6, none⟩) (some ⟨b7, o7, none⟩) (some ⟨b8, o8, none⟩) U → U.rangeAt b5 (o5 + i * 3 + 1) [.int .i64 R.1, .string (M.bs R.2)] ∧ U.rangeAt b7 (o7 + i * 3 + 1) [.int .i64 R.1, .string (M.bs R.2)] ∧ U.rangeAt b6 (o6 + i * 32) (lyD.f (O.keyA (O.baked g l) t)) ∧ U.rangeAt b8 (o8 + i * 32) (lyD.f (O.keyA (O.baked g l) t))) := fun U h => by
                        obtain ⟨c5, p5, c7, p7, c6, p6, c8, p8, y1, y2, y3, y4, z⟩ := HRG.out U h
                        cases y1; cases y2; cases y3; cases y4
                        exact z
                      have heq1 : ∀ W, (Op.equalIn 10000 47 (.agg [Value.int .i64 R.1, .string (M.bs R.2)].toArray) (.agg [Value.int .i64 R.1, .string (M.bs R.2)].toArray)).run Tryz.prog W = .ok true W := fun W => by
                        refine (eqReN R.1 R.1 R.2 R.2 W).trans ?_
                        simp
                      have heq2 : ∀ W, (Op.equalIn 10000 51 (.agg (lyD.f (O.keyA (O.baked g l) t)).toArray) (.agg (lyD.f (O.keyA (O.baked g l) t)).toArray)).run Tryz.prog W = .ok true W := fun W => by
                        have := eqDg (O.keyA (O.baked g l) t) (O.keyA (O.baked g l) t) (keyA_lenN _ _) (keyA_lenN _ _) W
                        rw [dg_lyD (keyA_lenN _ _)] at this
                        simpa using this
                      have hD32 : (lyD.f (O.keyA (O.baked g l) t)).length = 32 := lyD.len _
                      have hiR : (Tryz.prog.info? 47).map (·.size) = some [Value.int .i64 R.1, .string (M.bs R.2)].length := by kernel_rfl
                      have hiD : (Tryz.prog.info? 51).map (·.size) = some (lyD.f (O.keyA (O.baked g l) t)).length := by rw [hD32]; kernel_rfl
                      obtain ⟨fsR, humR⟩ : ∃ fs, Tryz.prog.underlying 47 = some (.struct fs) := ⟨_, Tryz.underlying47⟩
                      clear ht ht2 hR e1 e2 HRG hD32
                      generalize [Value.int .i64 R.1, .string (M.bs R.2)] = RL at *
                      generalize lyD.f (O.keyA (O.baked g l) t) = DL at *
                      go_upto_region 45 with fail
                      refine wp_region_noPanic ?_
                      refine wp_region_held_drew (S := fun U => U.rangeAt b5 (o5 + i * 3 + 1) RL ∧ U.rangeAt b7 (o7 + i * 3 + 1) RL ∧ U.rangeAt b6 (o6 + i * 32) DL ∧ U.rangeAt b8 (o8 + i * 32) DL) (by kernel_rfl) (HRH.out _ ((HCW.out.grow ((Bl.refl _).drewN 1)))) (fun hHeld => ?_)
                      refine wpAnyH_take (i := 0) rfl (by kernel_rfl) (by kernel_rfl) (by kernel_rfl) (fun _ _ _ h => h) (yi_move (by kernel_rfl) rfl rfl) (by assumption) ?_
                      simp only [Act.put, List.getElem_toArray, List.getElem_cons_succ, List.getElem_cons_zero, List.setIfInBounds_toArray, List.set_cons_zero, List.set_cons_succ]
                      refine wpAnyH_take (i := 1) rfl (by kernel_rfl) (by kernel_rfl) (by kernel_rfl) (fun _ _ _ h => h) (yi_move (by kernel_rfl) rfl rfl) (by assumption) ?_
                      simp only [Act.put, List.getElem_toArray, List.getElem_cons_succ, List.getElem_cons_zero, List.setIfInBounds_toArray, List.set_cons_zero, List.set_cons_succ]
                      refine wpAnyH_take (i := 2) (v := ?_) rfl (by kernel_rfl) (by kernel_rfl) (by kernel_rfl) (fun _ _ _ h => h) (Or.inl ⟨by kernel_rfl, ?_⟩) (by assumption) ?_
                      rotate_left
                      · (intro w hSw; (try dsimp only at hSw); go_simp; (try with_reducible rfl))
                      simp only [Act.put, List.getElem_toArray, List.getElem_cons_succ, List.getElem_cons_zero, List.setIfInBounds_toArray, List.set_cons_zero, List.set_cons_succ]
                      refine wpAnyH_take (i := 3) (v := ?_) rfl (by kernel_rfl) (by kernel_rfl) (by kernel_rfl) (fun _ _ _ h => h) (Or.inl ⟨by kernel_rfl, ?_⟩) (by assumption) ?_
                      rotate_left
                      · (intro w hSw; (try dsimp only at hSw); go_simp; (try with_reducible rfl))
                      simp only [Act.put, List.getElem_toArray, List.getElem_cons_succ, List.getElem_cons_zero, List.setIfInBounds_toArray, List.set_cons_zero, List.set_cons_succ]
                      refine wpAnyH_take (i := 4) (v := .agg (List.toArray RL)) rfl (by kernel_rfl) (by kernel_rfl) (by kernel_rfl) (fun _ _ _ h => h) (yieldsIf_load_mid (by kernel_rfl) _ (.tmp 173) (by kernel_rfl) b7 (o7 + i * 3 + 1) (by kernel_rfl) RL _ (fun W hW => hW.2.1) humR rfl hiR) (by assumption) ?_
                      simp only [Act.put, List.getElem_toArray, List.getElem_cons_succ, List.getElem_cons_zero, List.setIfInBounds_toArray, List.set_cons_zero, List.set_cons_succ]
                      refine wpAnyH_take (i := 5) rfl (by kernel_rfl) (by kernel_rfl) (by kernel_rfl) (fun _ _ _ h => h) (yi_move (by kernel_rfl) rfl rfl) (by assumption) ?_
                      simp only [Act.put, List.getElem_toArray, List.getElem_cons_succ, List.getElem_cons_zero, List.setIfInBounds_toArray, List.set_cons_zero, List.set_cons_succ]
                      refine wpAnyH_take (i := 6) rfl (by kernel_rfl) (by kernel_rfl) (by kernel_rfl) (fun _ _ _ h => h) (yi_move (by kernel_rfl) rfl rfl) (by assumption) ?_
                      simp only [Act.put, List.getElem_toArray, List.getElem_cons_succ, List.getElem_cons_zero, List.setIfInBounds_toArray, List.set_cons_zero, List.set_cons_succ]
                      refine wpAnyH_take (i := 7) (v := ?_) rfl (by kernel_rfl) (by kernel_rfl) (by kernel_rfl) (fun _ _ _ h => h) (Or.inl ⟨by kernel_rfl, ?_⟩) (by assumption) ?_
                      rotate_left
                      · (intro w hSw; (try dsimp only at hSw); go_simp; (try with_reducible rfl))
                      simp only [Act.put, List.getElem_toArray, List.getElem_cons_succ, List.getElem_cons_zero, List.setIfInBounds_toArray, List.set_cons_zero, List.set_cons_succ]
                      refine wpAnyH_take (i := 8) (v := ?_) rfl (by kernel_rfl) (by kernel_rfl) (by kernel_rfl) (fun _ _ _ h => h) (Or.inl ⟨by kernel_rfl, ?_⟩) (by assumption) ?_
                      rotate_left
                      · (intro w hSw; (try dsimp only at hSw); go_simp; (try with_reducible rfl))
                      simp only [Act.put, List.getElem_toArray, List.getElem_cons_succ, List.getElem_cons_zero, List.setIfInBounds_toArray, List.set_cons_zero, List.set_cons_succ]
                      refine wpAnyH_take (i := 9) (v := .agg (List.toArray RL)) rfl (by kernel_rfl) (by kernel_rfl) (by kernel_rfl) (fun _ _ _ h => h) (yieldsIf_load_mid (by kernel_rfl) _ (.tmp 178) (by kernel_rfl) b5 (o5 + i * 3 + 1) (by kernel_rfl) RL _ (fun W hW => hW.1) humR rfl hiR) (by assumption) ?_
                      simp only [Act.put, List.getElem_toArray, List.getElem_cons_succ, List.getElem_cons_zero, List.setIfInBounds_toArray, List.set_cons_zero, List.set_cons_succ]
                      refine wpAnyH_take (i := 10) (v := ?_) rfl (by kernel_rfl) (by kernel_rfl) (by kernel_rfl) (fun _ _ _ h => h) (Or.inl ⟨by kernel_rfl, ?_⟩) (by assumption) ?_
                      rotate_left
                      · (intro w hSw; (try dsimp only at hSw); go_simp; (try with_reducible rfl))
                      simp only [Act.put, List.getElem_toArray, List.getElem_cons_succ, List.getElem_cons_zero, List.setIfInBounds_toArray, List.set_cons_zero, List.set_cons_succ]
                      refine wpAnyH_take (i := 11) rfl (by kernel_rfl) (by kernel_rfl) (by kernel_rfl) (fun _ _ _ h => h) (yi_move (by kernel_rfl) rfl rfl) (by assumption) ?_
                      simp only [Act.put, List.getElem_toArray, List.getElem_cons_succ, List.getElem_cons_zero, List.setIfInBounds_toArray, List.set_cons_zero, List.set_cons_succ]
                      refine wpAnyH_take (i := 12) rfl (by kernel_rfl) (by kernel_rfl) (by kernel_rfl) (fun _ _ _ h => h) (yi_move (by kernel_rfl) rfl rfl) (by assumption) ?_
                      simp only [Act.put, List.getElem_toArray, List.getElem_cons_succ, List.getElem_cons_zero, List.setIfInBounds_toArray, List.set_cons_zero, List.set_cons_succ]
                      refine wpAnyH_take (i := 13) rfl (by kernel_rfl) (by kernel_rfl) (by kernel_rfl) (fun _ _ _ h => h) (yi_move (by kernel_rfl) rfl rfl) (by assumption) ?_
                      simp only [Act.put, List.getElem_toArray, List.getElem_cons_succ, List.getElem_cons_zero, List.setIfInBounds_toArray, List.set_cons_zero, List.set_cons_succ]
                      refine wpAnyH_take (i := 14) (v := ?_) rfl (by kernel_rfl) (by kernel_rfl) (by kernel_rfl) (fun _ _ _ h => h) (Or.inl ⟨by kernel_rfl, ?_⟩) (by assumption) ?_
                      rotate_left
                      · (intro w hSw; (try dsimp only at hSw); go_simp; (try with_reducible rfl))
                      simp only [Act.put, List.getElem_toArray, List.getElem_cons_succ, List.getElem_cons_zero, List.setIfInBounds_toArray, List.set_cons_zero, List.set_cons_succ]
                      refine wpAnyH_take (i := 15) (v := .agg (List.toArray DL)) rfl (by kernel_rfl) (by kernel_rfl) (by kernel_rfl) (fun _ _ _ h => h) (yieldsIf_load_mid (by kernel_rfl) _ (.tmp 184) (by kernel_rfl) b6 (o6 + i * 32) (by kernel_rfl) DL _ (fun W hW => hW.2.2.1) und27 rfl hiD) (by assumption) ?_
                      simp only [Act.put, List.getElem_toArray, List.getElem_cons_succ, List.getElem_cons_zero, List.setIfInBounds_toArray, List.set_cons_zero, List.set_cons_succ]
                      refine wpAnyH_take (i := 16) rfl (by kernel_rfl) (by kernel_rfl) (by kernel_rfl) (fun _ _ _ h => h) (yi_move (by kernel_rfl) rfl rfl) (by assumption) ?_
                      simp only [Act.put, List.getElem_toArray, List.getElem_cons_succ, List.getElem_cons_zero, List.setIfInBounds_toArray, List.set_cons_zero, List.set_cons_succ]
                      refine wpAnyH_take (i := 17) rfl (by kernel_rfl) (by kernel_rfl) (by kernel_rfl) (fun _ _ _ h => h) (yi_move (by kernel_rfl) rfl rfl) (by assumption) ?_
                      simp only [Act.put, List.getElem_toArray, List.getElem_cons_succ, List.getElem_cons_zero, List.setIfInBounds_toArray, List.set_cons_zero, List.set_cons_succ]
                      refine wpAnyH_take (i := 18) (v := ?_) rfl (by kernel_rfl) (by kernel_rfl) (by kernel_rfl) (fun _ _ _ h => h) (Or.inl ⟨by kernel_rfl, ?_⟩) (by assumption) ?_
                      rotate_left
                      · (intro w hSw; (try dsimp only at hSw); go_simp; (try with_reducible rfl))
                      simp only [Act.put, List.getElem_toArray, List.getElem_cons_succ, List.getElem_cons_zero, List.setIfInBounds_toArray, List.set_cons_zero, List.set_cons_succ]
                      refine wpAnyH_take (i := 19) (v := .agg (List.toArray DL)) rfl (by kernel_rfl) (by kernel_rfl) (by kernel_rfl) (fun _ _ _ h => h) (yieldsIf_load_mid (by kernel_rfl) _ (.tmp 188) (by kernel_rfl) b8 (o8 + i * 32) (by kernel_rfl) DL _ (fun W hW => hW.2.2.2) und27 rfl hiD) (by assumption) ?_
                      simp only [Act.put, List.getElem_toArray, List.getElem_cons_succ, List.getElem_cons_zero, List.setIfInBounds_toArray, List.set_cons_zero, List.set_cons_succ]
                      refine wpAnyH_take (i := 20) (v := ?_) rfl (by kernel_rfl) (by kernel_rfl) (by kernel_rfl) (fun _ _ _ h => h) (Or.inl ⟨by kernel_rfl, ?_⟩) (by assumption) ?_
                      rotate_left
                      · (intro w hSw; (try dsimp only at hSw); go_simp; (try with_reducible rfl))
                      simp only [Act.put, List.getElem_toArray, List.getElem_cons_succ, List.getElem_cons_zero, List.setIfInBounds_toArray, List.set_cons_zero, List.set_cons_succ]
                      refine wpAnyH_take (i := 21) (v := ?_) rfl (by kernel_rfl) (by kernel_rfl) (by kernel_rfl) (fun _ _ _ h => h) (Or.inl ⟨by kernel_rfl, ?_⟩) (by assumption) ?_
                      rotate_left
                      · (intro w hSw; (try dsimp only at hSw); go_simp; (try with_reducible rfl))
                      simp only [Act.put, List.getElem_toArray, List.getElem_cons_succ, List.getElem_cons_zero, List.setIfInBounds_toArray, List.set_cons_zero, List.set_cons_succ]
                      refine wpAnyH_done (by kernel_rfl) ?_ _
                      refine NoPanic.normal ?_
                      go_wp2_with fail
                      go_roundw
                      case rel => exact ⟨i + 1, by omega, by go_num, ((HCW.out.grow ((Bl.refl _).drewN 1))), HZR.out.step ((Bl.refl _).drewN 1)⟩
                      case measure => simp [intOf]; omega
                    · have hid : decide ((i : Int) < (g.2.length : Int)) = false := decide_eq_false (by omega)
                      go_wp2_with (first | go_skip)
                      go_ret
                      exact ⟨rfl, FIN.out _ HZR.out⟩
                · obtain rfl : z = (k : Int) := by omega
                  obtain ⟨s, hs⟩ : ∃ s, l[k]? = some s := ⟨l[k], List.getElem?_eq_getElem (by omega)⟩
                  obtain ⟨b, off, rfl, hb, hr⟩ := HLV.out wr ((HZR.out).step HSM.out.bl) k s hs
                  have HQD := hidN (ql_drop hs)
                  have hsl := HN6.out s (List.mem_of_getElem? hs)
                  obtain ⟨n, t⟩ := s
                  simp only [] at hsl
                  have hz1 := M.bs_size n
                  have hz2 := M.bs_size (qn n)
                  have hz3 := qn_len n
                  have hap := q_bs n
                  have HR : Hid (wr.rangeAt b (off + k * 2) [.string (M.bs n), .string (M.bs t)]) := hr
                  have hi := infoSoN n t
                  have hi2 := infoSoN (qn n) t
                  have hlq : (ql (l.drop (k + 1))).length ≤ 30 := by simp [ql]; omega
                  obtain ⟨ra, rc, rfl⟩ := own_shape HSM.out.m
                  clear hs hr hz
                  have HMO := hidN HSM.out.m
                  have HSB := hidN HSM.out.bl
                  clear HSM
                  generalize ql (l.drop (k + 1)) = KQ at *
                  have hsz : (wr.alloc (.cells #[.string (M.bs (qn n)), .string (M.bs t)] 45)).heap.size = wr.heap.size + 1 := by simp
                  go_wp2_with (first
                    | go_skip
                    | (refine wpList_load_mid rfl 45 _ rfl b (off + k * 2) rfl _ _ HR.out humS rfl hi ?_; clear HR)
                    | (refine wl_app1G lyS (w := wo) (W := wr.alloc (.cells #[.string (M.bs (qn n)), .string (M.bs t)] 45)) 45 26 (.agg #[.string ⟨#[]⟩, .string ⟨#[]⟩]) 32 Tryz.underlying26 infoSoM rfl (by omega) rfl _ _ rfl KQ.length KQ rfl (qn n, t) _ rfl (HSB.out.alloc _) (ownsRow_bl HMO.out ((Bl.refl wr).alloc _)) (by rw [hsz]; rfl) (by omega) ?_ _ rfl rfl; intro a' c' w8 h8' hb8 hg8; have HX8 := hidN (show SM wo l k (.slice a' (KQ.length + 1) c') w8 from ⟨hb8, by rw [HQD.out, List.length_append]; exact h8'⟩); clear h8' hb8 hg8))
                  go_roundw
                  case rel => exact ⟨k, _, by omega, rfl, by go_num, HX8.out⟩
                  case measure => simp [intOf] <;> omega
    · have CB5 : Hid (∀ U, Bl (W.alloc (.cells #[.slice sa g.1.length sc, .slice aa g.2.length ac] 25)) U → Calls Tryz.prog 7 #[.agg #[.slice sa g.1.length sc, .slice aa g.2.length ac], .slice a l.length c] U fun e w' => e = .returned (.tuple #[.slice none 0 0, .int .i64 (O.err g l : Int)]) ∧ Bl (W.alloc (.cells #[.slice sa g.1.length sc, .slice aa g.2.length ac] 25)) w') := fun U hU => by
        refine (CB.out U hU).mono ?_
        rintro e w' (⟨_, h1, h2⟩ | ⟨_, _, h, _⟩)
        · exact ⟨h1, hU.step h2⟩
        · exact absurd h h0
      have CK5 : Hid (∀ U, Bl (W.alloc (.cells #[.slice sa g.1.length sc, .slice aa g.2.length ac] 25)) U → Calls Tryz.prog 9 #[.agg #[.slice sa g.1.length sc, .slice aa g.2.length ac], .slice a l.length c] U fun e w' => e = .returned (.tuple #[.slice none 0 0, .int .i64 (O.err g l : Int)]) ∧ Bl (W.alloc (.cells #[.slice sa g.1.length sc, .slice aa g.2.length ac] 25)) w') := fun U hU => by
        refine (CK.out U hU).mono ?_
        rintro e w' (⟨_, h1, h2⟩ | ⟨_, _, h, _⟩)
        · exact ⟨h1, hU.step h2⟩
        · exact absurd h h0
      have hne : ((O.err g l : Int) != 0) = true := by rw [bne_iff_ne]; omega
      clear hG hT HB hg hk hv hln n3 n4 n6 CB CK h0
      generalize (O.err g l : Int) = er at *
      go_enter Tryz.func4, Tryz.ntmps4
      go_wp2_with (first
        | go_skip
        | (go_at_call 5; refine CA.out.mono ?_; clear CA; rintro e w1 ⟨rfl, H1⟩; obtain ⟨f0, f1⟩ := HFA.out w1 H1)
        | (go_at_call 6; refine (CG.out w1 H1).mono ?_; clear CG; rintro e w2 ⟨rfl, H2⟩; obtain ⟨g0, g1⟩ := HFA.out w2 H2)
        | (go_at_call 7; refine (CB5.out w2 H2).mono ?_; clear CB5; rintro e w3 ⟨rfl, H3⟩; obtain ⟨k0, k1⟩ := HFA.out w3 H3)
        | (go_at_call 9; refine (CK5.out w3 H3).mono ?_; clear CK5; rintro e w4 ⟨rfl, H4⟩))
      go_ret
      exact ⟨by simp, FIN.out _ H4⟩
end Go.Proofs.YtjbffhdccgmfpaaGreatDoor
