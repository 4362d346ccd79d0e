/- The reference's Take: the walk. -/
import Derived.Test.YtpgagddofifikaaHR3
namespace Go.Proofs.Ytpgagddofifikaa
open Go.RowKit Go.Maps
set_option linter.unusedVariables false
set_option linter.unusedSimpArgs false
attribute [local go_sem ↓] zero43

set_option maxRecDepth 8000 in
set_option maxHeartbeats 8000000 in
theorem rTake_x {W : World} {r : Nat} {T : Int} {F : HU.St} (x : RH W r T F) (ok : HU.Ok F T) (hT : T ≤ 100) (most : Int) :
    Calls Try.prog 13 #[.pointer (some ⟨r, 0, none⟩), .int .i64 most] W fun e w' => ∃ a c, e = .returned (.slice a (HU.told F (HU.cnt F most)).length c) ∧ RS lyM w' a (HU.told F (HU.cnt F most)) ∧ RH w' r T (HU.took F (HU.cnt F most)) ∧ Of1 r W w' := by
  have HX := hidP x
  have HOK := hidP ok
  have HBD : Hid (∀ i, 0 ≤ (F i).2 ∧ (F i).2 ≤ 100) := fun i => ⟨ok.lo i, Int.le_trans (ok.hi i) hT⟩
  obtain ⟨fs, hum⟩ := undMe
  have hlen := HU.tl_len F
  have s1 := stNew (W.alloc (.cells #[] 41)) (W.heap.size + 1) z7b 43 (by simp) one7b
  have HQ0 : Hid (TQ W F 0 (W.heap.size + 1) (.slice (some ⟨W.heap.size, 0, none⟩) 0 0) ((W.alloc (.cells #[] 41)).alloc (.cells z7b 43))) := by
    refine ⟨((Bl.refl W).alloc _).alloc _, ?_, ⟨z7b, ?_, BA.new (fun j => inT_zero F j)⟩, by omega⟩
    · exact ownsRow_bl (own_empty9 W _ 3) ((Bl.refl _).alloc _)
    · have := heap_alloc_new (W.alloc (.cells #[] 41)) (.cells z7b 43)
      rwa [size_alloc1] at this
  clear x ok
  go_enter Try.func13, Try.ntmps13
  go_wp2_with fail
  clear s1
  generalize (W.alloc (.cells #[] 41)).alloc (.cells z7b 43) = w1 at HQ0 ⊢
  obtain ⟨tb, htb⟩ : ∃ tb, W.heap.size + 1 = tb := ⟨_, rfl⟩
  rw [htb] at HQ0 ⊢
  clear htb
  generalize (Value.slice (some ⟨W.heap.size, 0, none⟩) 0 0) = v0 at HQ0 ⊢
  go_loopw [5, 7, 8] (fun u5 _ _ wr => ∃ (k : Nat) (a : Option Addr) (c : Nat), k ≤ (HU.tl F).length ∧ (k : Int) ≤ max most 0 ∧ u5 = .slice a k c ∧ TQ W F k tb u5 wr) (fun u5 _ _ _ => 7 - lenN u5)
  case atStart =>
    obtain ⟨a, c, h1, _⟩ := owns_rs lyM HQ0.out.own
    exact ⟨0, a, c, Nat.zero_le _, by omega, h1, HQ0.out⟩
  case round =>
    obtain ⟨k, a, c, hk, hkm, rfl, hq⟩ := hrel
    clear HQ0
    have HQ := hidP hq
    clear hq
    have hk6 : k ≤ 6 := by omega
    by_cases hlt : (k : Int) < most
    · go_wp2_with fail
      go_loopw [7, 8] (fun u7 u8 wx => ∃ i b : Nat, 1 ≤ i ∧ i ≤ 7 ∧ b < 7 ∧ u8 = .int .i64 i ∧ u7 = .int .i64 b ∧ BI F k i b ∧ TQ W F k tb (.slice a k c) wx) (fun _ u8 _ => 7 - (intOf u8).toNat)
      case atStart => exact ⟨1, 0, by omega, by omega, by omega, rfl, rfl, BI.start F k, HQ.out⟩
      case round =>
        obtain ⟨i, b, hi1, hi7, hb7, rfl, rfl, hbi, hq2⟩ := hrel
        clear HQ
        have HBI := hidP hbi
        have HQ2 := hidP hq2
        clear hbi hq2
        by_cases hil : i < 7
        · have hii : (i : Int) < 7 := by omega
          have hi0 : (0 : Int) ≤ (i : Int) := by omega
          have hbi7 : (b : Int) < 7 := by omega
          have hb0 : (0 : Int) ≤ (b : Int) := by omega
          obtain ⟨_, _, _, _, x1, _⟩ := (HX.out.grow HQ2.out.bl).cn i hil
          obtain ⟨_, _, _, _, x2, _⟩ := (HX.out.grow HQ2.out.bl).cn b hb7
          obtain ⟨C, hC, hBA⟩ := HQ2.out.arr
          have x3 : wr.cell? ⟨tb, i, none⟩ = some (.bool (HU.inT F k i)) := by rw [Lib.cell_of_heap hC]; exact hBA.at' i hil
          clear hC hBA
          cases hin : HU.inT F k i with
          | true =>
            rw [hin] at x3
            have HN := hidP (HBI.out.skip (fun h : Cd F k i => by have := h.1; rw [hin] at this; cases this))
            clear hin
            go_wp2_with fail
            go_quiet (fail)
            go_wp2_with fail
            go_roundw
            case rel => exact ⟨i + 1, b, by omega, by omega, by omega, by go_num, rfl, HN.out, HQ2.out.grow ((Bl.refl _).drewN _)⟩
            case measure => simp [intOf]; omega
          | false =>
            rw [hin] at x3
            by_cases hm : (F i).2 > 0
            · have hcd : Cd F k i := ⟨hin, hm⟩
              by_cases hb : b = 0
              · subst hb
                have HN := hidP (HBI.out.first hi1 hcd)
                clear hin hcd
                generalize (F i).2 = q1 at *
                go_wp2_with fail
                go_quiet (fail)
                go_wp2_with fail
                go_roundw
                case rel => exact ⟨i + 1, i, by omega, by omega, by omega, by go_num, rfl, HN.out, HQ2.out.grow ((Bl.refl _).drewN _)⟩
                case measure => simp [intOf]; omega
              · have hbb : ((b : Int) == 0) = false := by rw [beq_eq_false_iff_ne]; omega
                by_cases hg : (F i).2 > (F b).2
                · have HN := hidP (HBI.out.better hb hi1 hcd hg)
                  clear hin hcd
                  generalize (F i).2 = q1 at *
                  generalize (F b).2 = q2 at *
                  go_wp2_with fail
                  go_quiet (fail)
                  go_wp2_with fail
                  go_roundw
                  case rel => exact ⟨i + 1, i, by omega, by omega, by omega, by go_num, rfl, HN.out, HQ2.out.grow ((Bl.refl _).drewN _)⟩
                  case measure => simp [intOf]; omega
                · have HN := hidP (HBI.out.worse hb hg)
                  clear hin hcd
                  generalize (F i).2 = q1 at *
                  generalize (F b).2 = q2 at *
                  have hgd : decide (q1 > q2) = false := decide_eq_false hg
                  go_wp2_with fail
                  go_quiet (fail)
                  go_wp2_with fail
                  go_roundw
                  case rel => exact ⟨i + 1, b, by omega, by omega, by omega, by go_num, rfl, HN.out, HQ2.out.grow ((Bl.refl _).drewN _)⟩
                  case measure => simp [intOf]; omega
            · have HN := hidP (HBI.out.skip (fun h : Cd F k i => hm h.2))
              have hmd : decide ((F i).2 > 0) = false := decide_eq_false hm
              clear hin
              generalize (F i).2 = q1 at *
              go_wp2_with fail
              go_quiet (fail)
              go_wp2_with fail
              go_roundw
              case rel => exact ⟨i + 1, b, by omega, by omega, by omega, by go_num, rfl, HN.out, HQ2.out.grow ((Bl.refl _).drewN _)⟩
              case measure => simp [intOf]; omega
        · obtain rfl : i = 7 := by omega
          by_cases hb : b = 0
          · subst hb
            have hke := HBI.out.no7 HOK.out hk
            have HKC : Hid (HU.cnt F most = k) := by show _ = _; unfold HU.cnt; omega
            have HE3 := hidP (TE.start HX.out HOK.out HQ2.out)
            clear HBI hke HX HQ2
            generalize (Value.slice a k c) = u5 at HE3 ⊢
            go_wp2_with fail
            go_loopw [9] (fun u9 wx => ∃ i : Nat, 1 ≤ i ∧ i ≤ 7 ∧ u9 = .int .i64 i ∧ TE W r T F k tb u5 i wx) (fun u9 _ => 7 - (intOf u9).toNat)
            case atStart => exact ⟨1, by omega, by omega, rfl, HE3.out⟩
            case round =>
              obtain ⟨i, hi1, hi7, rfl, he⟩ := hrel
              clear HE3
              by_cases hlt3 : i < 7
              · obtain ⟨k1, k2', k3⟩ := he.cn i hlt3
                have k2 := k2' rfl
                have hii : (i : Int) < 7 := by omega
                have hi0 : (0 : Int) ≤ (i : Int) := by omega
                have HTE := hidP he
                clear he k2'
                cases hin : HU.inT F k i with
                | false =>
                  rw [hin] at k1
                  have HN := hidP (HTE.out.skip hin)
                  clear hin
                  go_wp2_with fail
                  go_roundw
                  case rel => exact ⟨i + 1, by omega, by omega, by go_num, HN.out⟩
                  case measure => simp [intOf]; omega
                | true =>
                  rw [hin] at k1
                  obtain ⟨hq1, hq2⟩ := HBD.out (i : Int)
                  have HN := hidP (HTE.out.step hlt3 hin)
                  clear hin
                  generalize (F i).2 = q at *
                  go_wp2_with fail
                  go_region
                  all_goals
                    go_wp2_with fail
                    go_roundw
                    case rel => exact ⟨i + 1, by omega, by omega, by go_num, HN.out⟩
                    case measure => simp [intOf]; omega
              · obtain rfl : i = 7 := by omega
                obtain ⟨⟨a5, c5, rfl, hrs5⟩, hrh5, hof5⟩ := he.end HOK.out
                have HFJ : Hid (RS lyM wr a5 (HU.told F k) ∧ RH wr r T (HU.took F k) ∧ Of1 r W wr) := ⟨hrs5, hrh5, hof5⟩
                clear he hrs5 hrh5 hof5
                go_wp2_with fail
                go_ret
                exact ⟨a5, c5, by rw [HKC.out]; rfl, by rw [HKC.out]; exact HFJ.out.1, by rw [HKC.out]; exact HFJ.out.2.1, HFJ.out.2.2⟩
          · have hbb : ((b : Int) == 0) = false := by rw [beq_eq_false_iff_ne]; omega
            obtain ⟨hb1, _, hat, hnd⟩ := HBI.out.at7 HOK.out hb
            have hkl : k < (HU.tl F).length := (List.getElem?_eq_some_iff.1 hat).1
            have HIS : Hid (∀ j : Nat, HU.inT F (k + 1) j = (HU.inT F k j || ((b : Int) == (j : Int)))) := fun j => by rw [inT_succ hat, hnd]
            have HTD : Hid (HU.told F (k + 1) = HU.told F k ++ [(F b).1]) := by
              show _ = _
              unfold HU.told
              rw [List.take_add_one, hat]; simp
            have htl : (HU.told F k).length = k := by unfold HU.told; rw [List.length_map, List.length_take]; omega
            obtain ⟨⟨⟨n, i2, s2⟩, q⟩, hF⟩ : ∃ z, F b = z := ⟨_, rfl⟩
            rw [hF] at HTD hnd
            simp only at HTD hnd
            subst hnd
            obtain ⟨C, hC, hBA⟩ := HQ2.out.arr
            have hbi7 : (b : Int) < 7 := by omega
            have hb0 : (0 : Int) ≤ (b : Int) := by omega
            have y1 : ∃ z, wr.cell? ⟨tb, b, none⟩ = some z := ⟨_, by rw [Lib.cell_of_heap hC]; exact hBA.at' b hb7⟩
            obtain ⟨z, y1⟩ := y1
            have y2 : wr.frozen? ⟨tb, b, none⟩ = false := by simp [World.frozen?, hC]
            have hg := grown_setCell wr tb b (.bool true)
            have HW2 : Hid (Bl W (wr.setCell ⟨tb, b, none⟩ (.bool true)) ∧ (wr.setCell ⟨tb, b, none⟩ (.bool true)).ownsRow W.heap.size 41 3 (.slice a k c) (HU.told F k).length (flG lyM (HU.told F k)) ∧ (wr.setCell ⟨tb, b, none⟩ (.bool true)).heap[tb]? = some (.cells (C.setIfInBounds b (.bool true)) 43 (0, 0)) ∧ BA (C.setIfInBounds b (.bool true)) (fun j => HU.inT F (k + 1) j)) := by
              refine ⟨(Of1.of_grown hg).bl HQ2.out.bl HQ2.out.tb, ?_, heap_setCell_own hC, ?_⟩
              · obtain ⟨h0, h1 | ⟨g, cap, cur, h1, h2, h3, h4⟩⟩ := HQ2.out.own
                · exact ⟨h0, Or.inl h1⟩
                · exact ⟨h0, Or.inr ⟨g, cap, cur, h1, h2, by rw [hg.block g (lt_heap h3) (fun e => tags h3 hC (by decide) (Option.some.inj e))]; exact h3, h4⟩⟩
              · have := hBA.put b hb7
                have e : (fun j : Nat => HU.inT F (k + 1) j) = fun j : Nat => (HU.inT F k j || ((b : Int) == (j : Int))) := by funext j; exact HIS.out j
                rw [e]; exact this
            have HRR : Hid (∀ w2, Bl W w2 → w2.rangeAt r (1 + b * 4) [.int .i64 (b : Int), .int .i64 i2, .int .i64 s2]) := fun w2 hb2 j v hv => by
              obtain ⟨_, c1, c2, c3, _, _⟩ := (HX.out.grow hb2).cn b hb7
              rw [hF] at c1 c2 c3
              match j, hv with
              | 0, hv => simp at hv; subst hv; exact c1
              | 1, hv => simp at hv; subst hv; exact c2
              | 2, hv => simp at hv; subst hv; exact c3
            have HTB := hidP HQ2.out.tb
            clear HBI hat hF hC hBA hg HQ2 HIS
            generalize hU : wr.setCell ⟨tb, b, none⟩ (.bool true) = U at HW2
            have HR := hidP (HRR.out U HW2.out.1)
            have hUb : W.heap.size ≤ U.heap.size := Below.size HW2.out.1
            have HUO : Hid (U.ownsRow W.heap.size 41 3 (.slice a k c) k (flG lyM (HU.told F k))) := by
              have := HW2.out.2.1
              rw [htl] at this; exact this
            generalize HU.told F k = L at *
            go_wp2_with (first
              | (refine wpList_load_mid rfl 41 _ rfl r (1 + b * 4) rfl [.int .i64 (b : Int), .int .i64 i2, .int .i64 s2] _ HR.out hum rfl infoMe ?_)
              | (refine wl_app1N lyM 41 28 (.agg #[.int .i64 0, .int .i64 0, .int .i64 0]) 24 undMs infoMe3 rfl (by decide) rfl _ _ rfl W.heap.size k L htl.symm ((b : Int), i2, s2) _ rfl hUb HUO.out rfl (by omega) ?_ _ rfl rfl; intro a2 c2 w2 g1 g2))
            have z1 : TQ W F (k + 1) tb (.slice a2 (k + 1) c2) w2 := by
              refine ⟨⟨g2.os.trans HW2.out.1.os, g2.tape.trans HW2.out.1.tape, g2.output.trans HW2.out.1.output, Nat.le_trans HW2.out.1.size g2.size, fun j hj => (g2.block j (Nat.lt_of_lt_of_le hj HW2.out.1.size) (fun e => ?_)).trans (HW2.out.1.block j hj)⟩, ?_, ⟨_, ?_, HW2.out.2.2.2⟩, HTB.out⟩
              · have := (owns_ge HUO.out e.symm).1; omega
              · rw [HTD.out, List.length_append, htl]; exact g1
              · rw [g2.block tb (lt_heap HW2.out.2.2.1) (fun e => ?_)]
                · exact HW2.out.2.2.1
                · obtain ⟨D, hD⟩ := own_tag HUO.out e.symm
                  exact tags HW2.out.2.2.1 hD (by decide) rfl
            have HZ1 := hidP z1
            clear z1 g1 g2
            go_roundw
            case rel => exact ⟨k + 1, a2, c2, by omega, by omega, rfl, HZ1.out⟩
            case measure => simp [lenN]; omega
    · have hltd : decide ((k : Int) < most) = false := decide_eq_false hlt
      have HKC : Hid (HU.cnt F most = k) := by show _ = _; unfold HU.cnt; omega
      have HE3 := hidP (TE.start HX.out HOK.out HQ.out)
      clear HX HQ
      go_wp2_with fail
      generalize (Value.slice a k c) = u5 at HE3 ⊢
      go_loopw [9] (fun u9 wx => ∃ i : Nat, 1 ≤ i ∧ i ≤ 7 ∧ u9 = .int .i64 i ∧ TE W r T F k tb u5 i wx) (fun u9 _ => 7 - (intOf u9).toNat)
      case atStart => exact ⟨1, by omega, by omega, rfl, HE3.out⟩
      case round =>
        obtain ⟨i, hi1, hi7, rfl, he⟩ := hrel
        clear HE3
        by_cases hlt3 : i < 7
        · obtain ⟨k1, k2', k3⟩ := he.cn i hlt3
          have k2 := k2' rfl
          have hii : (i : Int) < 7 := by omega
          have hi0 : (0 : Int) ≤ (i : Int) := by omega
          have HTE := hidP he
          clear he k2'
          cases hin : HU.inT F k i with
          | false =>
            rw [hin] at k1
            have HN := hidP (HTE.out.skip hin)
            clear hin
            go_wp2_with fail
            go_roundw
            case rel => exact ⟨i + 1, by omega, by omega, by go_num, HN.out⟩
            case measure => simp [intOf]; omega
          | true =>
            rw [hin] at k1
            obtain ⟨hq1, hq2⟩ := HBD.out (i : Int)
            have HN := hidP (HTE.out.step hlt3 hin)
            clear hin
            generalize (F i).2 = q at *
            go_wp2_with fail
            go_region
            all_goals
              go_wp2_with fail
              go_roundw
              case rel => exact ⟨i + 1, by omega, by omega, by go_num, HN.out⟩
              case measure => simp [intOf]; omega
        · obtain rfl : i = 7 := by omega
          obtain ⟨⟨a5, c5, rfl, hrs5⟩, hrh5, hof5⟩ := he.end HOK.out
          have HFJ : Hid (RS lyM wr a5 (HU.told F k) ∧ RH wr r T (HU.took F k) ∧ Of1 r W wr) := ⟨hrs5, hrh5, hof5⟩
          clear he hrs5 hrh5 hof5
          go_wp2_with fail
          go_ret
          exact ⟨a5, c5, by rw [HKC.out]; rfl, by rw [HKC.out]; exact HFJ.out.1, by rw [HKC.out]; exact HFJ.out.2.1, HFJ.out.2.2⟩
end Go.Proofs.Ytpgagddofifikaa
