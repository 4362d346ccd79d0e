/- The law's own small calls: action, in; the reference's Ints and Same. -/
import Derived.Test.YthpdmeoljdmncaaZ11
namespace Go.Proofs.Ythpdmeoljdmncaa
open Go.RowKit
set_option linter.unusedVariables false
set_option linter.unusedSimpArgs false

set_option maxRecDepth 8000 in
theorem action_x (n : List UInt8) (a : Option Addr) (k c : Nat) (W : World) :
    Calls Try.prog 22 #[.string (M.bs n), .slice a k c] W fun e w' => e = .returned (.agg #[.string (M.bs n), .slice a k c, .string ⟨#[]⟩]) ∧ w' = W.alloc (.cells #[.string (M.bs n), .slice a k c, .string ⟨#[]⟩] 41) := by
  obtain ⟨fs, hum⟩ := undAc
  have hi : (Try.prog.info? 41).map (·.size) = some (#[Value.string (M.bs n), .slice a k c, .string ⟨#[]⟩] : Array Value).size := infoAc (n, [], []) a c
  go_enter Try.func22, Try.ntmps22
  go_wp2_with fail
  refine bodyPost_ret (results_cell_row rfl _ _ _ 41 _ (0, 0) _ rfl (heap_alloc_new W _) hum rfl hi) rfl ?_
  exact ⟨rfl, rfl⟩

set_option maxRecDepth 8000 in
set_option maxHeartbeats 1000000 in
theorem in_at (l : List (List UInt8)) (a : Option Addr) (c : Nat) (s : List UInt8) (w : World) (hv : SA w a l) (hn : l.length ≤ maxLen) :
    Calls Try.prog 21 #[.slice a l.length c, .string (M.bs s)] w fun e w' => e = .returned (.bool (decide (s ∈ l))) ∧ w' = w := by
  have HV : Hid (SA w a l) := hv
  clear hv
  unfold maxLen at hn
  go_enter Try.func21, Try.ntmps21
  go_wp2_with fail
  go_loop [5] (fun u5 => ∃ k : Nat, k ≤ l.length ∧ u5 = .int .i64 k ∧ ∀ i e, i < k → l[i]? = some e → decide (e = s) = false) (fun u5 => l.length - (intOf u5).toNat)
  case atStart => exact ⟨0, Nat.zero_le _, rfl, fun i e hi => by omega⟩
  case round =>
    obtain ⟨k, hk, rfl, hpre⟩ := hrel
    have HP : Hid (∀ i e, i < k → l[i]? = some e → decide (e = s) = false) := hpre
    clear hpre
    by_cases hlt : k < l.length
    · obtain ⟨t, ht⟩ : ∃ t, l[k]? = some t := ⟨l[k], List.getElem?_eq_getElem hlt⟩
      obtain ⟨b, off, rfl, hc⟩ := HV.out k t ht
      obtain ⟨q, hq, hb⟩ : ∃ q, decide (t = s) = q ∧ ((M.bs t).toList == (M.bs s).toList) = q := by
        refine ⟨_, rfl, ?_⟩
        simp only [Lib.toList_data, M.bs_toList]
        rw [Bool.eq_iff_iff, beq_iff_eq, decide_eq_true_eq]
      have HF : Hid (q = true → decide (s ∈ l) = true) := fun h => by
        rw [h] at hq
        rw [decide_eq_true_eq] at hq ⊢
        rw [← hq]; exact List.mem_of_getElem? ht
      have HE : Hid (q = false → ∀ i e, i < k + 1 → l[i]? = some e → decide (e = s) = false) := fun h i e hi he => by
        rcases (by omega : i < k ∨ i = k) with h' | rfl
        · exact HP.out i e h' he
        · rw [ht] at he; cases he; rw [hq]; exact h
      clear ht hq
      cases q
      · go_wp2_with fail
        go_round
        case rel => exact ⟨k + 1, by omega, by go_num, HE.out rfl⟩
        case measure => simp [intOf]; omega
      · go_wp2_with fail
        go_ret
        exact ⟨by rw [HF.out trivial]; rfl, rfl⟩
    · obtain rfl : k = l.length := by omega
      have HF : Hid (decide (s ∈ l) = false) := by
        show _ = _
        rw [decide_eq_false_iff_not]
        intro hm
        obtain ⟨i, hi, e⟩ := List.getElem_of_mem hm
        have := HP.out i s hi (by rw [List.getElem?_eq_getElem hi, e])
        simp at this
      go_wp2_with fail
      go_ret
      exact ⟨by rw [HF.out]; rfl, rfl⟩

set_option maxRecDepth 8000 in
set_option maxHeartbeats 1000000 in
theorem SameT_x (l1 l2 : List (List UInt8)) (a1 a2 : Option Addr) (c1 c2 : Nat) (w : World) (h1 : SA w a1 l1) (h2 : SA w a2 l2) (hn1 : l1.length ≤ maxLen) (hn2 : l2.length ≤ maxLen) :
    Calls Try.prog 16 #[.slice a1 l1.length c1, .slice a2 l2.length c2] w fun e w' => e = .returned (.bool (decide (l1 = l2))) ∧ ∃ n, w' = w.drewN n := by
  have H1 : Hid (SA w a1 l1) := h1
  have H2 : Hid (SA w a2 l2) := h2
  clear h1 h2
  unfold maxLen at hn1 hn2
  by_cases hln : l1.length = l2.length
  · have hq : ((l1.length : Int) != (l2.length : Int)) = false := by simp [hln]
    have HLN : Hid (l1.length = l2.length) := hln
    clear hln
    go_enter Try.func16, Try.ntmps16
    go_wp2_with fail
    go_loopw [5] (fun u5 wr => ∃ k : Nat, k ≤ l1.length ∧ u5 = .int .i64 k ∧ (∀ i, i < k → l1[i]? = l2[i]?) ∧ ∃ n, wr = w.drewN n) (fun u5 _ => l1.length - (intOf u5).toNat)
    case atStart => exact ⟨0, Nat.zero_le _, rfl, fun i hi => by omega, 0, rfl⟩
    case round =>
      obtain ⟨k, hk, rfl, hsame, n, rfl⟩ := hrel
      have HS : Hid (∀ i, i < k → l1[i]? = l2[i]?) := hsame
      clear hsame
      by_cases hlt : k < l1.length
      · obtain ⟨t1, ht1⟩ : ∃ t, l1[k]? = some t := ⟨l1[k], List.getElem?_eq_getElem hlt⟩
        have hlt2 : k < l2.length := by rw [← HLN.out]; exact hlt
        obtain ⟨t2, ht2⟩ : ∃ t, l2[k]? = some t := ⟨l2[k], List.getElem?_eq_getElem hlt2⟩
        obtain ⟨b1, o1, rfl, g1⟩ := H1.out k t1 ht1
        obtain ⟨b2, o2, rfl, g2⟩ := H2.out k t2 ht2
        have HT1 : Hid (l1[k]? = some t1) := ht1
        have HT2 : Hid (l2[k]? = some t2) := ht2
        clear ht1 ht2
        by_cases hq2 : t1 = t2
        · have hbq : (!(M.bs t1).toList == (M.bs t2).toList) = false := by rw [hq2]; simp
          have HQ : Hid (t1 = t2) := hq2
          clear hq2
          go_wp2_with fail
          go_quiet (fail)
          go_wp2_with fail
          go_roundw
          case rel =>
            refine ⟨k + 1, by omega, by go_num, ?_, _, rfl⟩
            intro i hi
            by_cases hik : i = k
            · subst hik; rw [HT1.out, HT2.out, HQ.out]
            · exact HS.out i (by omega)
          case measure => simp [intOf]; omega
        · have hbq : (!(M.bs t1).toList == (M.bs t2).toList) = true := by
            simp only [Lib.toList_data, M.bs_toList, Bool.not_eq_true', beq_eq_false_iff_ne]; exact hq2
          have HQ : Hid (¬ t1 = t2) := hq2
          clear hq2
          go_wp2_with fail
          go_quiet (fail)
          go_wp2_with fail
          go_ret
          refine ⟨?_, _, World.drewN_drewN ..⟩
          have hne : l1 ≠ l2 := by
            intro e
            apply HQ.out
            have h := HT1.out
            rw [e, HT2.out] at h
            exact (Option.some.inj h).symm
          rw [decide_eq_false hne]
          rfl
      · obtain rfl : k = l1.length := by omega
        go_wp2_with fail
        go_ret
        refine ⟨?_, n, rfl⟩
        have he : l1 = l2 := by
          apply List.ext_getElem?
          intro i
          by_cases hi : i < l1.length
          · exact HS.out i hi
          · rw [List.getElem?_eq_none (by omega), List.getElem?_eq_none (by rw [← HLN.out]; omega)]
        rw [decide_eq_true he]
        rfl
  · have hq : ((l1.length : Int) != (l2.length : Int)) = true := by rw [bne_iff_ne]; omega
    have hne : l1 ≠ l2 := fun e => hln (by rw [e])
    rw [decide_eq_false hne]
    clear hln hne
    go_enter Try.func16, Try.ntmps16
    go_wp2_with fail
    go_ret
    exact ⟨rfl, 0, rfl⟩
set_option maxRecDepth 8000 in
set_option maxHeartbeats 1000000 in
theorem Ints_x (l1 l2 : List Nat) (a1 a2 : Option Addr) (c1 c2 : Nat) (w : World) (h1 : IA w a1 l1) (h2 : IA w a2 l2) (hn1 : l1.length ≤ maxLen) (hn2 : l2.length ≤ maxLen) :
    Calls Try.prog 13 #[.slice a1 l1.length c1, .slice a2 l2.length c2] w fun e w' => e = .returned (.bool (decide (l1 = l2))) ∧ ∃ n, w' = w.drewN n := by
  have H1 : Hid (IA w a1 l1) := h1
  have H2 : Hid (IA w a2 l2) := h2
  clear h1 h2
  unfold maxLen at hn1 hn2
  by_cases hln : l1.length = l2.length
  · have hq : ((l1.length : Int) != (l2.length : Int)) = false := by simp [hln]
    have HLN : Hid (l1.length = l2.length) := hln
    clear hln
    go_enter Try.func13, Try.ntmps13
    go_wp2_with fail
    go_loopw [5] (fun u5 wr => ∃ k : Nat, k ≤ l1.length ∧ u5 = .int .i64 k ∧ (∀ i, i < k → l1[i]? = l2[i]?) ∧ ∃ n, wr = w.drewN n) (fun u5 _ => l1.length - (intOf u5).toNat)
    case atStart => exact ⟨0, Nat.zero_le _, rfl, fun i hi => by omega, 0, rfl⟩
    case round =>
      obtain ⟨k, hk, rfl, hsame, n, rfl⟩ := hrel
      have HS : Hid (∀ i, i < k → l1[i]? = l2[i]?) := hsame
      clear hsame
      by_cases hlt : k < l1.length
      · obtain ⟨t1, ht1⟩ : ∃ t, l1[k]? = some t := ⟨l1[k], List.getElem?_eq_getElem hlt⟩
        have hlt2 : k < l2.length := by rw [← HLN.out]; exact hlt
        obtain ⟨t2, ht2⟩ : ∃ t, l2[k]? = some t := ⟨l2[k], List.getElem?_eq_getElem hlt2⟩
        obtain ⟨b1, o1, rfl, _, g1⟩ := H1.out k t1 ht1
        obtain ⟨b2, o2, rfl, _, g2⟩ := H2.out k t2 ht2
        have HT1 : Hid (l1[k]? = some t1) := ht1
        have HT2 : Hid (l2[k]? = some t2) := ht2
        clear ht1 ht2
        by_cases hq2 : t1 = t2
        · have hbq : ((t1 : Int) != (t2 : Int)) = false := by rw [hq2]; simp
          have HQ : Hid (t1 = t2) := hq2
          clear hq2
          go_wp2_with fail
          go_quiet (fail)
          go_wp2_with fail
          go_roundw
          case rel =>
            refine ⟨k + 1, by omega, by go_num, ?_, _, rfl⟩
            intro i hi
            by_cases hik : i = k
            · subst hik; rw [HT1.out, HT2.out, HQ.out]
            · exact HS.out i (by omega)
          case measure => simp [intOf]; omega
        · have hbq : ((t1 : Int) != (t2 : Int)) = true := by rw [bne_iff_ne]; omega
          have HQ : Hid (¬ t1 = t2) := hq2
          clear hq2
          go_wp2_with fail
          go_quiet (fail)
          go_wp2_with fail
          go_ret
          refine ⟨?_, _, World.drewN_drewN ..⟩
          have hne : l1 ≠ l2 := by
            intro e
            apply HQ.out
            have h := HT1.out
            rw [e, HT2.out] at h
            exact (Option.some.inj h).symm
          rw [decide_eq_false hne]
          rfl
      · obtain rfl : k = l1.length := by omega
        go_wp2_with fail
        go_ret
        refine ⟨?_, n, rfl⟩
        have he : l1 = l2 := by
          apply List.ext_getElem?
          intro i
          by_cases hi : i < l1.length
          · exact HS.out i hi
          · rw [List.getElem?_eq_none (by omega), List.getElem?_eq_none (by rw [← HLN.out]; omega)]
        rw [decide_eq_true he]
        rfl
  · have hq : ((l1.length : Int) != (l2.length : Int)) = true := by rw [bne_iff_ne]; omega
    have hne : l1 ≠ l2 := fun e => hln (by rw [e])
    rw [decide_eq_false hne]
    clear hln hne
    go_enter Try.func13, Try.ntmps13
    go_wp2_with fail
    go_ret
    exact ⟨rfl, 0, rfl⟩
theorem ia_new (W : World) (l : List Nat) : IA (W.alloc (.cells (l.map encI).toArray 3)) (some ⟨W.heap.size, 0, none⟩) l := fun i x hx => by
  refine ⟨W.heap.size, 0, rfl, by simp, ?_⟩
  rw [Lib.cell_of_heap (heap_alloc_new W _), Nat.zero_add]
  simp [hx, encI]
end Go.Proofs.Ythpdmeoljdmncaa
