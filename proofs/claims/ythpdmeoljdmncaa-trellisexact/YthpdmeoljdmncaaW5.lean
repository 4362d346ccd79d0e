/- What sap.Text, apiaryref01.Same and awake answer. -/
import Derived.Test.YthpdmeoljdmncaaW4
namespace Go.Proofs.Ythpdmeoljdmncaa
open Go.RowKit
set_option linter.unusedVariables false

theorem bs_append (a b : List UInt8) : M.bs a ++ M.bs b = M.bs (a ++ b) := by
  apply ByteArray.ext
  simp [M.bs]

set_option maxHeartbeats 800000 in
theorem same_ne (b1 o1 c1 b2 o2 c2 : Nat) (l1 l2 : List (List UInt8)) (w : World) (hc1 : ∀ i t, l1[i]? = some t → w.cell? ⟨b1, o1 + i, none⟩ = some (.string (M.bs t))) (hc2 : ∀ i t, l2[i]? = some t → w.cell? ⟨b2, o2 + i, none⟩ = some (.string (M.bs t)))
    (hn : l1.length ≤ 140737488355328) (hln : l1.length = l2.length) :
    Calls Try.prog 16 #[.slice (some ⟨b1, o1, none⟩) l1.length c1, .slice (some ⟨b2, o2, none⟩) l1.length c2] w fun e w' => e = .returned (.bool (decide (l1 = l2))) ∧ ∃ n, w' = w.drewN n := by
  have Hc1 : Hid (∀ i t, l1[i]? = some t → w.cell? ⟨b1, o1 + i, none⟩ = some (.string (M.bs t))) := hc1
  have Hc2 : Hid (∀ i t, l2[i]? = some t → w.cell? ⟨b2, o2 + i, none⟩ = some (.string (M.bs t))) := hc2
  have HLN : Hid (l1.length = l2.length) := hln
  clear hc1 hc2 hln
  go_enter Try.func16, Try.ntmps16
  go_wp2
  go_loopw [5] (fun u5 wr => ∃ k : Nat, k ≤ l1.length ∧ u5 = .int .i64 k ∧ (∀ i, i < k → l1[i]? = l2[i]?) ∧ ∃ n, wr = w.drewN n) (fun u5 _ => l1.length - (intOf u5).toNat)
  case atStart => exact ⟨0, Nat.zero_le _, rfl, fun i hi => by omega, 0, rfl⟩
  case round =>
    obtain ⟨k, hk, rfl, hsame, n, rfl⟩ := hrel
    have HS : Hid (∀ i, i < k → l1[i]? = l2[i]?) := hsame
    clear hsame
    by_cases hlt : k < l1.length
    · obtain ⟨t1, ht1⟩ : ∃ t, l1[k]? = some t := ⟨l1[k], List.getElem?_eq_getElem hlt⟩
      obtain ⟨t2, ht2⟩ : ∃ t, l2[k]? = some t := ⟨l2[k]'(by rw [← HLN.out]; exact hlt), List.getElem?_eq_getElem _⟩
      have h1 := Hc1.out k t1 ht1
      have h2 := Hc2.out k t2 ht2
      have HT1 : Hid (l1[k]? = some t1) := ht1
      have HT2 : Hid (l2[k]? = some t2) := ht2
      clear ht1 ht2
      by_cases hq : t1 = t2
      · have hbq : (!(M.bs t1).toList == (M.bs t2).toList) = false := by rw [hq]; simp
        have HQ : Hid (t1 = t2) := hq
        clear hq
        go_wp2
        go_quiet (fail)
        go_wp2
        refine ⟨⟨k + 1, by omega, by go_num, ?_, _, rfl⟩, by simp [intOf]; omega⟩
        intro i hi
        by_cases hik : i = k
        · subst hik; rw [HT1.out, HT2.out, HQ.out]
        · exact HS.out i (by omega)
      · have hbq : (!(M.bs t1).toList == (M.bs t2).toList) = true := by
          simp only [Lib.toList_data, M.bs_toList, Bool.not_eq_true', beq_eq_false_iff_ne]; exact hq
        have HQ : Hid (¬ t1 = t2) := hq
        clear hq
        go_wp2
        go_quiet (fail)
        go_wp2
        go_ret
        refine ⟨?_, _, World.drewN_drewN ..⟩
        have hne : l1 ≠ l2 := by
          intro e
          apply HQ.out
          have h := HT1.out
          rw [e, HT2.out] at h
          exact (Option.some.inj h).symm
        rw [decide_eq_false hne]
        rfl
    · obtain rfl : k = l1.length := by omega
      go_wp2
      go_ret
      refine ⟨?_, n, rfl⟩
      have he : l1 = l2 := by
        apply List.ext_getElem?
        intro i
        by_cases hi : i < l1.length
        · exact HS.out i hi
        · rw [List.getElem?_eq_none (by omega), List.getElem?_eq_none (by rw [← HLN.out]; omega)]
      rw [decide_eq_true he]
      rfl

set_option maxHeartbeats 800000 in
theorem same_len (a1 a2 : Option Addr) (n1 n2 c1 c2 : Nat) (w : World) (hn : ((n1 : Int) != (n2 : Int)) = true) :
    Calls Try.prog 16 #[.slice a1 n1 c1, .slice a2 n2 c2] w fun e w' => e = .returned (.bool false) ∧ ∃ n, w' = w.drewN n := by
  go_enter Try.func16, Try.ntmps16
  go_wp2
  go_ret
  exact ⟨rfl, 0, rfl⟩

set_option maxHeartbeats 800000 in
theorem same_nil (a1 a2 : Option Addr) (c1 c2 : Nat) (w : World) :
    Calls Try.prog 16 #[.slice a1 0 c1, .slice a2 0 c2] w fun e w' => e = .returned (.bool true) ∧ ∃ n, w' = w.drewN n := by
  go_enter Try.func16, Try.ntmps16
  go_wp2
  go_loopw [5] (fun u5 wr => u5 = .int .i64 0 ∧ wr = w) (fun _ _ => 0)
  case atStart => exact ⟨rfl, rfl⟩
  case round =>
    obtain ⟨rfl, rfl⟩ := hrel
    go_wp2
    go_ret
    exact ⟨rfl, 0, rfl⟩

theorem Strs.shape {B : Nat} {w : World} {v : Value} {l : List (List UInt8)} (h : Strs B w v l) : ∃ a c, v = .slice a l.length c := by
  rcases h with ⟨rfl, a, c, rfl⟩ | ⟨b, off, cap, rfl, _, _⟩
  · exact ⟨a, c, rfl⟩
  · exact ⟨_, _, rfl⟩

theorem same_any (v1 v2 : Value) (l1 l2 : List (List UInt8)) (B1 B2 : Nat) (w : World) (h1 : Strs B1 w v1 l1) (h2 : Strs B2 w v2 l2) (hn : l1.length ≤ 140737488355328) :
    Calls Try.prog 16 #[v1, v2] w fun e w' => e = .returned (.bool (decide (l1 = l2))) ∧ ∃ n, w' = w.drewN n := by
  by_cases hl : l1.length = l2.length
  · rcases h1 with ⟨rfl, a, c, rfl⟩ | ⟨b, off, cap, rfl, hb, hc⟩
    · obtain rfl : l2 = [] := List.eq_nil_of_length_eq_zero hl.symm
      obtain ⟨a2, c2, rfl⟩ := h2.shape
      exact same_nil a a2 c c2 w
    · rcases h2 with ⟨rfl, a2, c2, rfl⟩ | ⟨b2, off2, cap2, rfl, hb2, hc2⟩
      · obtain rfl : l1 = [] := List.eq_nil_of_length_eq_zero hl
        exact same_nil _ a2 cap c2 w
      · rw [← hl]
        exact same_ne b off cap b2 off2 cap2 l1 l2 w hc hc2 hn hl
  · obtain ⟨a1, c1, rfl⟩ := h1.shape
    obtain ⟨a2, c2, rfl⟩ := h2.shape
    have hne : l1 ≠ l2 := fun e => hl (by rw [e])
    rw [decide_eq_false hne]
    exact same_len a1 a2 l1.length l2.length c1 c2 w (by rw [bne_iff_ne]; omega)

end Go.Proofs.Ythpdmeoljdmncaa
