/- The reference's IsName and good. -/
import Derived.Test.YtgjpcddjfmdobaaDoorGre
namespace Go.Proofs.YtgjpcddjfmdobaaDoor
open Go.RowKit
set_option linter.unusedVariables false

theorem nmB_int (c : UInt8) : RC.nmB c = ((decide ((97 : Int) ≤ (c.toNat : Int)) && decide ((c.toNat : Int) ≤ 122)) || (decide ((48 : Int) ≤ (c.toNat : Int)) && decide ((c.toNat : Int) ≤ 57))) := by
  unfold RC.nmB
  congr 1 <;> congr 1 <;> rw [Bool.eq_iff_iff] <;> simp <;> omega
set_option maxHeartbeats 2000000 in
theorem rIsName_at (s : List UInt8) (w : World) (hs : s.length ≤ maxLen) :
    Calls Tryd.prog 16 #[.string (M.bs s)] w fun e w' => e = .returned (.bool (RC.isNm s)) ∧ w' = w := by
  unfold maxLen at hs
  have hbs := M.bs_size s
  by_cases h0 : s.length = 0
  · have hq : RC.isNm s = false := by rw [List.length_eq_zero_iff.1 h0]; rfl
    rw [hq]
    go_enter Tryd.func16, Tryd.ntmps16
    go_wp2_with fail
    go_ret
    exact ⟨rfl, rfl⟩
  by_cases h8 : 8 < s.length
  · rw [isNm_long s h8]
    have h1 : ¬ (s.length : Int) < 1 := by omega
    go_enter Tryd.func16, Tryd.ntmps16
    go_wp2_with fail
    go_ret
    exact ⟨rfl, rfl⟩
  have H0 : Hid (s ≠ []) := fun e => h0 (by rw [e]; rfl)
  have h1 : ¬ (s.length : Int) < 1 := by omega
  go_enter Tryd.func16, Tryd.ntmps16
  go_wp2_with fail
  go_loop [3] (fun u3 => ∃ k : Nat, k ≤ s.length ∧ u3 = .int .i64 k ∧ (s.take k).all RC.nmB = true) (fun u3 => s.length - (intOf u3).toNat)
  case atStart => exact ⟨0, Nat.zero_le _, rfl, rfl⟩
  case round =>
    obtain ⟨k, hk, rfl, ha⟩ := hrel
    have HA : Hid ((s.take k).all RC.nmB = true) := ha
    clear ha
    by_cases hlt : k < s.length
    · have hsk : (M.bs s)[k]'(by omega) = s[k] := by simp [M.bs, ByteArray.getElem_eq_getElem_data]
      have hg : s[k]? = some s[k] := List.getElem?_eq_getElem hlt
      have HS : Hid ((s.take (k + 1)).all RC.nmB = RC.nmB s[k]) := all_take s k _ hg HA.out
      have HB : Hid (RC.nmB s[k] = false → RC.isNm s = false) := isNm_bad s k _ hg
      clear hg
      generalize s[k] = c at *
      rw [nmB_int] at HS HB
      have hcl := c.toNat_lt
      by_cases c1 : (97 : Int) ≤ (c.toNat : Int) <;> by_cases c2 : (c.toNat : Int) ≤ 122 <;> by_cases c3 : (48 : Int) ≤ (c.toNat : Int) <;> by_cases c4 : (c.toNat : Int) ≤ 57
      all_goals
        first
          | (exfalso; omega)
          | (simp only [c1, c2, c3, c4, decide_true, decide_false, Bool.and_true, Bool.and_false, Bool.or_true, Bool.or_false, Bool.and_self, Bool.or_self] at HS HB
             go_wp2_with fail
             first
               | (go_ret
                  exact ⟨by rw [HB.out trivial]; rfl, rfl⟩)
               | (go_round
                  case rel => exact ⟨k + 1, by omega, by go_num, HS.out⟩
                  case measure => simp [intOf]; omega))
    · obtain rfl : k = s.length := by omega
      have HG : Hid (RC.isNm s = true) := isNm_good s H0.out (by omega) HA.out
      go_wp2_with fail
      go_ret
      exact ⟨by rw [HG.out]; rfl, rfl⟩

def notN (s : List UInt8) : Bool := !RC.isNm s
def notA (a : RC.Ac) : Bool := !RC.isNm a.1 || decide (4 < a.2.1.length) || decide (64 < a.2.2.length) || a.2.1.any notN
theorem notA_can (a : RC.Ac) : RC.canA a = !notA a := by
  have h : a.2.1.all RC.isNm = !(a.2.1.any notN) := (any_all RC.isNm a.2.1).symm
  have e1 : decide (a.2.1.length ≤ 4) = !decide (4 < a.2.1.length) := by rw [Bool.eq_iff_iff]; simp
  have e2 : decide (a.2.2.length ≤ 64) = !decide (64 < a.2.2.length) := by rw [Bool.eq_iff_iff]; simp
  unfold RC.canA notA
  rw [h, e1, e2]
  cases RC.isNm a.1 <;> cases decide (4 < a.2.1.length) <;> cases decide (64 < a.2.2.length) <;> cases a.2.1.any notN <;> rfl
theorem can_any (S : List (List UInt8)) (A : List RC.Ac) : (true && true && S.all RC.isNm && A.all RC.canA) = !(S.any notN || A.any notA) := by
  have h1 : S.all RC.isNm = !(S.any notN) := (any_all RC.isNm S).symm
  have h2 : A.all RC.canA = !(A.any notA) := by
    rw [← any_all]
    congr 2
    funext a
    rw [notA_can, Bool.not_not]
  rw [h1, h2]
  cases S.any notN <;> cases A.any notA <;> rfl

set_option maxRecDepth 8000 in
set_option maxHeartbeats 4000000 in
theorem rgood_x (g : RC.Gr) (sa : Option Addr) (sc : Nat) (aa : Option Addr) (ac : Nat) {w W : World} (HB : Bl w W) (hg : GA W.heap.size W g sa sc aa ac) (hk : grOk g) :
    Calls Tryd.prog 24 #[.agg (gv g sa sc aa ac)] W fun e w' => e = .returned (.bool (RC.can g)) ∧ Bl w w' := by
  obtain ⟨S, A⟩ := g
  have hS := hk.s
  have hA := hk.a
  simp only [] at hS hA
  unfold maxLen at hS hA
  have HT : Hid (∀ s ∈ S, s.length ≤ maxLen) := hk.t
  have HKA : Hid (∀ t ∈ A, acOk t) := hk.b
  have HW : Hid (∀ o, Bl w (W.alloc o)) := fun o => HB.alloc o
  have HG : Hid (∀ o, GA (W.alloc o).heap.size (W.alloc o) (S, A) sa sc aa ac) := fun o => hg.bl ((Bl.refl W).alloc o)
  obtain ⟨fs, hum⟩ := undAc
  unfold gv
  simp only []
  by_cases h1 : 8 < S.length
  · have hq : RC.can (S, A) = false := by simp only [RC.can]; rw [decide_eq_false (by omega)]; simp
    rw [hq]
    clear hg hk HB hq
    go_enter Tryd.func24, Tryd.ntmps24
    go_wp2_with fail
    go_ret
    exact ⟨rfl, HW.out _⟩
  by_cases h2 : 12 < A.length
  · have hq : RC.can (S, A) = false := by simp only [RC.can]; rw [decide_eq_false (show ¬ A.length ≤ 12 by omega)]; simp
    rw [hq]
    clear hg hk HB hq
    go_enter Tryd.func24, Tryd.ntmps24
    go_wp2_with fail
    go_ret
    exact ⟨rfl, HW.out _⟩
  have HQ : Hid (RC.can (S, A) = !(S.any notN || A.any notA)) := by
    show _ = _
    simp only [RC.can]; rw [decide_eq_true (show S.length ≤ 8 by omega), decide_eq_true (show A.length ≤ 12 by omega)]; exact can_any S A
  have C0 : Hid (∀ T W', Bl (W.alloc (.cells #[.slice sa S.length sc, .slice aa A.length ac] T)) W' → W'.cell? ⟨W.heap.size, 0, none⟩ = some (.slice sa S.length sc) ∧ W'.cell? ⟨W.heap.size, 1, none⟩ = some (.slice aa A.length ac)) := fun T W' h => by
    have hz : W.heap.size < (W.alloc (.cells #[.slice sa S.length sc, .slice aa A.length ac] T)).heap.size := by simp
    refine ⟨?_, ?_⟩
    · rw [h.cell hz, Lib.cell_of_heap (heap_alloc_new W _)]; rfl
    · rw [h.cell hz, Lib.cell_of_heap (heap_alloc_new W _)]; rfl
  clear hg hk HB
  go_enter Tryd.func24, Tryd.ntmps24
  go_wp2_with fail
  go_loop [3] (fun u3 => ∃ k : Nat, k ≤ S.length ∧ u3 = .int .i64 k ∧ ∀ i x, i < k → S[i]? = some x → notN x = false) (fun u3 => S.length - (intOf u3).toNat)
  case atStart => exact ⟨0, Nat.zero_le _, rfl, fun i x hi => by omega⟩
  case round =>
    obtain ⟨k, hk, rfl, hpre⟩ := hrel
    have HP : Hid (∀ i x, i < k → S[i]? = some x → notN x = false) := hpre
    clear hpre
    by_cases hlt : k < S.length
    · obtain ⟨t, ht⟩ : ∃ t, S[k]? = some t := ⟨S[k], List.getElem?_eq_getElem hlt⟩
      obtain ⟨b, off, rfl, hcell⟩ := (Strs.sa (HG.out (.cells #[.slice sa S.length sc, .slice aa A.length ac] 25)).s).2 k t ht
      have htl := HT.out t (List.mem_of_getElem? ht)
      obtain ⟨q, hq⟩ : ∃ q, RC.isNm t = q := ⟨_, rfl⟩
      have CI : Hid (∀ W', Calls Tryd.prog 16 #[.string (M.bs t)] W' fun e w' => e = .returned (.bool q) ∧ w' = W') := fun W' => by rw [← hq]; exact rIsName_at t W' htl
      cases q
      · have HF : Hid (RC.can (S, A) = false) := by
          show _ = _
          rw [HQ.out, any_of ht (show notN t = true by simp [notN, hq])]; rfl
        clear ht hq
        go_wp2_with (go_at_call 16; refine (CI.out _).mono ?_; rintro e w' ⟨rfl, hw⟩; rw [hw]; clear hw w')
        go_ret
        exact ⟨by rw [HF.out]; rfl, HW.out _⟩
      · have HE : Hid (∀ i x, i < k + 1 → S[i]? = some x → notN x = false) := fun i x hi hx => by
          rcases (by omega : i < k ∨ i = k) with h' | rfl
          · exact HP.out i x h' hx
          · rw [ht] at hx; cases hx; simp [notN, hq]
        clear ht hq
        go_wp2_with (go_at_call 16; refine (CI.out _).mono ?_; rintro e w' ⟨rfl, hw⟩; rw [hw]; clear hw w')
        go_round
        case rel => exact ⟨k + 1, by omega, by go_num, HE.out⟩
        case measure => simp [intOf]; omega
    · obtain rfl : k = S.length := by omega
      have HQ2 : Hid (RC.can (S, A) = !(A.any notA)) := by
        show _ = _
        rw [HQ.out, any_not HP.out, Bool.false_or]
      clear HP HQ HT
      go_wp2_with fail
      have HGA : Hid (GA (W.alloc (.cells #[.slice sa S.length sc, .slice aa A.length ac] 25)).heap.size (W.alloc (.cells #[.slice sa S.length sc, .slice aa A.length ac] 25)) (S, A) sa sc aa ac) := HG.out _
      have HC0 : Hid (∀ W', Bl (W.alloc (.cells #[.slice sa S.length sc, .slice aa A.length ac] 25)) W' → W'.cell? ⟨W.heap.size, 0, none⟩ = some (.slice sa S.length sc) ∧ W'.cell? ⟨W.heap.size, 1, none⟩ = some (.slice aa A.length ac)) := fun W' h => C0.out _ W' h
      have HWF : Hid (∀ W', Bl (W.alloc (.cells #[.slice sa S.length sc, .slice aa A.length ac] 25)) W' → Bl w W') := fun W' h => (HW.out _).step h
      have HR0 : Hid (Bl (W.alloc (.cells #[.slice sa S.length sc, .slice aa A.length ac] 25)) (W.alloc (.cells #[.slice sa S.length sc, .slice aa A.length ac] 25))) := Bl.refl _
      have hbx : W.heap.size < (W.alloc (.cells #[.slice sa S.length sc, .slice aa A.length ac] 25)).heap.size := by simp
      clear HG C0 HW
      generalize W.heap.size = bx at *
      generalize W.alloc (.cells #[.slice sa S.length sc, .slice aa A.length ac] 25) = W1 at *
      go_loopw [4, 5, 6] (fun u4 u5 u6 wr => ∃ k : Nat, k ≤ A.length ∧ u4 = .int .i64 k ∧ (∀ i x, i < k → A[i]? = some x → notA x = false) ∧ Bl W1 wr) (fun u4 _ _ _ => A.length - (intOf u4).toNat)
      case atStart => exact ⟨0, Nat.zero_le _, rfl, fun i x hi => by omega, HR0.out⟩
      case round =>
        obtain ⟨k, hk, rfl, hpre, hbl⟩ := hrel
        have HP : Hid (∀ i x, i < k → A[i]? = some x → notA x = false) := hpre
        have HBR : Hid (Bl W1 wr) := hbl
        obtain ⟨hc0, hc1⟩ := HC0.out _ hbl
        have hbw : bx < wr.heap.size := Nat.lt_of_lt_of_le hbx (Below.size hbl)
        clear hpre hbl HR0
        by_cases hlt : k < A.length
        · obtain ⟨t, ht⟩ : ∃ t, A[k]? = some t := ⟨A[k], List.getElem?_eq_getElem hlt⟩
          obtain ⟨b, off, x, c, rfl, hb, hr, hs⟩ := HGA.out.a.bl HBR.out k t ht
          obtain ⟨n, ins, code⟩ := t
          obtain ⟨o1, o2, o3, o4⟩ := HKA.out _ (List.mem_of_getElem? ht)
          simp only [] at o1 o2 o4 hs
          have hz1 := M.bs_size n
          have hz2 := M.bs_size code
          have HF : Hid (notA (n, ins, code) = true → RC.can (S, A) = false) := fun h => by rw [HQ2.out, any_of ht h]; rfl
          have HE : Hid (notA (n, ins, code) = false → ∀ i x, i < k + 1 → A[i]? = some x → notA x = false) := fun h i x hi hx => by
            rcases (by omega : i < k ∨ i = k) with h' | rfl
            · exact HP.out i x h' hx
            · rw [ht] at hx; cases hx; exact h
          have HO3 : Hid (∀ s ∈ ins, s.length ≤ maxLen) := o3
          have HI : Hid (∀ o, SA (wr.alloc o) x ins) := fun o => (Strs.sa (hs.bl ((Bl.refl wr).alloc o))).2
          have hi := infoAc (n, ins, code) x c
          have HR : Hid (wr.rangeAt b (off + k * 3) (acL (n, ins, code) x c)) := hr
          have HWA : Hid (∀ o, Bl W1 (wr.alloc o)) := fun o => HBR.out.alloc o
          unfold acL at hi HR
          simp only [] at hi HR
          obtain ⟨qn, hqn⟩ : ∃ q, RC.isNm n = q := ⟨_, rfl⟩
          have CN : Hid (∀ W', Calls Tryd.prog 16 #[.string (M.bs n)] W' fun e w' => e = .returned (.bool qn) ∧ w' = W') := fun W' => by rw [← hqn]; exact rIsName_at n W' o1
          unfold maxLen at o1 o2 o4
          clear ht hr hs o3
          cases qn
          · have HT : Hid (RC.can (S, A) = false) := HF.out (by simp [notA, hqn])
            clear HF HE hqn
            go_wp2_with (first | (refine wpList_load_mid rfl 42 _ rfl b (off + k * 3) rfl _ _ HR.out hum rfl hi ?_; clear HR) | (go_at_call 16; refine (CN.out _).mono ?_; rintro e w' ⟨rfl, hw⟩; rw [hw]; clear hw w' CN))
            go_ret
            exact ⟨by rw [HT.out]; rfl, HWF.out _ (HWA.out _)⟩
          by_cases c2 : 4 < ins.length
          · have HT : Hid (RC.can (S, A) = false) := HF.out (by simp [notA, c2])
            clear HF HE
            go_wp2_with (first | (refine wpList_load_mid rfl 42 _ rfl b (off + k * 3) rfl _ _ HR.out hum rfl hi ?_; clear HR) | (go_at_call 16; refine (CN.out _).mono ?_; rintro e w' ⟨rfl, hw⟩; rw [hw]; clear hw w' CN))
            go_ret
            exact ⟨by rw [HT.out]; rfl, HWF.out _ (HWA.out _)⟩
          by_cases c3 : 64 < code.length
          · have HT : Hid (RC.can (S, A) = false) := HF.out (by simp [notA, c3])
            clear HF HE
            go_wp2_with (first | (refine wpList_load_mid rfl 42 _ rfl b (off + k * 3) rfl _ _ HR.out hum rfl hi ?_; clear HR) | (go_at_call 16; refine (CN.out _).mono ?_; rintro e w' ⟨rfl, hw⟩; rw [hw]; clear hw w' CN))
            go_ret
            exact ⟨by rw [HT.out]; rfl, HWF.out _ (HWA.out _)⟩
          have HBG : Hid (notA (n, ins, code) = ins.any notN) := by
            show _ = _
            simp only [notA, hqn, decide_eq_false c2, decide_eq_false c3, Bool.false_or, Bool.not_true]
          go_wp2_with (first | (refine wpList_load_mid rfl 42 _ rfl b (off + k * 3) rfl _ _ HR.out hum rfl hi ?_; clear HR) | (go_at_call 16; refine (CN.out _).mono ?_; rintro e w' ⟨rfl, hw⟩; rw [hw]; clear hw w' CN))
          go_loop [6] (fun u6 => ∃ j : Nat, j ≤ ins.length ∧ u6 = .int .i64 j ∧ ∀ i x, i < j → ins[i]? = some x → notN x = false) (fun u6 => ins.length - (intOf u6).toNat)
          case atStart => exact ⟨0, Nat.zero_le _, rfl, fun i x hi => by omega⟩
          case round =>
            obtain ⟨j, hj, rfl, hpre⟩ := hrel
            have HPJ : Hid (∀ i x, i < j → ins[i]? = some x → notN x = false) := hpre
            clear hpre
            by_cases hlj : j < ins.length
            · obtain ⟨s, hs⟩ : ∃ s, ins[j]? = some s := ⟨ins[j], List.getElem?_eq_getElem hlj⟩
              obtain ⟨b2, off2, rfl, hcell⟩ := HI.out (.cells #[.string (M.bs n), .slice x ins.length c, .string (M.bs code)] 42) j s hs
              have hsl := HO3.out s (List.mem_of_getElem? hs)
              obtain ⟨q, hq⟩ : ∃ q, RC.isNm s = q := ⟨_, rfl⟩
              have CI : Hid (∀ W', Calls Tryd.prog 16 #[.string (M.bs s)] W' fun e w' => e = .returned (.bool q) ∧ w' = W') := fun W' => by rw [← hq]; exact rIsName_at s W' hsl
              cases q
              · have HT : Hid (RC.can (S, A) = false) := HF.out (by rw [HBG.out]; exact any_of hs (by simp [notN, hq]))
                clear hs HF HE hq
                go_wp2_with (go_at_call 16; refine (CI.out _).mono ?_; rintro e w' ⟨rfl, hw⟩; rw [hw]; clear hw w')
                go_ret
                exact ⟨by rw [HT.out]; rfl, HWF.out _ (HWA.out _)⟩
              · have HEJ : Hid (∀ i x, i < j + 1 → ins[i]? = some x → notN x = false) := fun i x hi hx => by
                  rcases (by omega : i < j ∨ i = j) with h' | rfl
                  · exact HPJ.out i x h' hx
                  · rw [hs] at hx; cases hx; simp [notN, hq]
                clear hs HF HE hq
                go_wp2_with (go_at_call 16; refine (CI.out _).mono ?_; rintro e w' ⟨rfl, hw⟩; rw [hw]; clear hw w')
                go_round
                case rel => exact ⟨j + 1, by omega, by go_num, HEJ.out⟩
                case measure => simp [intOf]; omega
            · obtain rfl : j = ins.length := by omega
              have HN : Hid (∀ i x, i < k + 1 → A[i]? = some x → notA x = false) := HE.out (by rw [HBG.out]; exact any_not HPJ.out)
              clear HF HE
              go_wp2_with fail
              go_roundw
              case rel => exact ⟨k + 1, by omega, by go_num, HN.out, HWA.out _⟩
              case measure => simp [intOf]; omega
        · obtain rfl : k = A.length := by omega
          have HT : Hid (RC.can (S, A) = true) := by show _ = _; rw [HQ2.out, any_not HP.out]; rfl
          go_wp2_with fail
          go_ret
          exact ⟨by rw [HT.out]; rfl, HWF.out _ HBR.out⟩
end Go.Proofs.YtgjpcddjfmdobaaDoor
