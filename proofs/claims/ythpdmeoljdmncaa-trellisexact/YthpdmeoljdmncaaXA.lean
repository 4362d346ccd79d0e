/- The texts X7a X7b X7c as one. -/
import Derived.Test.YthpdmeoljdmncaaGre8
/- The reference's IsName and good. -/
namespace Go.Proofs.Ythpdmeoljdmncaa
open Go.RowKit
set_option linter.unusedVariables false

theorem nmB_int (c : UInt8) : RC.nmB c = ((decide ((97 : Int) ≤ (c.toNat : Int)) && decide ((c.toNat : Int) ≤ 122)) || (decide ((48 : Int) ≤ (c.toNat : Int)) && decide ((c.toNat : Int) ≤ 57))) := by
  unfold RC.nmB
  congr 1 <;> congr 1 <;> rw [Bool.eq_iff_iff] <;> simp <;> omega
set_option maxHeartbeats 2000000 in
theorem rIsName_at (s : List UInt8) (w : World) (hs : s.length ≤ maxLen) :
    Calls Try.prog 62 #[.string (M.bs s)] w fun e w' => e = .returned (.bool (RC.isNm s)) ∧ w' = w := by
  unfold maxLen at hs
  have hbs := M.bs_size s
  by_cases h0 : s.length = 0
  · have hq : RC.isNm s = false := by rw [List.length_eq_zero_iff.1 h0]; rfl
    rw [hq]
    go_enter Try.func62, Try.ntmps62
    go_wp2_with fail
    go_ret
    exact ⟨rfl, rfl⟩
  by_cases h8 : 8 < s.length
  · rw [isNm_long s h8]
    have h1 : ¬ (s.length : Int) < 1 := by omega
    go_enter Try.func62, Try.ntmps62
    go_wp2_with fail
    go_ret
    exact ⟨rfl, rfl⟩
  have H0 : Hid (s ≠ []) := fun e => h0 (by rw [e]; rfl)
  have h1 : ¬ (s.length : Int) < 1 := by omega
  go_enter Try.func62, Try.ntmps62
  go_wp2_with fail
  go_loop [3] (fun u3 => ∃ k : Nat, k ≤ s.length ∧ u3 = .int .i64 k ∧ (s.take k).all RC.nmB = true) (fun u3 => s.length - (intOf u3).toNat)
  case atStart => exact ⟨0, Nat.zero_le _, rfl, rfl⟩
  case round =>
    obtain ⟨k, hk, rfl, ha⟩ := hrel
    have HA : Hid ((s.take k).all RC.nmB = true) := ha
    clear ha
    by_cases hlt : k < s.length
    · have hsk : (M.bs s)[k]'(by omega) = s[k] := by simp [M.bs, ByteArray.getElem_eq_getElem_data]
      have hg : s[k]? = some s[k] := List.getElem?_eq_getElem hlt
      have HS : Hid ((s.take (k + 1)).all RC.nmB = RC.nmB s[k]) := all_take s k _ hg HA.out
      have HB : Hid (RC.nmB s[k] = false → RC.isNm s = false) := isNm_bad s k _ hg
      clear hg
      generalize s[k] = c at *
      rw [nmB_int] at HS HB
      have hcl := c.toNat_lt
      by_cases c1 : (97 : Int) ≤ (c.toNat : Int) <;> by_cases c2 : (c.toNat : Int) ≤ 122 <;> by_cases c3 : (48 : Int) ≤ (c.toNat : Int) <;> by_cases c4 : (c.toNat : Int) ≤ 57
      all_goals
        first
          | (exfalso; omega)
          | (simp only [c1, c2, c3, c4, decide_true, decide_false, Bool.and_true, Bool.and_false, Bool.or_true, Bool.or_false, Bool.and_self, Bool.or_self] at HS HB
             go_wp2_with fail
             first
               | (go_ret
                  exact ⟨by rw [HB.out trivial]; rfl, rfl⟩)
               | (go_round
                  case rel => exact ⟨k + 1, by omega, by go_num, HS.out⟩
                  case measure => simp [intOf]; omega))
    · obtain rfl : k = s.length := by omega
      have HG : Hid (RC.isNm s = true) := isNm_good s H0.out (by omega) HA.out
      go_wp2_with fail
      go_ret
      exact ⟨by rw [HG.out]; rfl, rfl⟩

def notN (s : List UInt8) : Bool := !RC.isNm s
def notA (a : RC.Ac) : Bool := !RC.isNm a.1 || decide (4 < a.2.1.length) || decide (64 < a.2.2.length) || a.2.1.any notN
theorem notA_can (a : RC.Ac) : RC.canA a = !notA a := by
  have h : a.2.1.all RC.isNm = !(a.2.1.any notN) := (any_all RC.isNm a.2.1).symm
  have e1 : decide (a.2.1.length ≤ 4) = !decide (4 < a.2.1.length) := by rw [Bool.eq_iff_iff]; simp
  have e2 : decide (a.2.2.length ≤ 64) = !decide (64 < a.2.2.length) := by rw [Bool.eq_iff_iff]; simp
  unfold RC.canA notA
  rw [h, e1, e2]
  cases RC.isNm a.1 <;> cases decide (4 < a.2.1.length) <;> cases decide (64 < a.2.2.length) <;> cases a.2.1.any notN <;> rfl
theorem can_any (S : List (List UInt8)) (A : List RC.Ac) : (true && true && S.all RC.isNm && A.all RC.canA) = !(S.any notN || A.any notA) := by
  have h1 : S.all RC.isNm = !(S.any notN) := (any_all RC.isNm S).symm
  have h2 : A.all RC.canA = !(A.any notA) := by
    rw [← any_all]
    congr 2
    funext a
    rw [notA_can, Bool.not_not]
  rw [h1, h2]
  cases S.any notN <;> cases A.any notA <;> rfl

set_option maxRecDepth 8000 in
set_option maxHeartbeats 4000000 in
theorem rgood_x (g : RC.Gr) (sa : Option Addr) (sc : Nat) (aa : Option Addr) (ac : Nat) {w W : World} (HB : Bl w W) (hg : GA W.heap.size W g sa sc aa ac) (hk : grOk g) :
    Calls Try.prog 45 #[.agg (gv g sa sc aa ac)] W fun e w' => e = .returned (.bool (RC.can g)) ∧ Bl w w' := by
  obtain ⟨S, A⟩ := g
  have hS := hk.s
  have hA := hk.a
  simp only [] at hS hA
  unfold maxLen at hS hA
  have HT : Hid (∀ s ∈ S, s.length ≤ maxLen) := hk.t
  have HKA : Hid (∀ t ∈ A, acOk t) := hk.b
  have HW : Hid (∀ o, Bl w (W.alloc o)) := fun o => HB.alloc o
  have HG : Hid (∀ o, GA (W.alloc o).heap.size (W.alloc o) (S, A) sa sc aa ac) := fun o => hg.bl ((Bl.refl W).alloc o)
  obtain ⟨fs, hum⟩ := undAc
  unfold gv
  simp only []
  by_cases h1 : 8 < S.length
  · have hq : RC.can (S, A) = false := by simp only [RC.can]; rw [decide_eq_false (by omega)]; simp
    rw [hq]
    clear hg hk HB hq
    go_enter Try.func45, Try.ntmps45
    go_wp2_with fail
    go_ret
    exact ⟨rfl, HW.out _⟩
  by_cases h2 : 12 < A.length
  · have hq : RC.can (S, A) = false := by simp only [RC.can]; rw [decide_eq_false (show ¬ A.length ≤ 12 by omega)]; simp
    rw [hq]
    clear hg hk HB hq
    go_enter Try.func45, Try.ntmps45
    go_wp2_with fail
    go_ret
    exact ⟨rfl, HW.out _⟩
  have HQ : Hid (RC.can (S, A) = !(S.any notN || A.any notA)) := by
    show _ = _
    simp only [RC.can]; rw [decide_eq_true (show S.length ≤ 8 by omega), decide_eq_true (show A.length ≤ 12 by omega)]; exact can_any S A
  have C0 : Hid (∀ T W', Bl (W.alloc (.cells #[.slice sa S.length sc, .slice aa A.length ac] T)) W' → W'.cell? ⟨W.heap.size, 0, none⟩ = some (.slice sa S.length sc) ∧ W'.cell? ⟨W.heap.size, 1, none⟩ = some (.slice aa A.length ac)) := fun T W' h => by
    have hz : W.heap.size < (W.alloc (.cells #[.slice sa S.length sc, .slice aa A.length ac] T)).heap.size := by simp
    refine ⟨?_, ?_⟩
    · rw [h.cell hz, Lib.cell_of_heap (heap_alloc_new W _)]; rfl
    · rw [h.cell hz, Lib.cell_of_heap (heap_alloc_new W _)]; rfl
  clear hg hk HB
  go_enter Try.func45, Try.ntmps45
  go_wp2_with fail
  go_loop [3] (fun u3 => ∃ k : Nat, k ≤ S.length ∧ u3 = .int .i64 k ∧ ∀ i x, i < k → S[i]? = some x → notN x = false) (fun u3 => S.length - (intOf u3).toNat)
  case atStart => exact ⟨0, Nat.zero_le _, rfl, fun i x hi => by omega⟩
  case round =>
    obtain ⟨k, hk, rfl, hpre⟩ := hrel
    have HP : Hid (∀ i x, i < k → S[i]? = some x → notN x = false) := hpre
    clear hpre
    by_cases hlt : k < S.length
    · obtain ⟨t, ht⟩ : ∃ t, S[k]? = some t := ⟨S[k], List.getElem?_eq_getElem hlt⟩
      obtain ⟨b, off, rfl, hcell⟩ := (Strs.sa (HG.out (.cells #[.slice sa S.length sc, .slice aa A.length ac] 25)).s).2 k t ht
      have htl := HT.out t (List.mem_of_getElem? ht)
      obtain ⟨q, hq⟩ : ∃ q, RC.isNm t = q := ⟨_, rfl⟩
      have CI : Hid (∀ W', Calls Try.prog 62 #[.string (M.bs t)] W' fun e w' => e = .returned (.bool q) ∧ w' = W') := fun W' => by rw [← hq]; exact rIsName_at t W' htl
      cases q
      · have HF : Hid (RC.can (S, A) = false) := by
          show _ = _
          rw [HQ.out, any_of ht (show notN t = true by simp [notN, hq])]; rfl
        clear ht hq
        go_wp2_with (go_at_call 62; refine (CI.out _).mono ?_; rintro e w' ⟨rfl, hw⟩; rw [hw]; clear hw w')
        go_ret
        exact ⟨by rw [HF.out]; rfl, HW.out _⟩
      · have HE : Hid (∀ i x, i < k + 1 → S[i]? = some x → notN x = false) := fun i x hi hx => by
          rcases (by omega : i < k ∨ i = k) with h' | rfl
          · exact HP.out i x h' hx
          · rw [ht] at hx; cases hx; simp [notN, hq]
        clear ht hq
        go_wp2_with (go_at_call 62; refine (CI.out _).mono ?_; rintro e w' ⟨rfl, hw⟩; rw [hw]; clear hw w')
        go_round
        case rel => exact ⟨k + 1, by omega, by go_num, HE.out⟩
        case measure => simp [intOf]; omega
    · obtain rfl : k = S.length := by omega
      have HQ2 : Hid (RC.can (S, A) = !(A.any notA)) := by
        show _ = _
        rw [HQ.out, any_not HP.out, Bool.false_or]
      clear HP HQ HT
      go_wp2_with fail
      have HGA : Hid (GA (W.alloc (.cells #[.slice sa S.length sc, .slice aa A.length ac] 25)).heap.size (W.alloc (.cells #[.slice sa S.length sc, .slice aa A.length ac] 25)) (S, A) sa sc aa ac) := HG.out _
      have HC0 : Hid (∀ W', Bl (W.alloc (.cells #[.slice sa S.length sc, .slice aa A.length ac] 25)) W' → W'.cell? ⟨W.heap.size, 0, none⟩ = some (.slice sa S.length sc) ∧ W'.cell? ⟨W.heap.size, 1, none⟩ = some (.slice aa A.length ac)) := fun W' h => C0.out _ W' h
      have HWF : Hid (∀ W', Bl (W.alloc (.cells #[.slice sa S.length sc, .slice aa A.length ac] 25)) W' → Bl w W') := fun W' h => (HW.out _).step h
      have HR0 : Hid (Bl (W.alloc (.cells #[.slice sa S.length sc, .slice aa A.length ac] 25)) (W.alloc (.cells #[.slice sa S.length sc, .slice aa A.length ac] 25))) := Bl.refl _
      have hbx : W.heap.size < (W.alloc (.cells #[.slice sa S.length sc, .slice aa A.length ac] 25)).heap.size := by simp
      clear HG C0 HW
      generalize W.heap.size = bx at *
      generalize W.alloc (.cells #[.slice sa S.length sc, .slice aa A.length ac] 25) = W1 at *
      go_loopw [4, 5, 6] (fun u4 u5 u6 wr => ∃ k : Nat, k ≤ A.length ∧ u4 = .int .i64 k ∧ (∀ i x, i < k → A[i]? = some x → notA x = false) ∧ Bl W1 wr) (fun u4 _ _ _ => A.length - (intOf u4).toNat)
      case atStart => exact ⟨0, Nat.zero_le _, rfl, fun i x hi => by omega, HR0.out⟩
      case round =>
        obtain ⟨k, hk, rfl, hpre, hbl⟩ := hrel
        have HP : Hid (∀ i x, i < k → A[i]? = some x → notA x = false) := hpre
        have HBR : Hid (Bl W1 wr) := hbl
        obtain ⟨hc0, hc1⟩ := HC0.out _ hbl
        have hbw : bx < wr.heap.size := Nat.lt_of_lt_of_le hbx (Below.size hbl)
        clear hpre hbl HR0
        by_cases hlt : k < A.length
        · obtain ⟨t, ht⟩ : ∃ t, A[k]? = some t := ⟨A[k], List.getElem?_eq_getElem hlt⟩
          obtain ⟨b, off, x, c, rfl, hb, hr, hs⟩ := HGA.out.a.bl HBR.out k t ht
          obtain ⟨n, ins, code⟩ := t
          obtain ⟨o1, o2, o3, o4⟩ := HKA.out _ (List.mem_of_getElem? ht)
          simp only [] at o1 o2 o4 hs
          have hz1 := M.bs_size n
          have hz2 := M.bs_size code
          have HF : Hid (notA (n, ins, code) = true → RC.can (S, A) = false) := fun h => by rw [HQ2.out, any_of ht h]; rfl
          have HE : Hid (notA (n, ins, code) = false → ∀ i x, i < k + 1 → A[i]? = some x → notA x = false) := fun h i x hi hx => by
            rcases (by omega : i < k ∨ i = k) with h' | rfl
            · exact HP.out i x h' hx
            · rw [ht] at hx; cases hx; exact h
          have HO3 : Hid (∀ s ∈ ins, s.length ≤ maxLen) := o3
          have HI : Hid (∀ o, SA (wr.alloc o) x ins) := fun o => (Strs.sa (hs.bl ((Bl.refl wr).alloc o))).2
          have hi := infoAc (n, ins, code) x c
          have HR : Hid (wr.rangeAt b (off + k * 3) (acL (n, ins, code) x c)) := hr
          have HWA : Hid (∀ o, Bl W1 (wr.alloc o)) := fun o => HBR.out.alloc o
          unfold acL at hi HR
          simp only [] at hi HR
          obtain ⟨qn, hqn⟩ : ∃ q, RC.isNm n = q := ⟨_, rfl⟩
          have CN : Hid (∀ W', Calls Try.prog 62 #[.string (M.bs n)] W' fun e w' => e = .returned (.bool qn) ∧ w' = W') := fun W' => by rw [← hqn]; exact rIsName_at n W' o1
          unfold maxLen at o1 o2 o4
          clear ht hr hs o3
          cases qn
          · have HT : Hid (RC.can (S, A) = false) := HF.out (by simp [notA, hqn])
            clear HF HE hqn
            go_wp2_with (first | (refine wpList_load_mid rfl 41 _ rfl b (off + k * 3) rfl _ _ HR.out hum rfl hi ?_; clear HR) | (go_at_call 62; refine (CN.out _).mono ?_; rintro e w' ⟨rfl, hw⟩; rw [hw]; clear hw w' CN))
            go_ret
            exact ⟨by rw [HT.out]; rfl, HWF.out _ (HWA.out _)⟩
          by_cases c2 : 4 < ins.length
          · have HT : Hid (RC.can (S, A) = false) := HF.out (by simp [notA, c2])
            clear HF HE
            go_wp2_with (first | (refine wpList_load_mid rfl 41 _ rfl b (off + k * 3) rfl _ _ HR.out hum rfl hi ?_; clear HR) | (go_at_call 62; refine (CN.out _).mono ?_; rintro e w' ⟨rfl, hw⟩; rw [hw]; clear hw w' CN))
            go_ret
            exact ⟨by rw [HT.out]; rfl, HWF.out _ (HWA.out _)⟩
          by_cases c3 : 64 < code.length
          · have HT : Hid (RC.can (S, A) = false) := HF.out (by simp [notA, c3])
            clear HF HE
            go_wp2_with (first | (refine wpList_load_mid rfl 41 _ rfl b (off + k * 3) rfl _ _ HR.out hum rfl hi ?_; clear HR) | (go_at_call 62; refine (CN.out _).mono ?_; rintro e w' ⟨rfl, hw⟩; rw [hw]; clear hw w' CN))
            go_ret
            exact ⟨by rw [HT.out]; rfl, HWF.out _ (HWA.out _)⟩
          have HBG : Hid (notA (n, ins, code) = ins.any notN) := by
            show _ = _
            simp only [notA, hqn, decide_eq_false c2, decide_eq_false c3, Bool.false_or, Bool.not_true]
          go_wp2_with (first | (refine wpList_load_mid rfl 41 _ rfl b (off + k * 3) rfl _ _ HR.out hum rfl hi ?_; clear HR) | (go_at_call 62; refine (CN.out _).mono ?_; rintro e w' ⟨rfl, hw⟩; rw [hw]; clear hw w' CN))
          go_loop [6] (fun u6 => ∃ j : Nat, j ≤ ins.length ∧ u6 = .int .i64 j ∧ ∀ i x, i < j → ins[i]? = some x → notN x = false) (fun u6 => ins.length - (intOf u6).toNat)
          case atStart => exact ⟨0, Nat.zero_le _, rfl, fun i x hi => by omega⟩
          case round =>
            obtain ⟨j, hj, rfl, hpre⟩ := hrel
            have HPJ : Hid (∀ i x, i < j → ins[i]? = some x → notN x = false) := hpre
            clear hpre
            by_cases hlj : j < ins.length
            · obtain ⟨s, hs⟩ : ∃ s, ins[j]? = some s := ⟨ins[j], List.getElem?_eq_getElem hlj⟩
              obtain ⟨b2, off2, rfl, hcell⟩ := HI.out (.cells #[.string (M.bs n), .slice x ins.length c, .string (M.bs code)] 41) j s hs
              have hsl := HO3.out s (List.mem_of_getElem? hs)
              obtain ⟨q, hq⟩ : ∃ q, RC.isNm s = q := ⟨_, rfl⟩
              have CI : Hid (∀ W', Calls Try.prog 62 #[.string (M.bs s)] W' fun e w' => e = .returned (.bool q) ∧ w' = W') := fun W' => by rw [← hq]; exact rIsName_at s W' hsl
              cases q
              · have HT : Hid (RC.can (S, A) = false) := HF.out (by rw [HBG.out]; exact any_of hs (by simp [notN, hq]))
                clear hs HF HE hq
                go_wp2_with (go_at_call 62; refine (CI.out _).mono ?_; rintro e w' ⟨rfl, hw⟩; rw [hw]; clear hw w')
                go_ret
                exact ⟨by rw [HT.out]; rfl, HWF.out _ (HWA.out _)⟩
              · have HEJ : Hid (∀ i x, i < j + 1 → ins[i]? = some x → notN x = false) := fun i x hi hx => by
                  rcases (by omega : i < j ∨ i = j) with h' | rfl
                  · exact HPJ.out i x h' hx
                  · rw [hs] at hx; cases hx; simp [notN, hq]
                clear hs HF HE hq
                go_wp2_with (go_at_call 62; refine (CI.out _).mono ?_; rintro e w' ⟨rfl, hw⟩; rw [hw]; clear hw w')
                go_round
                case rel => exact ⟨j + 1, by omega, by go_num, HEJ.out⟩
                case measure => simp [intOf]; omega
            · obtain rfl : j = ins.length := by omega
              have HN : Hid (∀ i x, i < k + 1 → A[i]? = some x → notA x = false) := HE.out (by rw [HBG.out]; exact any_not HPJ.out)
              clear HF HE
              go_wp2_with fail
              go_roundw
              case rel => exact ⟨k + 1, by omega, by go_num, HN.out, HWA.out _⟩
              case measure => simp [intOf]; omega
        · obtain rfl : k = A.length := by omega
          have HT : Hid (RC.can (S, A) = true) := by show _ = _; rw [HQ2.out, any_not HP.out]; rfl
          go_wp2_with fail
          go_ret
          exact ⟨by rw [HT.out]; rfl, HWF.out _ HBR.out⟩
end Go.Proofs.Ythpdmeoljdmncaa

/- The reference's Code. -/
namespace Go.Proofs.Ythpdmeoljdmncaa
open Go.RowKit
set_option linter.unusedVariables false

/-- a byte in memory -/
def vB (c : UInt8) : Value := .int .u8 (c.toNat : Int)
theorem digR_at (n : Nat) (h : n < 16) (k : IntKind) (W : World) : (Instr.index 9 (.string ⟨#[48, 49, 50, 51, 52, 53, 54, 55, 56, 57, 97, 98, 99, 100, 101, 102]⟩) (.int k n)).run Try.prog W = .ok (vB (RC.hx n)) W := by
  have e : (⟨#[48, 49, 50, 51, 52, 53, 54, 55, 56, 57, 97, 98, 99, 100, 101, 102]⟩ : ByteArray)[n]? = some (RC.hx n) := by
    have hh : ∀ m : Fin 16, (⟨#[48, 49, 50, 51, 52, 53, 54, 55, 56, 57, 97, 98, 99, 100, 101, 102]⟩ : ByteArray)[m.val]? = some (RC.hx m.val) := by decide +kernel
    exact hh ⟨n, h⟩
  have hs : (⟨#[48, 49, 50, 51, 52, 53, 54, 55, 56, 57, 97, 98, 99, 100, 101, 102]⟩ : ByteArray).size = 16 := rfl
  simp [Instr.index, run_underlying Try.underlying9, asIntOf, go_sem, e, vB]
theorem strR_at (s : List UInt8) (n : Nat) (c : UInt8) (h : s[n]? = some c) (W : World) : (Instr.index 9 (.string (M.bs s)) (.int .i64 n)).run Try.prog W = .ok (vB c) W := by
  have e : (M.bs s)[n]? = some c := by
    have hl := (List.getElem?_eq_some_iff.1 h).1
    have h2 := M.bs_size s
    rw [getElem?_pos (M.bs s) n (by omega)]
    have : (M.bs s)[n]'(by omega) = s[n] := by simp [M.bs, ByteArray.getElem_eq_getElem_data]
    rw [this]
    rw [List.getElem?_eq_getElem hl] at h
    exact h
  simp [Instr.index, run_underlying Try.underlying9, asIntOf, go_sem, e, vB]
/-- bytes in memory, as a text -/
theorem conv_own {N n : Nat} {W : World} {v : Value} (l : List UInt8) (h : W.ownsRow N 5 1 v n (l.map vB)) (hl : l.length = n) (hp : 0 < n) :
    ∃ g cap, v = .slice (some ⟨g, 0, none⟩) n cap ∧ (convert 78 9 v).run Try.prog W = .ok (.string (M.bs l)) W := by
  obtain ⟨h0, ⟨_, h2⟩ | ⟨g, cap, cur, h1, h2, h3, h4, h5, h6, h7⟩⟩ := h
  · omega
  · refine ⟨g, cap, h1, ?_⟩
    rw [h1]
    have := run_convert_bytes_back (P := Try.prog) W 78 9 5 ⟨g, 0, none⟩ cap l Try.underlying78 Try.underlying5 Try.underlying9 (fun j hj => by
      rw [Addr.add_mid, Nat.zero_add, Lib.cell_of_heap h3]
      have h8 : (cur.toList.take (n * 1))[j]? = (l.map vB)[j]? := by rw [h7]
      rw [List.getElem?_take_of_lt (by omega), List.getElem?_map, List.getElem?_eq_getElem hj] at h8
      rw [Array.getElem?_toList] at h8
      simpa [vB] using h8)
    rw [hl] at this
    exact this
theorem own_none (W : World) : (W.alloc (.cells #[] 5)).ownsRow W.heap.size 5 1 (.slice (some ⟨W.heap.size, 0, none⟩) 0 0) 0 ([].map vB) :=
  ⟨rfl, Or.inr ⟨W.heap.size, 0, #[], rfl, Nat.le_refl _, heap_alloc_new W _, Nat.le_refl _, Nat.zero_le _, rfl, rfl⟩⟩

set_option maxRecDepth 8000 in
set_option maxHeartbeats 2000000 in
theorem rCode_at (s : List UInt8) {w W : World} (HB : Bl w W) (hs : s.length ≤ 1000) :
    Calls Try.prog 46 #[.string (M.bs s)] W fun e w' => e = .returned (.string (M.bs (RC.codeW s))) ∧ Bl w w' := by
  have hbs := M.bs_size s
  have hem := bs_empty s
  by_cases h0 : s = []
  · have hq : RC.codeW s = [45] := by rw [h0]; rfl
    rw [hq]
    rw [decide_eq_true h0] at hem
    clear h0 hq
    go_enter Try.func46, Try.ntmps46
    go_wp2_with fail
    go_ret
    exact ⟨rfl, HB⟩
  have HQ : Hid (RC.codeW s = RC.hexs s) := if_neg h0
  have hs0 : 0 < s.length := List.length_pos_iff.2 h0
  rw [decide_eq_false h0] at hem
  have HB0 : Hid (Bl w W) := HB
  have HO0 : Hid ((W.alloc (.cells #[] 5)).ownsRow W.heap.size 5 1 (.slice (some ⟨W.heap.size, 0, none⟩) 0 0) 0 ([].map vB)) := own_none W
  have HB1 : Hid (Below W.heap.size W (W.alloc (.cells #[] 5))) := (Below.refl _ W).alloc (Nat.le_refl _) _
  clear h0 HB
  go_enter Try.func46, Try.ntmps46
  go_wp2_with fail
  go_loopw [3, 4] (fun u3 u4 wr => ∃ k : Nat, k ≤ s.length ∧ u4 = .int .i64 k ∧ wr.ownsRow W.heap.size 5 1 u3 (2 * k) ((RC.hexs (s.take k)).map vB) ∧ Below W.heap.size W wr) (fun _ u4 _ => s.length - (intOf u4).toNat)
  case atStart => exact ⟨0, by omega, rfl, HO0.out, HB1.out⟩
  case round =>
    obtain ⟨k, hk, rfl, hown, hbe⟩ := hrel
    clear HO0 HB1
    have HOW : Hid (wr.ownsRow W.heap.size 5 1 u3 (2 * k) ((RC.hexs (s.take k)).map vB)) := hown
    have HBE : Hid (Below W.heap.size W wr) := hbe
    have hsz : W.heap.size ≤ wr.heap.size := hbe.size
    clear hown hbe
    by_cases hlt : k < s.length
    · have hg : s[k]? = some s[k] := List.getElem?_eq_getElem hlt
      obtain ⟨c, hc⟩ : ∃ c, s[k] = c := ⟨_, rfl⟩
      rw [hc] at hg
      have HHX : Hid ((RC.hexs (s.take (k + 1))).map vB = (RC.hexs (s.take k)).map vB ++ [vB (RC.hx (c.toNat / 16)), vB (RC.hx (c.toNat % 16))]) := by
        show _ = _
        rw [List.take_add_one, hg]
        simp [RC.hexs, RC.hex2]
      have hcl := c.toNat_lt
      have dS := strR_at s k c hg
      have d1 := digR_at (c.toNat / 16) (by omega)
      have d2 := digR_at (c.toNat % 16) (by omega)
      have e1 : Int.tdiv (c.toNat : Int) 16 = ((c.toNat / 16 : Nat) : Int) := by rw [Int.tdiv_eq_ediv_of_nonneg (by omega)]; omega
      have e2 : Int.tmod (c.toNat : Int) 16 = ((c.toNat % 16 : Nat) : Int) := by rw [Int.tmod_eq_emod_of_nonneg (by omega)]; omega
      have e3 : IntKind.u8.wrap (((c.toNat / 16 : Nat) : Int)) = ((c.toNat / 16 : Nat) : Int) := by rw [IntKind.wrap_u8]; omega
      have e4 : IntKind.u8.wrap (((c.toNat % 16 : Nat) : Int)) = ((c.toNat % 16 : Nat) : Int) := by rw [IntKind.wrap_u8]; omega
      obtain ⟨m1, hm1⟩ : ∃ m, m = c.toNat / 16 := ⟨_, rfl⟩
      obtain ⟨m2, hm2⟩ : ∃ m, m = c.toNat % 16 := ⟨_, rfl⟩
      rw [← hm1] at d1 e1 e3 HHX
      rw [← hm2] at d2 e2 e4 HHX
      clear hm1 hm2 hc hg
      obtain ⟨i0, hi, hz0, hz1, hz2⟩ := TA.info_partsT (show (Try.prog.info? 5).map (fun i => (i.zero, i.size, i.bytes)) = some (some (.int .u8 0), 1, 1) by kernel_rfl)
      obtain ⟨y1, hy1⟩ : ∃ y, y = RC.hx m1 := ⟨_, rfl⟩
      obtain ⟨y2, hy2⟩ : ∃ y, y = RC.hx m2 := ⟨_, rfl⟩
      rw [← hy1] at d1 HHX
      rw [← hy2] at d2 HHX
      clear hy1 hy2
      unfold vB at dS d1 d2
      have OWN : Hid (∀ o, (wr.drew.alloc o).ownsRow W.heap.size 5 1 u3 (2 * k) ((RC.hexs (s.take k)).map vB)) := fun o => ownsRow_belowT HOW.out (((Bl.refl wr).drewN 1).alloc o)
      have NEWS : Hid (∀ (j : Nat) (u : Value), [vB y1, vB y2][j]? = some u → (wr.drew.alloc (.cells #[.int .u8 (y1.toNat : Int), .int .u8 (y2.toNat : Int)] 5)).cell? ((⟨wr.heap.size, 0, none⟩ : Addr).add j) = some u) := fun j u hu => World.news_of_block (heap_alloc_new wr.drew _) j u hu
      have FIN : Hid (∀ o w9, (wr.drew.alloc o).grownBy w9 u3.ownBlock → Below W.heap.size W w9) := fun o w9 hg => by
        have hb : Below W.heap.size W (wr.drew.alloc o) := HBE.out.trans ((((Bl.refl wr).drewN 1).alloc o : Below wr.heap.size wr _).mono hsz)
        exact hb.grown hg hb.size (fun q hq => (TA.owns_ge HOW.out hq).1)
      go_wp2_with fail
      go_region_law (refine step_append_lies _ (by rfl) _ _ 78 (by rfl) W.heap.size 5 i0 (.int .u8 0) 1 1 Try.underlying78 hi hz0 hz1 hz2 rfl (by decide) _ (2 * k) _ (by rfl) (OWN.out _) ⟨wr.heap.size, 0, none⟩ 2 2 [vB y1, vB y2] (by rfl) rfl NEWS.out (fun u hu => by simp at hu; rcases hu with rfl | rfl <;> rfl) (by decide) (by unfold maxLen; omega) (by omega) (by simp; omega) (wr.heap.size + 1) (by simp) ?_; intro g cap' w9 hown9 hgrow9 hat9 hlt9)
      all_goals
        have HO9 : Hid (w9.ownsRow W.heap.size 5 1 (.slice (some ⟨g, 0, none⟩) (2 * k + 2) cap') (2 * (k + 1)) ((RC.hexs (s.take (k + 1))).map vB)) := by
          show World.ownsRow _ _ _ _ _ _ _
          rw [HHX.out]; exact hown9
        have HB9 : Hid (Below W.heap.size W w9) := FIN.out _ _ hgrow9
        clear hown9 hgrow9 hat9
        go_wp2_with fail
        go_roundw
        case rel => exact ⟨k + 1, by omega, by go_num, HO9.out, HB9.out⟩
        case measure => simp [intOf]; omega
    · obtain rfl : k = s.length := by omega
      have hfull := HOW.out
      rw [List.take_length] at hfull
      obtain ⟨g, cap, rfl, hcv⟩ := conv_own (RC.hexs s) hfull (RC.hexs_length s) (by omega)
      clear HOW hfull
      go_wp2_with fail
      go_ret
      exact ⟨by rw [HQ.out]; rfl, HB0.out.step HBE.out⟩
end Go.Proofs.Ythpdmeoljdmncaa

/- The reference's Print. -/
namespace Go.Proofs.Ythpdmeoljdmncaa
open Go.RowKit
set_option linter.unusedVariables false
/-- what Print answers -/
def prV (g : RC.Gr) : Value := bif RC.can g then .tuple #[.string (M.bs (RC.text g)), .int .i64 0] else .tuple #[.string (M.bs []), .int .i64 1]

/-- what is written of k inputs -/
def insP (ins : List (List UInt8)) (k : Nat) : List UInt8 := if k = 0 then [] else [32, 102, 114, 111, 109] ++ Lib.joinTail [32] (ins.take k)
theorem insP_first (ins : List (List UInt8)) (x : List UInt8) (h : ins[0]? = some x) : insP ins 1 = ([32, 102, 114, 111, 109] ++ [32]) ++ x := by
  unfold insP
  rw [if_neg (by omega), List.take_add_one, h]
  simp [Lib.joinTail]
theorem insP_next (ins : List (List UInt8)) (k : Nat) (x : List UInt8) (h : ins[k]? = some x) (hk : k ≠ 0) : insP ins (k + 1) = (insP ins k ++ [32]) ++ x := by
  unfold insP
  rw [if_neg (by omega), if_neg hk, List.take_add_one, h]
  simp [Lib.joinTail]
theorem joinTail_app (a b : List (List UInt8)) : Lib.joinTail [32] (a ++ b) = Lib.joinTail [32] a ++ Lib.joinTail [32] b := by simp [Lib.joinTail]
theorem insP_mid (ins : List (List UInt8)) : insP ins ins.length = Lib.joinTail [32] (RC.midW ins) := by
  unfold insP RC.midW
  by_cases h : ins = []
  · subst h; rfl
  · have : ins.length ≠ 0 := fun e => h (List.length_eq_zero_iff.1 e)
    rw [if_neg this, if_neg h, List.take_length]
    simp [Lib.joinTail, RC.wFrom]
theorem lineA_eq (n : List UInt8) (ins : List (List UInt8)) (code : List UInt8) : RC.line (RC.words (n, ins, code)) = ((((([109, 97, 107, 101, 32] ++ n) ++ insP ins ins.length) ++ [32, 98, 121, 32]) ++ RC.codeW code) ++ [10]) := by
  rw [RC.words_tail, insP_mid]
  unfold RC.line RC.tailW
  rw [Lib.join_cons]
  rw [show (n, ins, code).1 :: (RC.midW (n, ins, code).2.1 ++ [RC.wBy, RC.codeW (n, ins, code).2.2]) = [n] ++ (RC.midW ins ++ [RC.wBy, RC.codeW code]) from rfl, joinTail_app, joinTail_app]
  simp [Lib.joinTail, RC.wMake, RC.wBy]
theorem lineS_eq (t : List UInt8) : RC.line [RC.wSource, t] = (([115, 111, 117, 114, 99, 101, 32] ++ t) ++ [10]) := by
  unfold RC.line
  rw [Lib.join_cons]
  simp [Lib.joinTail, RC.wSource]
theorem insP_le (ins : List (List UInt8)) (k : Nat) (hk : k ≤ ins.length) : (insP ins k).length ≤ (insP ins ins.length).length := by
  unfold insP
  by_cases h : k = 0
  · rw [if_pos h]; simp
  · rw [if_neg h, if_neg (by omega), List.take_length]
    have := Lib.joinTail_take_le [32] ins k
    simp only [List.length_append]; omega

set_option maxRecDepth 8000 in
set_option maxHeartbeats 8000000 in
theorem rPrint_yes (g : RC.Gr) (sa : Option Addr) (sc : Nat) (aa : Option Addr) (ac : Nat) {w W : World} (HB : Bl w W) (hg : GA W.heap.size W g sa sc aa ac) (hk : grOk g) (hc : RC.can g = true) :
    Calls Try.prog 24 #[.agg (gv g sa sc aa ac)] W fun e w' => e = .returned (.tuple #[.string (M.bs (RC.text g)), .int .i64 0]) ∧ Bl w w' := by
  obtain ⟨S, A⟩ := g
  have CC : Hid (∀ o, Calls Try.prog 45 #[.agg (gv (S, A) sa sc aa ac)] (W.alloc o) fun e w' => e = .returned (.bool true) ∧ Bl (W.alloc o) w') := fun o => by
    rw [← hc]; exact rgood_x (S, A) sa sc aa ac (Bl.refl _) (hg.bl ((Bl.refl W).alloc o)) hk
  obtain ⟨cp1, cp2, cp3, cp4⟩ := RC.can_parts hc
  simp only [] at cp1 cp2 cp3 cp4
  have HS : Hid (∀ o w1, Bl (W.alloc o) w1 → GA w1.heap.size w1 (S, A) sa sc aa ac) := fun o w1 h => hg.bl (((Bl.refl W).alloc o).step h)
  have HW : Hid (∀ o w1, Bl (W.alloc o) w1 → Bl w w1) := fun o w1 h => (HB.alloc o).step h
  have HP1 : Hid (∀ k, (pS S k).length ≤ 2600) := fun k => pS_le S A k hc
  have HP2 : Hid (∀ k, (pA S A k).length ≤ 2600) := fun k => pA_le S A k hc
  have HPA : Hid (pA S A A.length = RC.text (S, A)) := pA_all S A
  have CB0 : Hid (∀ T w1, Bl (W.alloc (.cells #[.slice sa S.length sc, .slice aa A.length ac] T)) w1 → W.heap.size < w1.heap.size ∧ w1.cell? ⟨W.heap.size, 0, none⟩ = some (.slice sa S.length sc) ∧ w1.cell? ⟨W.heap.size, 1, none⟩ = some (.slice aa A.length ac)) := fun T w1 h => by
    have hz : W.heap.size < (W.alloc (.cells #[.slice sa S.length sc, .slice aa A.length ac] T)).heap.size := by simp
    refine ⟨Nat.lt_of_lt_of_le hz (Below.size h), ?_, ?_⟩
    · rw [h.cell hz, Lib.cell_of_heap (heap_alloc_new W _)]; rfl
    · rw [h.cell hz, Lib.cell_of_heap (heap_alloc_new W _)]; rfl
  obtain ⟨fs, hum⟩ := undAc
  clear HB hg hk hc
  unfold gv at CC ⊢
  simp only [] at CC ⊢
  go_enter Try.func24, Try.ntmps24
  go_wp2_with (go_at_call 45; refine (CC.out _).mono ?_; rintro e w1 ⟨rfl, hb1⟩; obtain ⟨hx1, hx2, hx3⟩ := CB0.out _ _ hb1; have GS := HS.out _ _ hb1; replace HW := HW.out _ _ hb1; clear CC CB0 HS hb1)
  have HG : Hid (GA w1.heap.size w1 (S, A) sa sc aa ac) := GS
  have HWW : Hid (Bl w w1) := HW
  clear GS HW
  generalize W.heap.size = bx at *
  go_loop [4, 5] (fun u4 u5 => ∃ k : Nat, k ≤ S.length ∧ u5 = .int .i64 k ∧ u4 = .string (M.bs (pS S k))) (fun _ u5 => S.length - (intOf u5).toNat)
  case atStart => exact ⟨0, Nat.zero_le _, rfl, rfl⟩
  case round =>
    obtain ⟨k, hk, rfl, rfl⟩ := hrel
    by_cases hlt : k < S.length
    · obtain ⟨t, ht⟩ : ∃ t, S[k]? = some t := ⟨S[k], List.getElem?_eq_getElem hlt⟩
      obtain ⟨b, off, rfl, hcell⟩ := (Strs.sa HG.out.s).2 k t ht
      have HPS : Hid (pS S (k + 1) = pS S k ++ (([115, 111, 117, 114, 99, 101, 32] ++ t) ++ [10])) := by show _ = _; rw [← lineS_eq]; exact pS_succ S k t ht
      have hpl := HP1.out (k + 1)
      rw [HPS.out] at hpl
      simp only [List.length_append] at hpl
      have a1 : M.bs (pS S k) ++ (⟨#[115, 111, 117, 114, 99, 101, 32]⟩ : ByteArray) = M.bs (pS S k ++ [115, 111, 117, 114, 99, 101, 32]) := bs_append (pS S k) [115, 111, 117, 114, 99, 101, 32]
      have a2 := bs_append (pS S k ++ [115, 111, 117, 114, 99, 101, 32]) t
      have a3 : M.bs (pS S k ++ [115, 111, 117, 114, 99, 101, 32] ++ t) ++ (⟨#[10]⟩ : ByteArray) = M.bs (pS S (k + 1)) := by
        exact (bs_append (pS S k ++ [115, 111, 117, 114, 99, 101, 32] ++ t) [10]).trans (congrArg M.bs (by rw [HPS.out]; simp))
      have q0 := M.bs_size (pS S k)
      have q1 := M.bs_size (pS S k ++ [115, 111, 117, 114, 99, 101, 32])
      have q2 := M.bs_size (pS S k ++ [115, 111, 117, 114, 99, 101, 32] ++ t)
      have qt := M.bs_size t
      simp only [List.length_append] at q1 q2
      clear ht
      generalize pS S k ++ [115, 111, 117, 114, 99, 101, 32] ++ t = Q2 at *
      generalize pS S k ++ [115, 111, 117, 114, 99, 101, 32] = Q1 at *
      generalize pS S k = Q0 at *
      go_wp2_with fail
      go_round
      case rel => exact ⟨k + 1, by omega, by go_num, rfl⟩
      case measure => simp [intOf]; omega
    · obtain rfl : k = S.length := by omega
      have HZ : Hid (pA S A 0 = pS S S.length) := pA_zero S A
      generalize pS S S.length = Q0 at *
      go_wp2_with fail
      have HR0 : Hid (Bl w1 w1) := Bl.refl w1
      have HX3 : Hid (∀ W', Bl w1 W' → W'.cell? ⟨bx, 1, none⟩ = some (.slice aa A.length ac)) := fun W' h => by rw [Bl.cell h hx1]; exact hx3
      clear hx2 hx3
      go_loopw [4, 6, 7, 8] (fun u4 u6 u7 u8 wr => ∃ k : Nat, k ≤ A.length ∧ u6 = .int .i64 k ∧ u4 = .string (M.bs (pA S A k)) ∧ Bl w1 wr) (fun _ u6 _ _ _ => A.length - (intOf u6).toNat)
      case atStart => exact ⟨0, Nat.zero_le _, rfl, by rw [HZ.out], HR0.out⟩
      case round =>
        obtain ⟨k, hk, rfl, rfl, hbl⟩ := hrel
        have HBR : Hid (Bl w1 wr) := hbl
        have hc1 := HX3.out _ hbl
        have hbw : bx < wr.heap.size := Nat.lt_of_lt_of_le hx1 (Below.size hbl)
        clear hbl HR0 HZ
        by_cases hlt : k < A.length
        · obtain ⟨t, ht⟩ : ∃ t, A[k]? = some t := ⟨A[k], List.getElem?_eq_getElem hlt⟩
          obtain ⟨b, off, x, c, rfl, hb, hr, hs⟩ := HG.out.a.bl HBR.out k t ht
          have hca := cp4 t (List.mem_of_getElem? ht)
          obtain ⟨ca1, ca2, ca3, ca4⟩ := RC.canA_parts hca
          obtain ⟨n, ins, code⟩ := t
          simp only [] at ca1 ca2 ca3 ca4 hs
          have HPS : Hid (pA S A (k + 1) = pA S A k ++ ((((([109, 97, 107, 101, 32] ++ n) ++ insP ins ins.length) ++ [32, 98, 121, 32]) ++ RC.codeW code) ++ [10])) := by show _ = _; rw [← lineA_eq]; exact pA_succ S A k _ ht
          have hpl := HP2.out (k + 1)
          rw [HPS.out] at hpl
          simp only [List.length_append] at hpl
          have hi := infoAc (n, ins, code) x c
          have HR : Hid (wr.rangeAt b (off + k * 3) (acL (n, ins, code) x c)) := hr
          have HI : Hid (∀ o, SA (wr.alloc o) x ins) := fun o => (Strs.sa (hs.bl ((Bl.refl wr).alloc o))).2
          have HWA : Hid (∀ o, Bl w1 (wr.alloc o)) := fun o => HBR.out.alloc o
          have CW : Hid (∀ W', Bl w1 W' → Calls Try.prog 46 #[.string (M.bs code)] W' fun e w' => e = .returned (.string (M.bs (RC.codeW code))) ∧ Bl w1 w') := fun W' h => rCode_at code h (by omega)
          have a1 : M.bs (pA S A k) ++ (⟨#[109, 97, 107, 101, 32]⟩ : ByteArray) = M.bs (pA S A k ++ [109, 97, 107, 101, 32]) := bs_append (pA S A k) [109, 97, 107, 101, 32]
          have a2 := bs_append (pA S A k ++ [109, 97, 107, 101, 32]) n
          have q0 := M.bs_size (pA S A k)
          have q1 := M.bs_size (pA S A k ++ [109, 97, 107, 101, 32])
          have qn := M.bs_size n
          have qc := M.bs_size (RC.codeW code)
          simp only [List.length_append] at q1
          have HPS2 : Hid (pA S A (k + 1) = ((pA S A k ++ [109, 97, 107, 101, 32] ++ n) ++ insP ins ins.length) ++ [32, 98, 121, 32] ++ RC.codeW code ++ [10]) := by show _ = _; rw [HPS.out]; simp
          have hl2 : (pA S A k ++ [109, 97, 107, 101, 32] ++ n).length = (pA S A k).length + 5 + n.length := by simp; omega
          have q2 := M.bs_size (pA S A k ++ [109, 97, 107, 101, 32] ++ n)
          clear ht hr hs hca HPS
          generalize pA S A k ++ [109, 97, 107, 101, 32] ++ n = Q2 at *
          generalize pA S A k ++ [109, 97, 107, 101, 32] = Q1 at *
          generalize pA S A k = Q0 at *
          unfold acL at hi HR
          simp only [] at hi HR
          go_wp2_with (refine wpList_load_mid rfl 41 _ rfl b (off + k * 3) rfl _ _ HR.out hum rfl hi ?_; clear HR)
          clear a1 a2 q1 q0
          go_loop [4, 8] (fun u4 u8 => ∃ j : Nat, j ≤ ins.length ∧ u8 = .int .i64 j ∧ u4 = .string (M.bs (Q2 ++ insP ins j))) (fun _ u8 => ins.length - (intOf u8).toNat)
          case atStart => exact ⟨0, Nat.zero_le _, rfl, by simp [insP]⟩
          case round =>
            obtain ⟨j, hj, rfl, rfl⟩ := hrel
            have hqj := M.bs_size (Q2 ++ insP ins j)
            have hle := insP_le ins j hj
            simp only [List.length_append] at hqj
            by_cases hlj : j < ins.length
            · obtain ⟨s, hs⟩ : ∃ s, ins[j]? = some s := ⟨ins[j], List.getElem?_eq_getElem hlj⟩
              obtain ⟨b2, off2, rfl, hcell⟩ := HI.out (.cells #[.string (M.bs n), .slice x ins.length c, .string (M.bs code)] 41) j s hs
              have hle2 := insP_le ins (j + 1) (by omega)
              have qs := M.bs_size s
              by_cases hj0 : j = 0
              · subst hj0
                rw [Nat.add_zero] at hcell
                have HN : Hid (insP ins (0 + 1) = ([32, 102, 114, 111, 109] ++ [32]) ++ s) := insP_first ins s hs
                have e1 := HN.out
                rw [e1] at hle2
                simp only [List.length_append] at hle2
                have d1 : M.bs (Q2 ++ insP ins 0) ++ (⟨#[32, 102, 114, 111, 109]⟩ : ByteArray) = M.bs (Q2 ++ [32, 102, 114, 111, 109]) :=
                  (bs_append (Q2 ++ insP ins 0) [32, 102, 114, 111, 109]).trans (congrArg M.bs (by simp [insP]))
                have d2 : M.bs (Q2 ++ [32, 102, 114, 111, 109]) ++ (⟨#[32]⟩ : ByteArray) = M.bs (Q2 ++ [32, 102, 114, 111, 109] ++ [32]) := bs_append _ [32]
                have d3 : M.bs (Q2 ++ [32, 102, 114, 111, 109] ++ [32]) ++ M.bs s = M.bs (Q2 ++ insP ins (0 + 1)) := by
                  rw [bs_append, HN.out]; congr 1; simp
                have r1 := M.bs_size (Q2 ++ [32, 102, 114, 111, 109])
                have r2 := M.bs_size (Q2 ++ [32, 102, 114, 111, 109] ++ [32])
                simp only [List.length_append, List.length_cons, List.length_nil] at r1 r2 hle2
                generalize Q2 ++ [32, 102, 114, 111, 109] ++ [32] = B2 at *
                generalize Q2 ++ [32, 102, 114, 111, 109] = B1 at *
                obtain ⟨B3, hB3⟩ : ∃ B, B = Q2 ++ insP ins (0 + 1) := ⟨_, rfl⟩
                rw [← hB3] at d3
                have HB3 : Hid (B3 = Q2 ++ insP ins (0 + 1)) := hB3
                generalize Q2 ++ insP ins 0 = B0 at *
                clear hs HN e1 hB3
                go_wp2_with fail
                go_round
                case rel => exact ⟨0 + 1, by omega, by go_num, by rw [HB3.out]⟩
                case measure => simp [intOf]; omega
              · have hjb : ((j : Int) == 0) = false := by rw [beq_eq_false_iff_ne]; omega
                have HN : Hid (insP ins (j + 1) = (insP ins j ++ [32]) ++ s) := insP_next ins j s hs hj0
                have e1 := HN.out
                rw [e1] at hle2
                simp only [List.length_append] at hle2
                have d2 : M.bs (Q2 ++ insP ins j) ++ (⟨#[32]⟩ : ByteArray) = M.bs (Q2 ++ insP ins j ++ [32]) := bs_append _ [32]
                have d3 : M.bs (Q2 ++ insP ins j ++ [32]) ++ M.bs s = M.bs (Q2 ++ insP ins (j + 1)) := by
                  rw [bs_append, HN.out]; congr 1; simp
                have r2 := M.bs_size (Q2 ++ insP ins j ++ [32])
                simp only [List.length_append, List.length_cons, List.length_nil] at r2 hle2
                generalize Q2 ++ insP ins j ++ [32] = B2 at *
                obtain ⟨B3, hB3⟩ : ∃ B, B = Q2 ++ insP ins (j + 1) := ⟨_, rfl⟩
                rw [← hB3] at d3
                have HB3 : Hid (B3 = Q2 ++ insP ins (j + 1)) := hB3
                generalize Q2 ++ insP ins j = B0 at *
                clear hs HN e1 hB3
                go_wp2_with fail
                go_round
                case rel => exact ⟨j + 1, by omega, by go_num, by rw [HB3.out]⟩
                case measure => simp [intOf]; omega
            · obtain rfl : j = ins.length := by omega
              have d1 : M.bs (Q2 ++ insP ins ins.length) ++ (⟨#[32, 98, 121, 32]⟩ : ByteArray) = M.bs (Q2 ++ insP ins ins.length ++ [32, 98, 121, 32]) := bs_append _ [32, 98, 121, 32]
              have d2 := bs_append (Q2 ++ insP ins ins.length ++ [32, 98, 121, 32]) (RC.codeW code)
              have d3 : M.bs (Q2 ++ insP ins ins.length ++ [32, 98, 121, 32] ++ RC.codeW code) ++ (⟨#[10]⟩ : ByteArray) = M.bs (pA S A (k + 1)) :=
                (bs_append _ [10]).trans (congrArg M.bs HPS2.out.symm)
              have r1 := M.bs_size (Q2 ++ insP ins ins.length ++ [32, 98, 121, 32])
              have r2 := M.bs_size (Q2 ++ insP ins ins.length ++ [32, 98, 121, 32] ++ RC.codeW code)
              simp only [List.length_append, List.length_cons, List.length_nil] at r1 r2 hpl
              generalize Q2 ++ insP ins ins.length ++ [32, 98, 121, 32] ++ RC.codeW code = B2 at *
              generalize Q2 ++ insP ins ins.length ++ [32, 98, 121, 32] = B1 at *
              generalize Q2 ++ insP ins ins.length = B0 at *
              generalize RC.codeW code = cw at *
              clear HPS2
              go_wp2_with (go_at_call 46; refine (CW.out _ (HWA.out _)).mono ?_; rintro e w3 ⟨rfl, HB3⟩)
              go_roundw
              case rel => exact ⟨k + 1, by omega, by go_num, rfl, HB3⟩
              case measure => simp [intOf]; omega
        · obtain rfl : k = A.length := by omega
          go_wp2_with fail
          go_ret2
          exact ⟨by rw [← HPA.out]; rfl, HWW.out.step HBR.out⟩
theorem rPrint_no (g : RC.Gr) (sa : Option Addr) (sc : Nat) (aa : Option Addr) (ac : Nat) {w W : World} (HB : Bl w W) (hg : GA W.heap.size W g sa sc aa ac) (hk : grOk g) (hc : RC.can g = false) :
    Calls Try.prog 24 #[.agg (gv g sa sc aa ac)] W fun e w' => e = .returned (.tuple #[.string (M.bs []), .int .i64 1]) ∧ Bl w w' := by
  have CC : Hid (∀ o, Calls Try.prog 45 #[.agg (gv g sa sc aa ac)] (W.alloc o) fun e w' => e = .returned (.bool false) ∧ Bl w w') := fun o => by
    rw [← hc]; exact rgood_x g sa sc aa ac (HB.alloc o) (hg.bl ((Bl.refl W).alloc o)) hk
  clear HB hg hk hc
  unfold gv at CC ⊢
  go_enter Try.func24, Try.ntmps24
  go_wp2_with (go_at_call 45; refine (CC.out _).mono ?_; rintro e w' ⟨rfl, HB⟩)
  go_ret2
  exact ⟨rfl, HB⟩
theorem rPrint_x (g : RC.Gr) (sa : Option Addr) (sc : Nat) (aa : Option Addr) (ac : Nat) {w W : World} (HB : Bl w W) (hg : GA W.heap.size W g sa sc aa ac) (hk : grOk g) :
    Calls Try.prog 24 #[.agg (gv g sa sc aa ac)] W fun e w' => e = .returned (prV g) ∧ Bl w w' := by
  unfold prV
  cases hc : RC.can g with
  | true => exact rPrint_yes g sa sc aa ac HB hg hk hc
  | false => exact rPrint_no g sa sc aa ac HB hg hk hc
end Go.Proofs.Ythpdmeoljdmncaa
