/- The reference's Print. -/
import Derived.Test.YtgjpcddjfmdobaaDoorX7b
import Derived.Test.YtgjpcddjfmdobaaDoorPrt7
namespace Go.Proofs.YtgjpcddjfmdobaaDoor
open Go.RowKit
set_option linter.unusedVariables false

/-- what is written of k inputs -/
def insP (ins : List (List UInt8)) (k : Nat) : List UInt8 := if k = 0 then [] else [32, 102, 114, 111, 109] ++ Lib.joinTail [32] (ins.take k)
theorem insP_first (ins : List (List UInt8)) (x : List UInt8) (h : ins[0]? = some x) : insP ins 1 = ([32, 102, 114, 111, 109] ++ [32]) ++ x := by
  unfold insP
  rw [if_neg (by omega), List.take_add_one, h]
  simp [Lib.joinTail]
theorem insP_next (ins : List (List UInt8)) (k : Nat) (x : List UInt8) (h : ins[k]? = some x) (hk : k ≠ 0) : insP ins (k + 1) = (insP ins k ++ [32]) ++ x := by
  unfold insP
  rw [if_neg (by omega), if_neg hk, List.take_add_one, h]
  simp [Lib.joinTail]
theorem joinTail_app (a b : List (List UInt8)) : Lib.joinTail [32] (a ++ b) = Lib.joinTail [32] a ++ Lib.joinTail [32] b := by simp [Lib.joinTail]
theorem insP_mid (ins : List (List UInt8)) : insP ins ins.length = Lib.joinTail [32] (RC.midW ins) := by
  unfold insP RC.midW
  by_cases h : ins = []
  · subst h; rfl
  · have : ins.length ≠ 0 := fun e => h (List.length_eq_zero_iff.1 e)
    rw [if_neg this, if_neg h, List.take_length]
    simp [Lib.joinTail, RC.wFrom]
theorem lineA_eq (n : List UInt8) (ins : List (List UInt8)) (code : List UInt8) : RC.line (RC.words (n, ins, code)) = ((((([109, 97, 107, 101, 32] ++ n) ++ insP ins ins.length) ++ [32, 98, 121, 32]) ++ RC.codeW code) ++ [10]) := by
  rw [RC.words_tail, insP_mid]
  unfold RC.line RC.tailW
  rw [Lib.join_cons]
  rw [show (n, ins, code).1 :: (RC.midW (n, ins, code).2.1 ++ [RC.wBy, RC.codeW (n, ins, code).2.2]) = [n] ++ (RC.midW ins ++ [RC.wBy, RC.codeW code]) from rfl, joinTail_app, joinTail_app]
  simp [Lib.joinTail, RC.wMake, RC.wBy]
theorem lineS_eq (t : List UInt8) : RC.line [RC.wSource, t] = (([115, 111, 117, 114, 99, 101, 32] ++ t) ++ [10]) := by
  unfold RC.line
  rw [Lib.join_cons]
  simp [Lib.joinTail, RC.wSource]
theorem insP_le (ins : List (List UInt8)) (k : Nat) (hk : k ≤ ins.length) : (insP ins k).length ≤ (insP ins ins.length).length := by
  unfold insP
  by_cases h : k = 0
  · rw [if_pos h]; simp
  · rw [if_neg h, if_neg (by omega), List.take_length]
    have := Lib.joinTail_take_le [32] ins k
    simp only [List.length_append]; omega

set_option maxRecDepth 8000 in
set_option maxHeartbeats 8000000 in
theorem rPrint_yes (g : RC.Gr) (sa : Option Addr) (sc : Nat) (aa : Option Addr) (ac : Nat) {w W : World} (HB : Bl w W) (hg : GA W.heap.size W g sa sc aa ac) (hk : grOk g) (hc : RC.can g = true) :
    Calls Tryd.prog 12 #[.agg (gv g sa sc aa ac)] W fun e w' => e = .returned (.tuple #[.string (M.bs (RC.text g)), .int .i64 0]) ∧ Bl w w' := by
  obtain ⟨S, A⟩ := g
  have CC : Hid (∀ o, Calls Tryd.prog 24 #[.agg (gv (S, A) sa sc aa ac)] (W.alloc o) fun e w' => e = .returned (.bool true) ∧ Bl (W.alloc o) w') := fun o => by
    rw [← hc]; exact rgood_x (S, A) sa sc aa ac (Bl.refl _) (hg.bl ((Bl.refl W).alloc o)) hk
  obtain ⟨cp1, cp2, cp3, cp4⟩ := RC.can_parts hc
  simp only [] at cp1 cp2 cp3 cp4
  have HS : Hid (∀ o w1, Bl (W.alloc o) w1 → GA w1.heap.size w1 (S, A) sa sc aa ac) := fun o w1 h => hg.bl (((Bl.refl W).alloc o).step h)
  have HW : Hid (∀ o w1, Bl (W.alloc o) w1 → Bl w w1) := fun o w1 h => (HB.alloc o).step h
  have HP1 : Hid (∀ k, (pS S k).length ≤ 2600) := fun k => pS_le S A k hc
  have HP2 : Hid (∀ k, (pA S A k).length ≤ 2600) := fun k => pA_le S A k hc
  have HPA : Hid (pA S A A.length = RC.text (S, A)) := pA_all S A
  have CB0 : Hid (∀ T w1, Bl (W.alloc (.cells #[.slice sa S.length sc, .slice aa A.length ac] T)) w1 → W.heap.size < w1.heap.size ∧ w1.cell? ⟨W.heap.size, 0, none⟩ = some (.slice sa S.length sc) ∧ w1.cell? ⟨W.heap.size, 1, none⟩ = some (.slice aa A.length ac)) := fun T w1 h => by
    have hz : W.heap.size < (W.alloc (.cells #[.slice sa S.length sc, .slice aa A.length ac] T)).heap.size := by simp
    refine ⟨Nat.lt_of_lt_of_le hz (Below.size h), ?_, ?_⟩
    · rw [h.cell hz, Lib.cell_of_heap (heap_alloc_new W _)]; rfl
    · rw [h.cell hz, Lib.cell_of_heap (heap_alloc_new W _)]; rfl
  obtain ⟨fs, hum⟩ := undAc
  clear HB hg hk hc
  unfold gv at CC ⊢
  simp only [] at CC ⊢
  go_enter Tryd.func12, Tryd.ntmps12
  go_wp2_with (go_at_call 24; refine (CC.out _).mono ?_; rintro e w1 ⟨rfl, hb1⟩; obtain ⟨hx1, hx2, hx3⟩ := CB0.out _ _ hb1; have GS := HS.out _ _ hb1; replace HW := HW.out _ _ hb1; clear CC CB0 HS hb1)
  have HG : Hid (GA w1.heap.size w1 (S, A) sa sc aa ac) := GS
  have HWW : Hid (Bl w w1) := HW
  clear GS HW
  generalize W.heap.size = bx at *
  go_loop [4, 5] (fun u4 u5 => ∃ k : Nat, k ≤ S.length ∧ u5 = .int .i64 k ∧ u4 = .string (M.bs (pS S k))) (fun _ u5 => S.length - (intOf u5).toNat)
  case atStart => exact ⟨0, Nat.zero_le _, rfl, rfl⟩
  case round =>
    obtain ⟨k, hk, rfl, rfl⟩ := hrel
    by_cases hlt : k < S.length
    · obtain ⟨t, ht⟩ : ∃ t, S[k]? = some t := ⟨S[k], List.getElem?_eq_getElem hlt⟩
      obtain ⟨b, off, rfl, hcell⟩ := (Strs.sa HG.out.s).2 k t ht
      have HPS : Hid (pS S (k + 1) = pS S k ++ (([115, 111, 117, 114, 99, 101, 32] ++ t) ++ [10])) := by show _ = _; rw [← lineS_eq]; exact pS_succ S k t ht
      have hpl := HP1.out (k + 1)
      rw [HPS.out] at hpl
      simp only [List.length_append] at hpl
      have a1 : M.bs (pS S k) ++ (⟨#[115, 111, 117, 114, 99, 101, 32]⟩ : ByteArray) = M.bs (pS S k ++ [115, 111, 117, 114, 99, 101, 32]) := bs_append (pS S k) [115, 111, 117, 114, 99, 101, 32]
      have a2 := bs_append (pS S k ++ [115, 111, 117, 114, 99, 101, 32]) t
      have a3 : M.bs (pS S k ++ [115, 111, 117, 114, 99, 101, 32] ++ t) ++ (⟨#[10]⟩ : ByteArray) = M.bs (pS S (k + 1)) := by
        exact (bs_append (pS S k ++ [115, 111, 117, 114, 99, 101, 32] ++ t) [10]).trans (congrArg M.bs (by rw [HPS.out]; simp))
      have q0 := M.bs_size (pS S k)
      have q1 := M.bs_size (pS S k ++ [115, 111, 117, 114, 99, 101, 32])
      have q2 := M.bs_size (pS S k ++ [115, 111, 117, 114, 99, 101, 32] ++ t)
      have qt := M.bs_size t
      simp only [List.length_append] at q1 q2
      clear ht
      generalize pS S k ++ [115, 111, 117, 114, 99, 101, 32] ++ t = Q2 at *
      generalize pS S k ++ [115, 111, 117, 114, 99, 101, 32] = Q1 at *
      generalize pS S k = Q0 at *
      go_wp2_with fail
      go_round
      case rel => exact ⟨k + 1, by omega, by go_num, rfl⟩
      case measure => simp [intOf]; omega
    · obtain rfl : k = S.length := by omega
      have HZ : Hid (pA S A 0 = pS S S.length) := pA_zero S A
      generalize pS S S.length = Q0 at *
      go_wp2_with fail
      have HR0 : Hid (Bl w1 w1) := Bl.refl w1
      have HX3 : Hid (∀ W', Bl w1 W' → W'.cell? ⟨bx, 1, none⟩ = some (.slice aa A.length ac)) := fun W' h => by rw [Bl.cell h hx1]; exact hx3
      clear hx2 hx3
      go_loopw [4, 6, 7, 8] (fun u4 u6 u7 u8 wr => ∃ k : Nat, k ≤ A.length ∧ u6 = .int .i64 k ∧ u4 = .string (M.bs (pA S A k)) ∧ Bl w1 wr) (fun _ u6 _ _ _ => A.length - (intOf u6).toNat)
      case atStart => exact ⟨0, Nat.zero_le _, rfl, by rw [HZ.out], HR0.out⟩
      case round =>
        obtain ⟨k, hk, rfl, rfl, hbl⟩ := hrel
        have HBR : Hid (Bl w1 wr) := hbl
        have hc1 := HX3.out _ hbl
        have hbw : bx < wr.heap.size := Nat.lt_of_lt_of_le hx1 (Below.size hbl)
        clear hbl HR0 HZ
        by_cases hlt : k < A.length
        · obtain ⟨t, ht⟩ : ∃ t, A[k]? = some t := ⟨A[k], List.getElem?_eq_getElem hlt⟩
          obtain ⟨b, off, x, c, rfl, hb, hr, hs⟩ := HG.out.a.bl HBR.out k t ht
          have hca := cp4 t (List.mem_of_getElem? ht)
          obtain ⟨ca1, ca2, ca3, ca4⟩ := RC.canA_parts hca
          obtain ⟨n, ins, code⟩ := t
          simp only [] at ca1 ca2 ca3 ca4 hs
          have HPS : Hid (pA S A (k + 1) = pA S A k ++ ((((([109, 97, 107, 101, 32] ++ n) ++ insP ins ins.length) ++ [32, 98, 121, 32]) ++ RC.codeW code) ++ [10])) := by show _ = _; rw [← lineA_eq]; exact pA_succ S A k _ ht
          have hpl := HP2.out (k + 1)
          rw [HPS.out] at hpl
          simp only [List.length_append] at hpl
          have hi := infoAc (n, ins, code) x c
          have HR : Hid (wr.rangeAt b (off + k * 3) (acL (n, ins, code) x c)) := hr
          have HI : Hid (∀ o, SA (wr.alloc o) x ins) := fun o => (Strs.sa (hs.bl ((Bl.refl wr).alloc o))).2
          have HWA : Hid (∀ o, Bl w1 (wr.alloc o)) := fun o => HBR.out.alloc o
          have CW : Hid (∀ W', Bl w1 W' → Calls Tryd.prog 25 #[.string (M.bs code)] W' fun e w' => e = .returned (.string (M.bs (RC.codeW code))) ∧ Bl w1 w') := fun W' h => rCode_at code h (by omega)
          have a1 : M.bs (pA S A k) ++ (⟨#[109, 97, 107, 101, 32]⟩ : ByteArray) = M.bs (pA S A k ++ [109, 97, 107, 101, 32]) := bs_append (pA S A k) [109, 97, 107, 101, 32]
          have a2 := bs_append (pA S A k ++ [109, 97, 107, 101, 32]) n
          have q0 := M.bs_size (pA S A k)
          have q1 := M.bs_size (pA S A k ++ [109, 97, 107, 101, 32])
          have qn := M.bs_size n
          have qc := M.bs_size (RC.codeW code)
          simp only [List.length_append] at q1
          have HPS2 : Hid (pA S A (k + 1) = ((pA S A k ++ [109, 97, 107, 101, 32] ++ n) ++ insP ins ins.length) ++ [32, 98, 121, 32] ++ RC.codeW code ++ [10]) := by show _ = _; rw [HPS.out]; simp
          have hl2 : (pA S A k ++ [109, 97, 107, 101, 32] ++ n).length = (pA S A k).length + 5 + n.length := by simp; omega
          have q2 := M.bs_size (pA S A k ++ [109, 97, 107, 101, 32] ++ n)
          clear ht hr hs hca HPS
          generalize pA S A k ++ [109, 97, 107, 101, 32] ++ n = Q2 at *
          generalize pA S A k ++ [109, 97, 107, 101, 32] = Q1 at *
          generalize pA S A k = Q0 at *
          unfold acL at hi HR
          simp only [] at hi HR
          go_wp2_with (refine wpList_load_mid rfl 42 _ rfl b (off + k * 3) rfl _ _ HR.out hum rfl hi ?_; clear HR)
          clear a1 a2 q1 q0
          go_loop [4, 8] (fun u4 u8 => ∃ j : Nat, j ≤ ins.length ∧ u8 = .int .i64 j ∧ u4 = .string (M.bs (Q2 ++ insP ins j))) (fun _ u8 => ins.length - (intOf u8).toNat)
          case atStart => exact ⟨0, Nat.zero_le _, rfl, by simp [insP]⟩
          case round =>
            obtain ⟨j, hj, rfl, rfl⟩ := hrel
            have hqj := M.bs_size (Q2 ++ insP ins j)
            have hle := insP_le ins j hj
            simp only [List.length_append] at hqj
            by_cases hlj : j < ins.length
            · obtain ⟨s, hs⟩ : ∃ s, ins[j]? = some s := ⟨ins[j], List.getElem?_eq_getElem hlj⟩
              obtain ⟨b2, off2, rfl, hcell⟩ := HI.out (.cells #[.string (M.bs n), .slice x ins.length c, .string (M.bs code)] 42) j s hs
              have hle2 := insP_le ins (j + 1) (by omega)
              have qs := M.bs_size s
              by_cases hj0 : j = 0
              · subst hj0
                rw [Nat.add_zero] at hcell
                have HN : Hid (insP ins (0 + 1) = ([32, 102, 114, 111, 109] ++ [32]) ++ s) := insP_first ins s hs
                have e1 := HN.out
                rw [e1] at hle2
                simp only [List.length_append] at hle2
                have d1 : M.bs (Q2 ++ insP ins 0) ++ (⟨#[32, 102, 114, 111, 109]⟩ : ByteArray) = M.bs (Q2 ++ [32, 102, 114, 111, 109]) :=
                  (bs_append (Q2 ++ insP ins 0) [32, 102, 114, 111, 109]).trans (congrArg M.bs (by simp [insP]))
                have d2 : M.bs (Q2 ++ [32, 102, 114, 111, 109]) ++ (⟨#[32]⟩ : ByteArray) = M.bs (Q2 ++ [32, 102, 114, 111, 109] ++ [32]) := bs_append _ [32]
                have d3 : M.bs (Q2 ++ [32, 102, 114, 111, 109] ++ [32]) ++ M.bs s = M.bs (Q2 ++ insP ins (0 + 1)) := by
                  rw [bs_append, HN.out]; congr 1; simp
                have r1 := M.bs_size (Q2 ++ [32, 102, 114, 111, 109])
                have r2 := M.bs_size (Q2 ++ [32, 102, 114, 111, 109] ++ [32])
                simp only [List.length_append, List.length_cons, List.length_nil] at r1 r2 hle2
                generalize Q2 ++ [32, 102, 114, 111, 109] ++ [32] = B2 at *
                generalize Q2 ++ [32, 102, 114, 111, 109] = B1 at *
                obtain ⟨B3, hB3⟩ : ∃ B, B = Q2 ++ insP ins (0 + 1) := ⟨_, rfl⟩
                rw [← hB3] at d3
                have HB3 : Hid (B3 = Q2 ++ insP ins (0 + 1)) := hB3
                generalize Q2 ++ insP ins 0 = B0 at *
                clear hs HN e1 hB3
                go_wp2_with fail
                go_round
                case rel => exact ⟨0 + 1, by omega, by go_num, by rw [HB3.out]⟩
                case measure => simp [intOf]; omega
              · have hjb : ((j : Int) == 0) = false := by rw [beq_eq_false_iff_ne]; omega
                have HN : Hid (insP ins (j + 1) = (insP ins j ++ [32]) ++ s) := insP_next ins j s hs hj0
                have e1 := HN.out
                rw [e1] at hle2
                simp only [List.length_append] at hle2
                have d2 : M.bs (Q2 ++ insP ins j) ++ (⟨#[32]⟩ : ByteArray) = M.bs (Q2 ++ insP ins j ++ [32]) := bs_append _ [32]
                have d3 : M.bs (Q2 ++ insP ins j ++ [32]) ++ M.bs s = M.bs (Q2 ++ insP ins (j + 1)) := by
                  rw [bs_append, HN.out]; congr 1; simp
                have r2 := M.bs_size (Q2 ++ insP ins j ++ [32])
                simp only [List.length_append, List.length_cons, List.length_nil] at r2 hle2
                generalize Q2 ++ insP ins j ++ [32] = B2 at *
                obtain ⟨B3, hB3⟩ : ∃ B, B = Q2 ++ insP ins (j + 1) := ⟨_, rfl⟩
                rw [← hB3] at d3
                have HB3 : Hid (B3 = Q2 ++ insP ins (j + 1)) := hB3
                generalize Q2 ++ insP ins j = B0 at *
                clear hs HN e1 hB3
                go_wp2_with fail
                go_round
                case rel => exact ⟨j + 1, by omega, by go_num, by rw [HB3.out]⟩
                case measure => simp [intOf]; omega
            · obtain rfl : j = ins.length := by omega
              have d1 : M.bs (Q2 ++ insP ins ins.length) ++ (⟨#[32, 98, 121, 32]⟩ : ByteArray) = M.bs (Q2 ++ insP ins ins.length ++ [32, 98, 121, 32]) := bs_append _ [32, 98, 121, 32]
              have d2 := bs_append (Q2 ++ insP ins ins.length ++ [32, 98, 121, 32]) (RC.codeW code)
              have d3 : M.bs (Q2 ++ insP ins ins.length ++ [32, 98, 121, 32] ++ RC.codeW code) ++ (⟨#[10]⟩ : ByteArray) = M.bs (pA S A (k + 1)) :=
                (bs_append _ [10]).trans (congrArg M.bs HPS2.out.symm)
              have r1 := M.bs_size (Q2 ++ insP ins ins.length ++ [32, 98, 121, 32])
              have r2 := M.bs_size (Q2 ++ insP ins ins.length ++ [32, 98, 121, 32] ++ RC.codeW code)
              simp only [List.length_append, List.length_cons, List.length_nil] at r1 r2 hpl
              generalize Q2 ++ insP ins ins.length ++ [32, 98, 121, 32] ++ RC.codeW code = B2 at *
              generalize Q2 ++ insP ins ins.length ++ [32, 98, 121, 32] = B1 at *
              generalize Q2 ++ insP ins ins.length = B0 at *
              generalize RC.codeW code = cw at *
              clear HPS2
              go_wp2_with (go_at_call 25; refine (CW.out _ (HWA.out _)).mono ?_; rintro e w3 ⟨rfl, HB3⟩)
              go_roundw
              case rel => exact ⟨k + 1, by omega, by go_num, rfl, HB3⟩
              case measure => simp [intOf]; omega
        · obtain rfl : k = A.length := by omega
          go_wp2_with fail
          go_ret2
          exact ⟨by rw [← HPA.out]; rfl, HWW.out.step HBR.out⟩
theorem rPrint_no (g : RC.Gr) (sa : Option Addr) (sc : Nat) (aa : Option Addr) (ac : Nat) {w W : World} (HB : Bl w W) (hg : GA W.heap.size W g sa sc aa ac) (hk : grOk g) (hc : RC.can g = false) :
    Calls Tryd.prog 12 #[.agg (gv g sa sc aa ac)] W fun e w' => e = .returned (.tuple #[.string (M.bs []), .int .i64 1]) ∧ Bl w w' := by
  have CC : Hid (∀ o, Calls Tryd.prog 24 #[.agg (gv g sa sc aa ac)] (W.alloc o) fun e w' => e = .returned (.bool false) ∧ Bl w w') := fun o => by
    rw [← hc]; exact rgood_x g sa sc aa ac (HB.alloc o) (hg.bl ((Bl.refl W).alloc o)) hk
  clear HB hg hk hc
  unfold gv at CC ⊢
  go_enter Tryd.func12, Tryd.ntmps12
  go_wp2_with (go_at_call 24; refine (CC.out _).mono ?_; rintro e w' ⟨rfl, HB⟩)
  go_ret2
  exact ⟨rfl, HB⟩
theorem rPrint_x (g : RC.Gr) (sa : Option Addr) (sc : Nat) (aa : Option Addr) (ac : Nat) {w W : World} (HB : Bl w W) (hg : GA W.heap.size W g sa sc aa ac) (hk : grOk g) :
    Calls Tryd.prog 12 #[.agg (gv g sa sc aa ac)] W fun e w' => e = .returned (prV g) ∧ Bl w w' := by
  unfold prV
  cases hc : RC.can g with
  | true => exact rPrint_yes g sa sc aa ac HB hg hk hc
  | false => exact rPrint_no g sa sc aa ac HB hg hk hc
end Go.Proofs.YtgjpcddjfmdobaaDoor
