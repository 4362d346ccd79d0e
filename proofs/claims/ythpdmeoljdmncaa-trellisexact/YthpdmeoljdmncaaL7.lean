/- What recipe.Print answers. -/
import Derived.Test.YthpdmeoljdmncaaL6
namespace Go.Proofs.Ythpdmeoljdmncaa
open Go.RowKit
set_option linter.unusedVariables false

/-- what is written behind k sources; behind all sources and k actions -/
def pS (S : List (List UInt8)) (k : Nat) : List UInt8 := RC.linesS (S.take k)
def pA (S : List (List UInt8)) (A : List RC.Ac) (k : Nat) : List UInt8 := RC.linesS S ++ RC.linesA (A.take k)
theorem pS_succ (S : List (List UInt8)) (k : Nat) (t : List UInt8) (h : S[k]? = some t) : pS S (k + 1) = pS S k ++ RC.line [RC.wSource, t] := by
  unfold pS; rw [List.take_add_one, h]; exact RC.linesS_snoc _ _
theorem pA_succ (S : List (List UInt8)) (A : List RC.Ac) (k : Nat) (t : RC.Ac) (h : A[k]? = some t) : pA S A (k + 1) = pA S A k ++ RC.line (RC.words t) := by
  unfold pA; rw [List.take_add_one, h]
  simp only [Option.toList_some]
  rw [RC.linesA_snoc, List.append_assoc]
theorem linesS_split (S : List (List UInt8)) (k : Nat) : RC.linesS S = RC.linesS (S.take k) ++ RC.linesS (S.drop k) := by
  unfold RC.linesS; rw [← List.flatten_append, ← List.map_append, List.take_append_drop]
theorem linesA_split (A : List RC.Ac) (k : Nat) : RC.linesA A = RC.linesA (A.take k) ++ RC.linesA (A.drop k) := by
  unfold RC.linesA; rw [← List.flatten_append, ← List.map_append, List.take_append_drop]
theorem pS_le (S : List (List UInt8)) (A : List RC.Ac) (k : Nat) (h : RC.can (S, A) = true) : (pS S k).length ≤ 2600 := by
  have h1 := RC.text_length _ h
  unfold RC.text at h1
  simp only [] at h1
  rw [linesS_split S k] at h1
  simp only [List.length_append] at h1
  unfold pS; omega
theorem pA_le (S : List (List UInt8)) (A : List RC.Ac) (k : Nat) (h : RC.can (S, A) = true) : (pA S A k).length ≤ 2600 := by
  have h1 := RC.text_length _ h
  unfold RC.text at h1
  simp only [] at h1
  rw [linesA_split A k] at h1
  simp only [List.length_append] at h1
  unfold pA; simp only [List.length_append]; omega
theorem pS_zero (S : List (List UInt8)) : pS S 0 = [] := rfl
theorem pA_zero (S : List (List UInt8)) (A : List RC.Ac) : pA S A 0 = pS S S.length := by simp [pA, pS, RC.linesA]
theorem pA_all (S : List (List UInt8)) (A : List RC.Ac) : pA S A A.length = RC.text (S, A) := by simp [pA, RC.text]
theorem join_le (w : List UInt8) (r : List (List UInt8)) : (Lib.join (w :: r) [32]).length ≤ (RC.line (w :: r)).length := by simp [RC.line]

set_option maxHeartbeats 1000000 in
theorem Print_no (g : RC.Gr) (sa : Option Addr) (sc : Nat) (aa : Option Addr) (ac : Nat) {w W : World} (HB : Bl w W) (hg : GA W.heap.size W g sa sc aa ac) (hk : grOk g) (hc : RC.can g = false) :
    Calls Try.prog 39 #[.agg (gv g sa sc aa ac)] W fun e w' => e = .returned (.tuple #[.string (M.bs []), .int .i64 1]) ∧ Bl w w' := by
  have CC : Hid (∀ o, Calls Try.prog 51 #[.agg (gv g sa sc aa ac)] (W.alloc o) fun e w' => e = .returned (.bool false) ∧ Bl w w') := fun o => by
    rw [← hc]; exact canBeWritten_at g sa sc aa ac (HB.alloc o) (hg.bl ((Bl.refl W).alloc o)) hk
  clear HB hg hk hc
  unfold gv at CC ⊢
  go_enter Try.func39, Try.ntmps39
  go_wp2_with (go_at_call 51; refine (CC.out _).mono ?_; rintro e w' ⟨rfl, HB⟩)
  go_ret2
  exact ⟨rfl, HB⟩

set_option maxRecDepth 8000 in
set_option maxHeartbeats 4000000 in
theorem Print_yes (g : RC.Gr) (sa : Option Addr) (sc : Nat) (aa : Option Addr) (ac : Nat) {w W : World} (HB : Bl w W) (hg : GA W.heap.size W g sa sc aa ac) (hk : grOk g) (hc : RC.can g = true) :
    Calls Try.prog 39 #[.agg (gv g sa sc aa ac)] W fun e w' => e = .returned (.tuple #[.string (M.bs (RC.text g)), .int .i64 0]) ∧ Bl w w' := by
  obtain ⟨S, A⟩ := g
  have CC : Hid (∀ o, Calls Try.prog 51 #[.agg (gv (S, A) sa sc aa ac)] (W.alloc o) fun e w' => e = .returned (.bool true) ∧ Bl (W.alloc o) w') := fun o => by
    rw [← hc]; exact canBeWritten_at (S, A) sa sc aa ac (Bl.refl _) (hg.bl ((Bl.refl W).alloc o)) hk
  obtain ⟨cp1, cp2, cp3, cp4⟩ := RC.can_parts hc
  simp only [] at cp1 cp2 cp3 cp4
  have HS : Hid (∀ o w1, Bl (W.alloc o) w1 → GA w1.heap.size w1 (S, A) sa sc aa ac) := fun o w1 h => hg.bl (((Bl.refl W).alloc o).step h)
  have HW : Hid (∀ o w1, Bl (W.alloc o) w1 → Bl w w1) := fun o w1 h => (HB.alloc o).step h
  have HP1 : Hid (∀ k, (pS S k).length ≤ 2600) := fun k => pS_le S A k hc
  have HP2 : Hid (∀ k, (pA S A k).length ≤ 2600) := fun k => pA_le S A k hc
  have HPA : Hid (pA S A A.length = RC.text (S, A)) := pA_all S A
  have CB0 : Hid (∀ T w1, Bl (W.alloc (.cells #[.slice sa S.length sc, .slice aa A.length ac] T)) w1 → W.heap.size < w1.heap.size ∧ w1.cell? ⟨W.heap.size, 0, none⟩ = some (.slice sa S.length sc) ∧ w1.cell? ⟨W.heap.size, 1, none⟩ = some (.slice aa A.length ac)) := fun T w1 h => by
    have hz : W.heap.size < (W.alloc (.cells #[.slice sa S.length sc, .slice aa A.length ac] T)).heap.size := by simp
    refine ⟨Nat.lt_of_lt_of_le hz (Below.size h), ?_, ?_⟩
    · rw [h.cell hz, Lib.cell_of_heap (heap_alloc_new W _)]; rfl
    · rw [h.cell hz, Lib.cell_of_heap (heap_alloc_new W _)]; rfl
  obtain ⟨fs, hum⟩ := undAc
  clear HB hg hk hc
  unfold gv at CC ⊢
  simp only [] at CC ⊢
  go_enter Try.func39, Try.ntmps39
  go_wp2_with (go_at_call 51; refine (CC.out _).mono ?_; rintro e w1 ⟨rfl, hb1⟩; obtain ⟨hx1, hx2, hx3⟩ := CB0.out _ _ hb1; have GS := HS.out _ _ hb1; replace HW := HW.out _ _ hb1; clear CC CB0 HS hb1)
  have HFR : Hid (Lib.IsBuilder 80 5 w1.heap.size w1.heap.size (Lib.byteCells []) _) := Lib.fresh_isBuilder 80 5 w1
  have HAL : Hid (∀ o, Below w1.heap.size w1 (w1.alloc o)) := fun o => (Below.refl _ w1).alloc (Nat.le_refl _) o
  have HG : Hid (GA w1.heap.size w1 (S, A) sa sc aa ac) := GS
  have HWW : Hid (Bl w w1) := HW
  have HX3 : Hid (∀ W', Below w1.heap.size w1 W' → W'.cell? ⟨W.heap.size, 1, none⟩ = some (.slice aa A.length ac)) := fun W' h => by rw [h.cell (p := ⟨W.heap.size, 1, none⟩) hx1]; exact hx3
  clear GS HW hx2 hx3
  go_loopw [6, 15] (fun u6 u15 wr => ∃ k : Nat, k ≤ S.length ∧ u15 = .int .i64 k ∧ Lib.IsBuilder 80 5 w1.heap.size w1.heap.size (Lib.byteCells (pS S k)) wr ∧ Below w1.heap.size w1 wr) (fun _ u15 _ => S.length - (intOf u15).toNat)
  case atStart => exact ⟨0, Nat.zero_le _, rfl, HFR.out, HAL.out _⟩
  case round =>
    obtain ⟨k, hk, rfl, hbd, hbe⟩ := hrel
    clear HFR HAL
    have hsz := hbe.size
    have HBD : Hid (Lib.IsBuilder 80 5 w1.heap.size w1.heap.size (Lib.byteCells (pS S k)) wr) := hbd
    have HBE : Hid (Below w1.heap.size w1 wr) := hbe
    clear hbd hbe
    by_cases hlt : k < S.length
    · obtain ⟨t, ht⟩ : ∃ t, S[k]? = some t := ⟨S[k], List.getElem?_eq_getElem hlt⟩
      obtain ⟨b, off, rfl, hcell⟩ := (Strs.sa (HG.out.s.bl HBE.out)).2 k t ht
      have htn := (RC.isNm_len (cp3 t (List.mem_of_getElem? ht))).1
      have HPS : Hid (pS S (k + 1) = pS S k ++ RC.line [RC.wSource, t]) := pS_succ S k t ht
      have hpl := HP1.out (k + 1)
      rw [HPS.out, List.length_append] at hpl
      have hjl := join_le RC.wSource [t]
      have CL : Hid (Calls Try.prog 53 #[.slice (some ⟨wr.heap.size, 0, none⟩) 2 2] (wr.alloc (.cells #[.string ⟨#[115, 111, 117, 114, 99, 101]⟩, .string (M.bs t)] 9)) fun e w' => e = .returned (.string (M.bs (RC.line [RC.wSource, t]))) ∧ Bl wr w') :=
        line_at (some ⟨wr.heap.size, 0, none⟩) 2 [RC.wSource, t] ((Bl.refl wr).alloc _) (strs_of_owns (TA.own_new wr [RC.wSource, t] (by unfold maxLen; simp))) (by simp) (by simp) (by omega)
      have hz := M.bs_size (RC.line [RC.wSource, t])
      generalize RC.line [RC.wSource, t] = LN at *
      clear ht htn hjl
      go_wp2_with (first
        | (go_at_call 53; refine CL.out.mono ?_; rintro e w3 ⟨rfl, hb3⟩; have hbd3 := builder_below HBD.out hb3; have HB3 : Below w1.heap.size w1 w3 := HBE.out.trans (hb3.mono hsz); clear CL HBD hb3)
        | (go_at_call 52; refine (writeString _ _ _ _ _ hbd3 (by omega) HB3.size).mono ?_; rintro e w4 ⟨rfl, hbd4, hb4⟩; replace HB3 := HB3.trans hb4; clear hbd3 hb4))
      go_roundw
      case rel => exact ⟨k + 1, by omega, by go_num, by rw [HPS.out]; exact hbd4, HB3⟩
      case measure => simp [intOf]; omega
    · obtain rfl : k = S.length := by omega
      have hx3 := HX3.out _ HBE.out
      have HBD0 : Hid (Lib.IsBuilder 80 5 w1.heap.size w1.heap.size (Lib.byteCells (pA S A 0)) wr) := by
        show Lib.IsBuilder _ _ _ _ _ _
        rw [pA_zero]; exact HBD.out
      go_wp2_with fail
      clear HX3 hx3 HBD hx1
      go_loopw [8, 27] (fun u8 u27 wr => ∃ k : Nat, k ≤ A.length ∧ u27 = .int .i64 k ∧ Lib.IsBuilder 80 5 w1.heap.size w1.heap.size (Lib.byteCells (pA S A k)) wr ∧ Below w1.heap.size w1 wr) (fun _ u27 _ => A.length - (intOf u27).toNat)
      case atStart => exact ⟨0, Nat.zero_le _, rfl, HBD0.out, HBE.out⟩
      case round =>
        obtain ⟨k, hk, rfl, hbd, hbe⟩ := hrel
        clear HBD0 HBE hsz
        have hsz := hbe.size
        have HBD : Hid (Lib.IsBuilder 80 5 w1.heap.size w1.heap.size (Lib.byteCells (pA S A k)) wr) := hbd
        have HBE : Hid (Below w1.heap.size w1 wr) := hbe
        clear hbd hbe
        by_cases hlt : k < A.length
        · obtain ⟨t, ht⟩ : ∃ t, A[k]? = some t := ⟨A[k], List.getElem?_eq_getElem hlt⟩
          obtain ⟨b, off, x, c, rfl, hb, hr, hs⟩ := HG.out.a.bl HBE.out k t ht
          have hca := cp4 t (List.mem_of_getElem? ht)
          obtain ⟨ca1, ca2, ca3, ca4⟩ := RC.canA_parts hca
          have HPS : Hid (pA S A (k + 1) = pA S A k ++ RC.line (RC.words t)) := pA_succ S A k t ht
          have hpl := HP2.out (k + 1)
          rw [HPS.out, List.length_append] at hpl
          have hll := RC.lineA_length t hca
          have hjl : (Lib.join (RC.words t) [32]).length ≤ (RC.line (RC.words t)).length := by simp [RC.line]
          have hwn : (RC.words t).length ≤ 100 := by
            rw [RC.words_tail]; unfold RC.tailW RC.midW
            split
            · simp
            · simp; omega
          have hi := infoAc t x c
          have HR : Hid (wr.rangeAt b (off + k * 3) (acL t x c)) := hr
          have CW : Hid (∀ o, Calls Try.prog 54 #[.agg (acL t x c).toArray] (wr.alloc o) fun e w' => ∃ a m, e = .returned (.slice a (RC.words t).length m) ∧ (RC.words t).length ≤ m ∧ Strs w'.heap.size w' (.slice a (RC.words t).length m) (RC.words t) ∧ Bl wr w') := fun o => actionWords_at t x c ((Bl.refl wr).alloc o) (hs.bl ((Bl.refl wr).alloc o)) ca2 ca4
          have CL : Hid (∀ (W' : World) (a : Option Addr) (m : Nat), (RC.words t).length ≤ m → Strs W'.heap.size W' (.slice a (RC.words t).length m) (RC.words t) → Bl wr W' → Calls Try.prog 53 #[.slice a (RC.words t).length m] W' fun e w' => e = .returned (.string (M.bs (RC.line (RC.words t)))) ∧ Bl wr w') := fun W' a m hm hs' hb' => line_at a m (RC.words t) hb' hs' hm hwn (by omega)
          have hz := M.bs_size (RC.line (RC.words t))
          generalize RC.line (RC.words t) = LN at *
          generalize RC.words t = WS at *
          clear ht hca ca1 ca2 ca3 ca4 hll hjl hr hs
          unfold acL at hi HR CW
          go_wp2_with (first
            | (refine wpList_load_mid rfl 41 _ rfl b (off + k * 3) rfl _ _ HR.out hum rfl hi ?_; clear HR)
            | (go_at_call 54; refine (CW.out _).mono ?_; rintro e w2 ⟨a2, m2, rfl, hm2, hs2, hb2⟩; clear CW)
            | (go_at_call 53; refine (CL.out _ _ _ hm2 hs2 hb2).mono ?_; rintro e w3 ⟨rfl, hb3⟩; have hbd3 := builder_below HBD.out hb3; have HB3 : Below w1.heap.size w1 w3 := HBE.out.trans (hb3.mono hsz); clear CL HBD hb3 hs2 hb2)
            | (go_at_call 52; refine (writeString _ _ _ _ _ hbd3 (by omega) HB3.size).mono ?_; rintro e w4 ⟨rfl, hbd4, hb4⟩; replace HB3 := HB3.trans hb4; clear hbd3 hb4))
          go_roundw
          case rel => exact ⟨k + 1, by omega, by go_num, by rw [HPS.out]; exact hbd4, HB3⟩
          case measure => simp [intOf]; omega
        · obtain rfl : k = A.length := by omega
          go_wp2_with (go_at_call 55; refine (Try.Builder_String_any _ _ _ _ HBD.out hsz).mono ?_; rintro e w3 ⟨rfl, HB3⟩)
          go_ret2
          exact ⟨by rw [← HPA.out]; rfl, HWW.out.step (HBE.out.trans HB3)⟩
end Go.Proofs.Ythpdmeoljdmncaa
