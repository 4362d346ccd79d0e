/- What the reference's Run answers. -/
import Derived.Test.YtlblbdfpcaplkaaGreatDoorV1
import Derived.Test.YtlblbdfpcaplkaaGreatDoorV4
import Derived.Test.YtlblbdfpcaplkaaGreatDoorV5
namespace Go.Proofs.YtlblbdfpcaplkaaGreatDoor
open Go.RowKit
set_option linter.unusedVariables false
set_option linter.unusedSimpArgs false

/-- where the reference's step says that it goes on; -1: behind it -/
def toR (st : List (List UInt8)) (s : List UInt8) : Int := if s.getD 0 0 = 103 then ((s.getD 1 0).toNat : Int) else if s.getD 0 0 = 106 then (if Q.isE st then ((s.getD 1 0).toNat : Int) else -1) else -1
theorem toR_next (m : Q.Ms) (s : List UInt8) : (Q.next m s : Int) = if 0 ≤ toR m.st s then toR m.st s else (m.place : Int) + (s.length : Int) := by
  unfold Q.next toR
  by_cases h1 : s.getD 0 0 = 103
  · rw [if_pos h1, if_pos h1, if_pos (by omega)]
  · rw [if_neg h1, if_neg h1]
    by_cases h2 : s.getD 0 0 = 106
    · rw [if_pos h2, if_pos h2]
      by_cases h3 : Q.isE m.st = true
      · rw [if_pos h3, if_pos h3, if_pos (by omega)]
      · rw [if_neg h3, if_neg h3, if_neg (by omega)]; omega
    · rw [if_neg h2, if_neg h2, if_neg (by omega)]; omega
theorem toR_le (st : List (List UInt8)) (s : List UInt8) : toR st s ≤ 255 ∧ -1 ≤ toR st s := by
  have := (s.getD 1 0).toNat_lt
  unfold toR
  repeat' split
  all_goals omega
theorem rdo_at {W : World} (g cap : Nat) (st : List (List UInt8)) (a2 : Option Addr) (c2 : Nat) (ins : List (List UInt8)) (h : LS W g cap st) (hk : Q.Oks st) (hx2 : TX W a2 ins) (h4 : ins.length ≤ 4) (hil : ∀ t ∈ ins, t.length ≤ 512) (code s : List UInt8) (p : Nat) (hs : Q.stepAt code p = some s) (hc : code.length ≤ 64) :
    Calls Tryz.prog 76 #[.slice (some ⟨g, 0, none⟩) st.length cap, .string (M.bs s), .slice a2 ins.length c2] W fun e w' => RP (Q.act ins st s) (toR st s) W e w' := by
  have hl := (Q.first_some hs).2.1
  rw [List.length_drop] at hl
  rcases Q.first_form hs with ⟨x, rfl, hx⟩ | ⟨x, d, rfl, hx⟩ | ⟨d, r, rfl⟩
  · have hx' : x = 99 ∨ x = 100 ∨ x = 115 ∨ x = 120 ∨ x = 114 ∨ x = 104 ∨ x = 108 ∨ x = 61 := by simpa [Q.one, or_assoc] using hx
    rcases hx' with rfl | rfl | rfl | rfl | rfl | rfl | rfl | rfl
    · exact rdo_c g cap st a2 c2 ins h hk hx2 h4 hil
    · exact rdo_d g cap st a2 c2 ins h hk hx2 h4 hil
    · exact rdo_s g cap st a2 c2 ins h hk hx2 h4 hil
    · exact rdo_x g cap st a2 c2 ins h hk hx2 h4 hil
    · exact rdo_r g cap st a2 c2 ins h hk hx2 h4 hil
    · exact rdo_h g cap st a2 c2 ins h hk hx2 h4 hil
    · exact rdo_l g cap st a2 c2 ins h hk hx2 h4 hil
    · exact rdo_e g cap st a2 c2 ins h hk hx2 h4 hil
  · have hx' : x = 105 ∨ x = 116 ∨ x = 107 ∨ x = 106 ∨ x = 103 := by simpa [Q.two, or_assoc] using hx
    rcases hx' with rfl | rfl | rfl | rfl | rfl
    · exact rdo_i g cap st a2 c2 ins h hk hx2 h4 hil d
    · exact rdo_t g cap st a2 c2 ins h hk hx2 h4 hil d
    · exact rdo_k g cap st a2 c2 ins h hk hx2 h4 hil d
    · exact rdo_j g cap st a2 c2 ins h hk hx2 h4 hil d
    · exact rdo_g g cap st a2 c2 ins h hk hx2 h4 hil d
  · exact rdo_p g cap st a2 c2 ins h hk hx2 h4 hil d r (by simp at hl; omega)

/-- none of the first k texts is too long -/
def ShR (l : List (List UInt8)) (k : Nat) : Prop := ∀ (j : Nat) t, j < k → l[j]? = some t → ¬ 512 < t.length
set_option maxRecDepth 8000 in
set_option maxHeartbeats 2000000 in
theorem rRun_long (code : List UInt8) (ins : List (List UInt8)) (a : Option Addr) (c : Nat) (W : World) (h : 64 < code.length ∨ 4 < ins.length) (hl : code.length ≤ 9223372036854775807) (hn : ins.length ≤ 9223372036854775807) :
    Calls Tryz.prog 44 #[.string (M.bs code), .slice a ins.length c] W fun e w' => e = .returned (runV ⟨4, [], 0⟩) ∧ Below W.heap.size W w' := by
  have hs := M.bs_size code
  obtain ⟨fs, hum⟩ := undRes
  have HB : Hid (∀ o, Below W.heap.size W (W.alloc o)) := fun o => (Below.refl _ W).alloc (Nat.le_refl _) _
  by_cases h1 : 64 < code.length
  · clear h
    go_enter Tryz.func44, Tryz.ntmps44
    go_wp2_with fail
    go_loopw [6, 7] (fun u6 u7 wr => u6 = .bool true ∧ u7 = .int .i64 0 ∧ W.alloc (.cells #[.int .i64 0, .string ⟨#[]⟩] 46) = wr) (fun _ _ _ => 0)
    case atStart => exact ⟨by first | rfl | (congr 1), rfl, rfl⟩
    case round =>
      obtain ⟨rfl, rfl, rfl⟩ := hrel
      by_cases h0 : 0 < ins.length
      · go_wp2_with fail
        refine bodyPost_ret (results2_rowM rfl _ _ W.heap.size 46 _ (0, 0) _ rfl (heap_alloc_new _ _) hum rfl infoRes) rfl ?_
        exact ⟨rfl, HB.out _⟩
      · go_wp2_with fail
        refine bodyPost_ret (results2_rowM rfl _ _ W.heap.size 46 _ (0, 0) _ rfl (heap_alloc_new _ _) hum rfl infoRes) rfl ?_
        exact ⟨rfl, HB.out _⟩
  · have h2 : 4 < ins.length := by omega
    clear h
    have HD : Hid ((decide ((64 : Int) < (code.length : Int)) || decide ((4 : Int) < (ins.length : Int))) = true) := by show _ = _; rw [decide_eq_true (p := (4 : Int) < (ins.length : Int)) (by omega)]; simp
    go_enter Tryz.func44, Tryz.ntmps44
    go_wp2_with fail
    go_loopw [6, 7] (fun u6 u7 wr => u6 = .bool true ∧ u7 = .int .i64 0 ∧ W.alloc (.cells #[.int .i64 0, .string ⟨#[]⟩] 46) = wr) (fun _ _ _ => 0)
    case atStart => exact ⟨by rw [HD.out], rfl, rfl⟩
    case round =>
      obtain ⟨rfl, rfl, rfl⟩ := hrel
      by_cases h0 : 0 < ins.length
      · go_wp2_with fail
        refine bodyPost_ret (results2_rowM rfl _ _ W.heap.size 46 _ (0, 0) _ rfl (heap_alloc_new _ _) hum rfl infoRes) rfl ?_
        exact ⟨rfl, HB.out _⟩
      · omega
set_option maxRecDepth 8000 in
set_option maxHeartbeats 8000000 in
theorem rRun_at (code : List UInt8) (ins : List (List UInt8)) (a : Option Addr) (c : Nat) (W : World) (hx : TX W a ins) (hc : code.length ≤ 64) (h4 : ins.length ≤ 4) (hil : ∀ t ∈ ins, t.length ≤ 9223372036854775807) :
    Calls Tryz.prog 44 #[.string (M.bs code), .slice a ins.length c] W fun e w' => e = .returned (runV (Q.run code ins)) ∧ Below W.heap.size W w' := by
  have hs := M.bs_size code
  obtain ⟨fs, hum⟩ := undRes
  have HB : Hid (∀ o, Below W.heap.size W (W.alloc o)) := fun o => (Below.refl _ W).alloc (Nat.le_refl _) _
  have HTX : Hid (TX (W.alloc (.cells #[.int .i64 0, .string ⟨#[]⟩] 46)) a ins) := hx.belowM ((Below.refl _ W).alloc (Nat.le_refl _) _)
  have HIL : Hid (∀ t ∈ ins, t.length ≤ 9223372036854775807) := hil
  have HRW : Hid (wideM ins = true → Q.run code ins = ⟨4, [], 0⟩) := fun h => by unfold Q.run; rw [if_pos (Or.inr (Or.inr (show (ins.any fun t => decide (512 < t.length)) = true from h)))]
  have HRN : Hid (ShR ins ins.length → Q.run code ins = Q.runF code ins 301 ⟨[], 0, 0⟩ ∧ ∀ t ∈ ins, t.length ≤ 512) := fun h => by
    have h3 : wideM ins = false := wideM_none h
    constructor
    · unfold Q.run
      rw [if_neg]
      rintro (h | h | h)
      · omega
      · omega
      · unfold wideM at h3; rw [h] at h3; cases h3
    · intro t ht
      obtain ⟨j, hj, e⟩ := List.getElem_of_mem ht
      have := h j t hj (by rw [← e]; exact List.getElem?_eq_getElem hj)
      omega
  clear hx hil
  generalize Q.run code ins = R at *
  go_enter Tryz.func44, Tryz.ntmps44
  go_wp2_with fail
  go_loopw [6, 7] (fun u6 u7 wr => ∃ (k : Nat) (q : Bool), k ≤ ins.length ∧ u6 = .bool q ∧ u7 = .int .i64 (k : Int) ∧ W.alloc (.cells #[.int .i64 0, .string ⟨#[]⟩] 46) = wr ∧ (q = false → ShR ins k) ∧ (q = true → wideM ins = true)) (fun _ u7 _ => ins.length - (intOf u7).toNat)
  case atStart =>
    refine ⟨0, false, Nat.zero_le _, ?_, rfl, rfl, fun _ j t hj => by omega, fun h => by cases h⟩
    rw [decide_eq_false (by omega), decide_eq_false (by omega)]; rfl
  case round =>
    obtain ⟨k, q, hk, rfl, rfl, rfl, hsh, hwd⟩ := hrel
    cases q with
    | true =>
      have HW : Hid (R = ⟨4, [], 0⟩) := HRW.out (hwd rfl)
      clear hsh hwd HRW HRN HTX HIL
      by_cases hlt : k < ins.length
      · go_wp2_with fail
        refine bodyPost_ret (results2_rowM rfl _ _ W.heap.size 46 _ (0, 0) _ rfl (heap_alloc_new _ _) hum rfl infoRes) rfl ?_
        exact ⟨by rw [HW.out]; rfl, HB.out _⟩
      · go_wp2_with fail
        refine bodyPost_ret (results2_rowM rfl _ _ W.heap.size 46 _ (0, 0) _ rfl (heap_alloc_new _ _) hum rfl infoRes) rfl ?_
        exact ⟨by rw [HW.out]; rfl, HB.out _⟩
    | false =>
      have HSH : Hid (ShR ins k) := hsh rfl
      clear hsh hwd
      by_cases hlt : k < ins.length
      · obtain ⟨t, ht⟩ : ∃ t, ins[k]? = some t := ⟨ins[k], List.getElem?_eq_getElem hlt⟩
        obtain ⟨sb, off, rfl, hsb, hcell⟩ := HTX.out k t ht
        have i0 : (0 : Int) ≤ (k : Int) := by omega
        have i1 : (k : Int) < (ins.length : Int) := by omega
        have htl := HIL.out t (List.mem_of_getElem? ht)
        have hst := M.bs_size t
        have HN : Hid ((decide ((512 : Int) < (t.length : Int)) = false → ShR ins (k + 1)) ∧ (decide ((512 : Int) < (t.length : Int)) = true → wideM ins = true)) := ⟨fun h j s hj hs' => by
          rcases (by omega : j < k ∨ j = k) with h' | rfl
          · exact HSH.out j s h' hs'
          · rw [ht] at hs'; cases hs'; have := of_decide_eq_false h; omega, fun h => wideM_at ht (by have := of_decide_eq_true h; omega)⟩
        obtain ⟨q, hq⟩ : ∃ q, decide ((512 : Int) < (t.length : Int)) = q := ⟨_, rfl⟩
        rw [hq] at HN
        clear ht HRW HRN HTX HIL
        go_wp2_with fail
        go_roundw
        case rel => exact ⟨k + 1, q, by omega, (by rfl), by go_num, by first | exact trivial | rfl, HN.out.1, HN.out.2⟩
        case measure => simp [intOf]; omega
      · obtain rfl : k = ins.length := by omega
        obtain ⟨hR, hi5⟩ := HRN.out HSH.out
        clear HRW HRN HSH HIL hlt hk
        go_wp2_with fail
        have HZ : Hid (∀ W', Below (W.heap.size + 1) (W.alloc (.cells #[.int .i64 0, .string ⟨#[]⟩] 46)) W' → W'.heap[W.heap.size]? = some (.cells #[.int .i64 0, .string ⟨#[]⟩] 46 (0, 0))) := fun W' h => by rw [h.block _ (by omega)]; exact heap_alloc_new _ _
        have HFB0 : Hid (∀ W', Below (W.heap.size + 1) (W.alloc (.cells #[.int .i64 0, .string ⟨#[]⟩] 46)) W' → ∀ u v, Below W.heap.size W ((W'.setCell ⟨W.heap.size, 0, none⟩ u).setCell ⟨W.heap.size, 1, none⟩ v)) := fun W' h u v => (((HB.out _).trans (h.mono (by omega))).setCell (Nat.le_refl _) _).setCell (Nat.le_refl _) _
        have HS1 : Hid ((W.alloc (.cells #[.int .i64 0, .string ⟨#[]⟩] 46)).heap.size = W.heap.size + 1) := by show _ = _; simp
        clear HB
        generalize W.alloc (.cells #[.int .i64 0, .string ⟨#[]⟩] 46) = W1 at *
        have HL0 : Hid (∀ N, N = W.heap.size + 1 → LS (W1.alloc (.cells #[] 9)) N 0 []) := fun N hN => by
          have := own0 W1
          rw [HS1.out, ← hN] at this
          exact LS.of this rfl rfl
        have HB1 : Hid (Below (W.heap.size + 1) W1 (W1.alloc (.cells #[] 9))) := (Below.refl _ W1).alloc (by rw [HS1.out]; omega) _
        have HGE : Hid (∀ W', Below (W.heap.size + 1) W1 W' → W.heap.size + 1 ≤ W'.heap.size) := fun W' h => by have := h.size; have := HS1.out; omega
        have HTX2 : Hid (∀ W', Below (W.heap.size + 1) W1 W' → TX W' a ins) := fun W' h => HTX.out.belowM (by rw [HS1.out]; exact h)
        have HW1Z : Hid (W1.heap.size = W.heap.size + 1) := HS1.out
        have HROW : Hid _ := HZ.out
        have HFB : Hid _ := HFB0.out
        have h1n : W1.heap.size = W.heap.size + 1 := HW1Z.out
        try rw [h1n]
        clear HZ HFB0 HS1 HTX h1n
        go_loopw [8, 9, 10, 11, 12, 13, 14] (fun u8 u9 u10 u11 u12 u13 u14 wr => ∃ (m : Q.Ms) (g cp : Nat), u8 = .slice (some ⟨g, 0, none⟩) m.st.length cp ∧ u9 = .int .i64 (m.place : Int) ∧ u10 = .int .i64 (m.n : Int) ∧ m.n ≤ 300 ∧ m.place ≤ 255 ∧ LS wr g cp m.st ∧ Q.Oks m.st ∧ Below (W.heap.size + 1) W1 wr ∧ Q.runF code ins (301 - m.n) m = R) (fun _ _ u10 _ _ _ _ _ => 301 - (intOf u10).toNat)
        case atStart => exact ⟨⟨[], 0, 0⟩, _, _, rfl, rfl, rfl, by simp, by simp, HL0.out _ rfl, ⟨by simp, fun t ht => by cases ht⟩, HB1.out, hR.symm⟩
        case round =>
          obtain ⟨m, g, cp, rfl, rfl, rfl, hn, hp, hls, hok, hbe, hRm⟩ := hrel
          clear HL0 HB1 hR
          have HBE : Hid (Below (W.heap.size + 1) W1 wr) := hbe
          have hrow := HROW.out _ hbe
          have r0 : wr.cell? ⟨W.heap.size, 0, none⟩ = some (.int .i64 0) := by simp [World.cell?, hrow]
          have r1 : wr.cell? ⟨W.heap.size, 1, none⟩ = some (.string ⟨#[]⟩) := by simp [World.cell?, hrow]
          have f0 := frozen_rowM hrow
          clear hrow hbe
          rw [runF_unfold code ins m hn] at hRm
          obtain ⟨st, pl, n⟩ := m
          simp only at hn hp hls hok hRm
          by_cases h1 : pl = code.length
          · rw [if_pos h1] at hRm
            have q1 : ((pl : Int) == (code.length : Int)) = true := by simp; omega
            rcases st with _ | ⟨t, r⟩
            · obtain rfl : (⟨31, [], n⟩ : Q.Re) = R := hRm
              clear hls hok HGE HTX2
              go_wp2_with fail
              refine bodyPost_ret (results2_rowM rfl _ _ W.heap.size 46 _ (0, 0) _ rfl (heap_setCell_rowM (heap_setCell_rowM (HROW.out _ HBE.out))) hum rfl (by first | exact infoRes | (simp only [Array.size_setIfInBounds]; exact infoRes))) rfl ?_
              exact ⟨rfl, HFB.out _ HBE.out _ _⟩
            · obtain rfl : (⟨0, t, n⟩ : Q.Re) = R := hRm
              have kt := hls.at (i := r.length) (t := t) (by simp)
              have hn8 := hok.1
              simp only [List.length_cons] at hn8
              have q2 : ((r.length : Int) + 1 == 0) = false := by simp; omega
              clear hls hok HGE HTX2
              go_wp2_with fail
              refine bodyPost_ret (results2_rowM rfl _ _ W.heap.size 46 _ (0, 0) _ rfl (heap_setCell_rowM (heap_setCell_rowM (HROW.out _ HBE.out))) hum rfl (by first | exact infoRes | (simp only [Array.size_setIfInBounds]; exact infoRes))) rfl ?_
              exact ⟨rfl, HFB.out _ HBE.out _ _⟩
          · rw [if_neg h1] at hRm
            have q1 : ((pl : Int) == (code.length : Int)) = false := by simp; omega
            by_cases hgt : code.length < pl
            · have e : Q.stepAt code pl = none := by unfold Q.stepAt Q.first; rw [if_pos (List.drop_of_length_le (by omega))]
              rw [e] at hRm
              obtain rfl : (⟨32, [], n⟩ : Q.Re) = R := hRm
              clear hls hok HGE HTX2 e
              go_wp2_with fail
              refine bodyPost_ret (results2_rowM rfl _ _ W.heap.size 46 _ (0, 0) _ rfl (heap_setCell_rowM (heap_setCell_rowM (HROW.out _ HBE.out))) hum rfl (by first | exact infoRes | (simp only [Array.size_setIfInBounds]; exact infoRes))) rfl ?_
              exact ⟨rfl, HFB.out _ HBE.out _ _⟩
            · have CW : Hid (∀ W, Calls Tryz.prog 75 #[.string (M.bs code), .int .i64 (pl : Int)] W fun e w' => e = .returned (.int .i64 (rwd code pl : Int)) ∧ w' = W) := fun W => rwidth_at code pl (by omega) (by omega) W
              have hex : ∀ z : Nat, (M.bs code).extract pl (pl + z) = M.bs ((code.drop pl).take z) := fun z => by rw [cut_bs]; congr 3; omega
              cases hst : Q.stepAt code pl with
              | none =>
                have hw0 : rwd code pl = 0 := by unfold rwd; rw [hst]
                rw [hw0] at CW
                rw [hst] at hRm
                obtain rfl : (⟨32, [], n⟩ : Q.Re) = R := hRm
                clear hls hok HGE HTX2 hst hex hw0
                go_wp2_with (go_at_call 75; refine (CW.out _).mono ?_; rintro e w' ⟨rfl, hw⟩; rw [hw]; clear hw w')
                refine bodyPost_ret (results2_rowM rfl _ _ W.heap.size 46 _ (0, 0) _ rfl (heap_setCell_rowM (heap_setCell_rowM (HROW.out _ HBE.out))) hum rfl (by first | exact infoRes | (simp only [Array.size_setIfInBounds]; exact infoRes))) rfl ?_
                exact ⟨rfl, HFB.out _ HBE.out _ _⟩
              | some s =>
                have hw0 : rwd code pl = s.length := by unfold rwd; rw [hst]
                rw [hw0] at CW
                rw [hst] at hRm
                simp only at hRm
                have hs0 := Q.first_len hst
                have hsl := (Q.first_some hst).2.1
                rw [List.length_drop] at hsl
                have hexs : (M.bs code).extract pl (pl + s.length) = M.bs s := by rw [hex s.length]; congr 1; exact (Q.first_some hst).2.2.symm
                have q3 : ((s.length : Int) == 0) = false := beq_eq_false_iff_ne.2 (by omega)
                clear hex hw0
                by_cases h300 : 300 ≤ n
                · rw [if_pos h300] at hRm
                  obtain rfl : n = 300 := by omega
                  obtain rfl : (⟨30, [], 300⟩ : Q.Re) = R := hRm
                  clear hls hok HGE HTX2 hst
                  go_wp2_with (go_at_call 75; refine (CW.out _).mono ?_; rintro e w' ⟨rfl, hw⟩; rw [hw]; clear hw w')
                  refine bodyPost_ret (results2_rowM rfl _ _ W.heap.size 46 _ (0, 0) _ rfl (heap_setCell_rowM (heap_setCell_rowM (HROW.out _ HBE.out))) hum rfl (by first | exact infoRes | (simp only [Array.size_setIfInBounds]; exact infoRes))) rfl ?_
                  exact ⟨rfl, HFB.out _ HBE.out _ _⟩
                · rw [if_neg h300] at hRm
                  have q4 : ((n : Int) == 300) = false := beq_eq_false_iff_ne.2 (by omega)
                  have CT : Hid (Calls Tryz.prog 76 #[.slice (some ⟨g, 0, none⟩) st.length cp, .string (M.bs s), .slice a ins.length c] wr fun e w' => RP (Q.act ins st s) (toR st s) wr e w') := rdo_at g cp st a c ins hls hok (HTX2.out _ HBE.out) h4 hi5 code s pl hst hc
                  have HNX := toR_next ⟨st, pl, n⟩ s
                  simp only at HNX
                  have HNL : Hid (Q.next ⟨st, pl, n⟩ s ≤ 255) := Q.next_le (m := ⟨st, pl, n⟩) hst hc
                  have HOK : Hid (Q.Oks (Q.act ins st s).2) := Q.act_ok hok s
                  have HAL : Hid ((Q.act ins st s).1 ≤ 100) := Q.act_le ins st s
                  have HGW : Hid (∀ W', Below wr.heap.size wr W' → Below (W.heap.size + 1) W1 W') := fun W' h => HBE.out.trans (h.mono (HGE.out _ HBE.out))
                  obtain ⟨htr1, htr2⟩ := toR_le st s
                  have hRm2 : (if (Q.act ins st s).1 = 0 then Q.runF code ins (301 - (n + 1)) ⟨(Q.act ins st s).2, Q.next ⟨st, pl, n⟩ s, n + 1⟩ else ⟨(Q.act ins st s).1, [], n + 1⟩) = R := hRm
                  clear hRm hls hok HGE hst
                  generalize Q.next ⟨st, pl, n⟩ s = nx at *
                  generalize toR st s = to at *
                  obtain ⟨er, st2, hact⟩ : ∃ er st2, Q.act ins st s = (er, st2) := ⟨_, _, rfl⟩
                  rw [hact] at CT hRm2 HOK HAL
                  simp only at hRm2 HOK HAL
                  clear hact
                  by_cases h0 : er = 0
                  · subst h0
                    rw [if_pos rfl] at hRm2
                    have CT2 : Hid (Calls Tryz.prog 76 #[.slice (some ⟨g, 0, none⟩) st.length cp, .string (M.bs s), .slice a ins.length c] wr fun e w' => ∃ g' c', e = .returned (.tuple #[.slice (some ⟨g', 0, none⟩) st2.length c', .int .i64 to, .int .i64 0]) ∧ LS w' g' c' st2 ∧ Below (W.heap.size + 1) W1 w') := by
                      refine CT.out.mono ?_
                      rintro e w' ⟨h1, _, h3⟩
                      obtain ⟨g', c', he, hl⟩ := h1 rfl
                      exact ⟨g', c', he, hl, HGW.out _ h3⟩
                    have HRM : Hid (Q.runF code ins (301 - (n + 1)) ⟨st2, nx, n + 1⟩ = R) := hRm2
                    clear CT hRm2 HGW HTX2
                    by_cases ht0 : 0 ≤ to
                    · rw [if_pos ht0] at HNX
                      have HNY : Hid ((nx : Int) = to) := HNX
                      clear HNX
                      go_wp2_with (first
                        | (go_at_call 75; refine (CW.out _).mono ?_; rintro e w' ⟨rfl, hw⟩; rw [hw]; clear hw w')
                        | (go_at_call 76; refine CT2.out.mono ?_; clear CT2; rintro e w2 ⟨g', c', rfl, HLS, HB2⟩; have HLT : Hid (LS w2 g' c' st2) := HLS; have HB3 : Hid (Below (W.heap.size + 1) W1 w2) := HB2; clear HLS HB2))
                      go_roundw
                      case rel => exact ⟨⟨st2, nx, n + 1⟩, g', c', rfl, by rw [HNY.out], by go_num, by show n + 1 ≤ 300; omega, HNL.out, HLT.out, HOK.out, HB3.out, HRM.out⟩
                      case measure => simp [intOf]; omega
                    · rw [if_neg ht0] at HNX
                      have HNY : Hid ((nx : Int) = (pl : Int) + (s.length : Int)) := HNX
                      clear HNX
                      go_wp2_with (first
                        | (go_at_call 75; refine (CW.out _).mono ?_; rintro e w' ⟨rfl, hw⟩; rw [hw]; clear hw w')
                        | (go_at_call 76; refine CT2.out.mono ?_; clear CT2; rintro e w2 ⟨g', c', rfl, HLS, HB2⟩; have HLT : Hid (LS w2 g' c' st2) := HLS; have HB3 : Hid (Below (W.heap.size + 1) W1 w2) := HB2; clear HLS HB2))
                      go_roundw
                      case rel => exact ⟨⟨st2, nx, n + 1⟩, g', c', rfl, by rw [HNY.out], by go_num, by show n + 1 ≤ 300; omega, HNL.out, HLT.out, HOK.out, HB3.out, HRM.out⟩
                      case measure => simp [intOf]; omega
                  · rw [if_neg h0] at hRm2
                    obtain rfl : (⟨er, [], n + 1⟩ : Q.Re) = R := hRm2
                    have hal := HAL.out
                    have q5 : ((er : Int) != 0) = true := by simp; omega
                    have CT2 : Hid (Calls Tryz.prog 76 #[.slice (some ⟨g, 0, none⟩) st.length cp, .string (M.bs s), .slice a ins.length c] wr fun e w' => e = .returned (.tuple #[.slice none 0 0, .int .i64 (-1), .int .i64 (er : Int)]) ∧ Below (W.heap.size + 1) W1 w') := by
                      refine CT.out.mono ?_
                      rintro e w' ⟨_, h2, h3⟩
                      exact ⟨h2 h0, HGW.out _ h3⟩
                    clear CT HGW HTX2 HNX r0 r1 f0
                    go_wp2_with (first
                      | (go_at_call 75; refine (CW.out _).mono ?_; rintro e w' ⟨rfl, hw⟩; rw [hw]; clear hw w')
                      | (go_at_call 76; refine CT2.out.mono ?_; clear CT2 HBE; rintro e w2 ⟨rfl, hb2⟩; have HBE : Hid (Below (W.heap.size + 1) W1 w2) := hb2; have hrow2 := HROW.out _ hb2; have r0 : w2.cell? ⟨W.heap.size, 0, none⟩ = some (.int .i64 0) := (by simp [World.cell?, hrow2]); have r1 : w2.cell? ⟨W.heap.size, 1, none⟩ = some (.string ⟨#[]⟩) := (by simp [World.cell?, hrow2]); have f0 := frozen_rowM hrow2; clear hrow2 hb2))
                    refine bodyPost_ret (results2_rowM rfl _ _ W.heap.size 46 _ (0, 0) _ rfl (heap_setCell_rowM (heap_setCell_rowM (HROW.out _ HBE.out))) hum rfl (by first | exact infoRes | (simp only [Array.size_setIfInBounds]; exact infoRes))) rfl ?_
                    exact ⟨rfl, HFB.out _ HBE.out _ _⟩
end Go.Proofs.YtlblbdfpcaplkaaGreatDoor
