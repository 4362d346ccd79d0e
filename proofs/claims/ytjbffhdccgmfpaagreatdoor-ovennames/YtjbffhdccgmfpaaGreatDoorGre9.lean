/- The law's own great. -/
import Derived.Test.YtjbffhdccgmfpaaGreatDoorOC
namespace Go.Proofs.YtjbffhdccgmfpaaGreatDoor
open Go.RowKit
set_option linter.unusedVariables false
set_option linter.unusedSimpArgs false

def bigT (s : List UInt8) : Bool := decide (200 < s.length)
def bigS (s : O.So) : Bool := decide (200 < s.1.length) || decide (1000 < s.2.length)
def bigA (a : RC.Ac) : Bool := decide (200 < a.1.length) || decide (200 < a.2.2.length) || decide (10 < a.2.1.length) || a.2.1.any bigT
def greatB (g : RC.Gr) (xs : List O.So) : Bool := decide (30 < g.1.length) || decide (30 < g.2.length) || decide (30 < xs.length) || g.1.any bigT || g.2.any bigA || xs.any bigS
theorem any_of {α : Type} {p : α → Bool} {l : List α} {k : Nat} {x : α} (h : l[k]? = some x) (hp : p x = true) : l.any p = true := List.any_eq_true.2 ⟨x, List.mem_of_getElem? h, hp⟩
theorem any_not {α : Type} {p : α → Bool} {l : List α} (h : ∀ i x, i < l.length → l[i]? = some x → p x = false) : l.any p = false := by
  rw [List.any_eq_false]
  intro x hx
  obtain ⟨i, hi, rfl⟩ := List.getElem_of_mem hx
  simp [h i l[i] hi (List.getElem?_eq_getElem hi)]
/-- where a build isn't great -/
theorem great_not {g : RC.Gr} {xs : List O.So} (h : greatB g xs = false) : g.1.length ≤ 30 ∧ g.2.length ≤ 30 ∧ (∀ s ∈ g.1, s.length ≤ 200) ∧ (∀ a ∈ g.2, a.1.length ≤ 200 ∧ a.2.2.length ≤ 200 ∧ a.2.1.length ≤ 10 ∧ ∀ s ∈ a.2.1, s.length ≤ 200) ∧ xs.length ≤ 30 ∧ ∀ s ∈ xs, s.1.length ≤ 200 ∧ s.2.length ≤ 1000 := by
  simp only [greatB, Bool.or_eq_false_iff, decide_eq_false_iff_not, List.any_eq_false, bigT, bigA, bigS, decide_eq_true_eq, Bool.or_eq_true, not_or] at h
  obtain ⟨⟨⟨⟨⟨h1, h2⟩, h5⟩, h3⟩, h4⟩, h6⟩ := h
  refine ⟨by omega, by omega, fun s hs => by have := h3 s hs; omega, fun a ha => ?_, by omega, fun s hs => by have := h6 s hs; omega⟩
  obtain ⟨⟨⟨a1, a2⟩, a3⟩, a4⟩ := h4 a ha
  refine ⟨by omega, by omega, by omega, fun s hs => ?_⟩
  refine Classical.byContradiction fun hc => a4 (List.any_eq_true.2 ⟨s, hs, ?_⟩)
  exact decide_eq_true (by omega)
theorem great_ok {g : RC.Gr} {xs : List O.So} (h : greatB g xs = false) : grOk g := by
  obtain ⟨h1, h2, h3, h4, _⟩ := great_not h
  refine ⟨by unfold maxLen; omega, fun s hs => by have := h3 s hs; unfold maxLen; omega, by unfold maxLen; omega, fun t ht => ?_⟩
  obtain ⟨a1, a2, a3, a4⟩ := h4 t ht
  exact ⟨by unfold maxLen; omega, by unfold maxLen; omega, fun s hs => by have := a4 s hs; unfold maxLen; omega, by unfold maxLen; omega⟩

set_option maxRecDepth 8000 in
set_option maxHeartbeats 4000000 in
theorem great_x (g : RC.Gr) (sa : Option Addr) (sc : Nat) (aa : Option Addr) (ac : Nat) {w W : World} (HB : Bl w W) (hg : GA W.heap.size W g sa sc aa ac) (hk : grOk g) (xs : List O.So) (xa : Option Addr) (xc : Nat) (hx : RS lyS W xa xs) (hxl : ∀ s ∈ xs, s.1.length ≤ maxLen ∧ s.2.length ≤ maxLen) (hxn : xs.length ≤ maxLen) :
    Calls Tryz.prog 6 #[.agg (gv g sa sc aa ac), .slice xa xs.length xc] W fun e w' => e = .returned (.bool (greatB g xs)) ∧ Bl w w' := by
  obtain ⟨S, A⟩ := g
  have hS := hk.s
  have hA := hk.a
  simp only [] at hS hA
  unfold maxLen at hS hA hxn
  have HXL : Hid (∀ s ∈ xs, s.1.length ≤ maxLen ∧ s.2.length ≤ maxLen) := hxl
  have HXA : Hid (∀ W', Bl W W' → RS lyS W' xa xs) := fun W' h => hx.bl h
  clear hx hxl
  have HT : Hid (∀ s ∈ S, s.length ≤ maxLen) := hk.t
  have HKA : Hid (∀ t ∈ A, acOk t) := hk.b
  have HW : Hid (∀ o, Bl w (W.alloc o)) := fun o => HB.alloc o
  have HG : Hid (∀ o, GA (W.alloc o).heap.size (W.alloc o) (S, A) sa sc aa ac) := fun o => hg.bl ((Bl.refl W).alloc o)
  obtain ⟨fs, hum⟩ := undAc
  unfold gv
  simp only []
  by_cases h1 : 30 < S.length
  · have hq : greatB (S, A) xs = true := by simp [greatB, h1]
    rw [hq]
    clear hg hk HB hq
    go_enter Tryz.func6, Tryz.ntmps6
    go_wp2_with fail
    go_ret
    exact ⟨rfl, HW.out _⟩
  by_cases h2 : 30 < A.length
  · have hq : greatB (S, A) xs = true := by simp [greatB, h2]
    rw [hq]
    clear hg hk HB hq
    go_enter Tryz.func6, Tryz.ntmps6
    go_wp2_with fail
    go_ret
    exact ⟨rfl, HW.out _⟩
  by_cases h3 : 30 < xs.length
  · have hq : greatB (S, A) xs = true := by simp [greatB, h3]
    rw [hq]
    clear hg hk HB hq
    go_enter Tryz.func6, Tryz.ntmps6
    go_wp2_with fail
    go_ret
    exact ⟨rfl, HW.out _⟩
  have HQ : Hid (greatB (S, A) xs = (S.any bigT || A.any bigA || xs.any bigS)) := by
    show _ = _
    simp only [greatB, decide_eq_false h1, decide_eq_false h2, decide_eq_false h3, Bool.false_or]
  have C0 : Hid (∀ T W', Bl (W.alloc (.cells #[.slice sa S.length sc, .slice aa A.length ac] T)) W' → W'.cell? ⟨W.heap.size, 0, none⟩ = some (.slice sa S.length sc) ∧ W'.cell? ⟨W.heap.size, 1, none⟩ = some (.slice aa A.length ac)) := fun T W' h => by
    have hz : W.heap.size < (W.alloc (.cells #[.slice sa S.length sc, .slice aa A.length ac] T)).heap.size := by simp
    refine ⟨?_, ?_⟩
    · rw [h.cell hz, Lib.cell_of_heap (heap_alloc_new W _)]; rfl
    · rw [h.cell hz, Lib.cell_of_heap (heap_alloc_new W _)]; rfl
  clear hg hk HB
  go_enter Tryz.func6, Tryz.ntmps6
  go_wp2_with fail
  go_loop [5] (fun u5 => ∃ k : Nat, k ≤ S.length ∧ u5 = .int .i64 k ∧ ∀ i x, i < k → S[i]? = some x → bigT x = false) (fun u5 => S.length - (intOf u5).toNat)
  case atStart => exact ⟨0, Nat.zero_le _, rfl, fun i x hi => by omega⟩
  case round =>
    obtain ⟨k, hk, rfl, hpre⟩ := hrel
    have HP : Hid (∀ i x, i < k → S[i]? = some x → bigT x = false) := hpre
    clear hpre
    by_cases hlt : k < S.length
    · obtain ⟨t, ht⟩ : ∃ t, S[k]? = some t := ⟨S[k], List.getElem?_eq_getElem hlt⟩
      obtain ⟨b, off, rfl, hcell⟩ := (Strs.sa (HG.out (.cells #[.slice sa S.length sc, .slice aa A.length ac] 25)).s).2 k t ht
      have htl := HT.out t (List.mem_of_getElem? ht)
      unfold maxLen at htl
      have hbs := M.bs_size t
      by_cases hbig : 200 < t.length
      · have HF : Hid (greatB (S, A) xs = true) := by
          show _ = _
          rw [HQ.out, any_of ht (show bigT t = true from decide_eq_true hbig)]; simp
        clear ht
        go_wp2_with fail
        go_ret
        exact ⟨by rw [HF.out]; rfl, HW.out _⟩
      · have HE : Hid (∀ i x, i < k + 1 → S[i]? = some x → bigT x = false) := fun i x hi hx => by
          rcases (by omega : i < k ∨ i = k) with h' | rfl
          · exact HP.out i x h' hx
          · rw [ht] at hx; cases hx; exact decide_eq_false hbig
        clear ht
        go_wp2_with fail
        go_round
        case rel => exact ⟨k + 1, by omega, by go_num, HE.out⟩
        case measure => simp [intOf]; omega
    · obtain rfl : k = S.length := by omega
      have HQ2 : Hid (greatB (S, A) xs = (A.any bigA || xs.any bigS)) := by
        show _ = _
        rw [HQ.out, any_not HP.out]; rfl
      clear HP HQ HT
      go_wp2_with fail
      have HSX : Hid (RS lyS (W.alloc (.cells #[.slice sa S.length sc, .slice aa A.length ac] 25)) xa xs) := HXA.out _ ((Bl.refl W).alloc _)
      go_loop [6] (fun u6 => ∃ j : Nat, j ≤ xs.length ∧ u6 = .int .i64 j ∧ ∀ i x, i < j → xs[i]? = some x → bigS x = false) (fun u6 => xs.length - (intOf u6).toNat)
      case atStart => exact ⟨0, Nat.zero_le _, rfl, fun i x hi => by omega⟩
      case round =>
        obtain ⟨j, hj, rfl, hpre⟩ := hrel
        have HPJ : Hid (∀ i x, i < j → xs[i]? = some x → bigS x = false) := hpre
        clear hpre
        by_cases hlj : j < xs.length
        · obtain ⟨s, hs⟩ : ∃ s, xs[j]? = some s := ⟨xs[j], List.getElem?_eq_getElem hlj⟩
          obtain ⟨b2, off2, rfl, hb2, hcell⟩ := HSX.out j s hs
          obtain ⟨hsl, hsl2⟩ := HXL.out s (List.mem_of_getElem? hs)
          unfold maxLen at hsl hsl2
          have HT1 : Hid (bigS s = true → greatB (S, A) xs = true) := fun h => by rw [HQ2.out, any_of hs h]; simp
          have HEJ0 : Hid (bigS s = false → ∀ i x, i < j + 1 → xs[i]? = some x → bigS x = false) := fun h i x hi hx => by
            rcases (by omega : i < j ∨ i = j) with h' | rfl
            · exact HPJ.out i x h' hx
            · rw [hs] at hx; cases hx; exact h
          obtain ⟨sn, sb⟩ := s
          have q0 := hcell 0 (.string (M.bs sn)) rfl
          have q1 := hcell 1 (.string (M.bs sb)) rfl
          rw [show off2 + j * lyS.k + 0 = off2 + j * 2 by rfl] at q0
          rw [show off2 + j * lyS.k + 1 = off2 + j * 2 + 1 by rfl] at q1
          simp only at hsl hsl2
          have hbs := M.bs_size sn
          have hbs2 := M.bs_size sb
          clear hs hcell
          by_cases hbig : 200 < sn.length
          · have HT : Hid (greatB (S, A) xs = true) := HT1.out (by simp [bigS, hbig])
            clear HT1 HEJ0
            go_wp2_with fail
            go_ret
            exact ⟨by rw [HT.out]; rfl, HW.out _⟩
          by_cases hbig2 : 1000 < sb.length
          · have HT : Hid (greatB (S, A) xs = true) := HT1.out (by simp [bigS, hbig2])
            clear HT1 HEJ0
            go_wp2_with fail
            go_ret
            exact ⟨by rw [HT.out]; rfl, HW.out _⟩
          have HEJ := HEJ0.out (by simp [bigS]; omega)
          have HEJ : Hid (∀ i x, i < j + 1 → xs[i]? = some x → bigS x = false) := HEJ
          clear HT1 HEJ0
          go_wp2_with fail
          go_round
          case rel => exact ⟨j + 1, by omega, by go_num, HEJ.out⟩
          case measure => simp [intOf]; omega
        · obtain rfl : j = xs.length := by omega
          have HQ3 : Hid (greatB (S, A) xs = A.any bigA) := by
            show _ = _
            rw [HQ2.out, any_not HPJ.out]; simp
          clear HPJ HQ2 HSX
          go_wp2_with fail
          have HGA : Hid (GA (W.alloc (.cells #[.slice sa S.length sc, .slice aa A.length ac] 25)).heap.size (W.alloc (.cells #[.slice sa S.length sc, .slice aa A.length ac] 25)) (S, A) sa sc aa ac) := HG.out _
          have HC0 : Hid (∀ W', Bl (W.alloc (.cells #[.slice sa S.length sc, .slice aa A.length ac] 25)) W' → W'.cell? ⟨W.heap.size, 0, none⟩ = some (.slice sa S.length sc) ∧ W'.cell? ⟨W.heap.size, 1, none⟩ = some (.slice aa A.length ac)) := fun W' h => C0.out _ W' h
          have HWF : Hid (∀ W', Bl (W.alloc (.cells #[.slice sa S.length sc, .slice aa A.length ac] 25)) W' → Bl w W') := fun W' h => (HW.out _).step h
          have HR0 : Hid (Bl (W.alloc (.cells #[.slice sa S.length sc, .slice aa A.length ac] 25)) (W.alloc (.cells #[.slice sa S.length sc, .slice aa A.length ac] 25))) := Bl.refl _
          have hbx : W.heap.size < (W.alloc (.cells #[.slice sa S.length sc, .slice aa A.length ac] 25)).heap.size := by simp
          clear HG C0 HW HXA
          generalize W.heap.size = bx at *
          generalize W.alloc (.cells #[.slice sa S.length sc, .slice aa A.length ac] 25) = W1 at *
          go_loopw [7, 8, 9] (fun u7 u8 u9 wr => ∃ k : Nat, k ≤ A.length ∧ u7 = .int .i64 k ∧ (∀ i x, i < k → A[i]? = some x → bigA x = false) ∧ Bl W1 wr) (fun u7 _ _ _ => A.length - (intOf u7).toNat)
          case atStart => exact ⟨0, Nat.zero_le _, rfl, fun i x hi => by omega, HR0.out⟩
          case round =>
            obtain ⟨k, hk, rfl, hpre, hbl⟩ := hrel
            have HP : Hid (∀ i x, i < k → A[i]? = some x → bigA x = false) := hpre
            have HBR : Hid (Bl W1 wr) := hbl
            obtain ⟨hc0, hc1⟩ := HC0.out _ hbl
            have hbw : bx < wr.heap.size := Nat.lt_of_lt_of_le hbx (Below.size hbl)
            clear hpre hbl HR0
            by_cases hlt : k < A.length
            · obtain ⟨t, ht⟩ : ∃ t, A[k]? = some t := ⟨A[k], List.getElem?_eq_getElem hlt⟩
              obtain ⟨b, off, x, c, rfl, hb, hr, hs⟩ := HGA.out.a.bl HBR.out k t ht
              obtain ⟨n, ins, code⟩ := t
              obtain ⟨o1, o2, o3, o4⟩ := HKA.out _ (List.mem_of_getElem? ht)
              simp only [] at o1 o2 o4 hs
              have hz1 := M.bs_size n
              have hz2 := M.bs_size code
              have HF : Hid (bigA (n, ins, code) = true → greatB (S, A) xs = true) := fun h => by rw [HQ3.out]; exact any_of ht h
              have HE : Hid (bigA (n, ins, code) = false → ∀ i x, i < k + 1 → A[i]? = some x → bigA x = false) := fun h i x hi hx => by
                rcases (by omega : i < k ∨ i = k) with h' | rfl
                · exact HP.out i x h' hx
                · rw [ht] at hx; cases hx; exact h
              have HO3 : Hid (∀ s ∈ ins, s.length ≤ maxLen) := o3
              have HI : Hid (∀ o, SA (wr.alloc o) x ins) := fun o => (Strs.sa (hs.bl ((Bl.refl wr).alloc o))).2
              have hi := infoAc (n, ins, code) x c
              have HR : Hid (wr.rangeAt b (off + k * 3) (acL (n, ins, code) x c)) := hr
              have HWA : Hid (∀ o, Bl W1 (wr.alloc o)) := fun o => HBR.out.alloc o
              unfold acL at hi HR
              simp only [] at hi HR
              unfold maxLen at o1 o2 o4
              clear ht hr hs o3
              by_cases c1 : 200 < n.length
              · have HT : Hid (greatB (S, A) xs = true) := HF.out (by simp [bigA, c1])
                clear HF HE
                go_wp2_with (refine wpList_load_mid rfl 43 _ rfl b (off + k * 3) rfl _ _ HR.out hum rfl hi ?_; clear HR)
                go_ret
                exact ⟨by rw [HT.out]; rfl, HWF.out _ (HWA.out _)⟩
              by_cases c2 : 200 < code.length
              · have HT : Hid (greatB (S, A) xs = true) := HF.out (by simp [bigA, c2])
                clear HF HE
                go_wp2_with (refine wpList_load_mid rfl 43 _ rfl b (off + k * 3) rfl _ _ HR.out hum rfl hi ?_; clear HR)
                go_ret
                exact ⟨by rw [HT.out]; rfl, HWF.out _ (HWA.out _)⟩
              by_cases c3 : 10 < ins.length
              · have HT : Hid (greatB (S, A) xs = true) := HF.out (by simp [bigA, c3])
                clear HF HE
                go_wp2_with (refine wpList_load_mid rfl 43 _ rfl b (off + k * 3) rfl _ _ HR.out hum rfl hi ?_; clear HR)
                go_ret
                exact ⟨by rw [HT.out]; rfl, HWF.out _ (HWA.out _)⟩
              have HBG : Hid (bigA (n, ins, code) = ins.any bigT) := by
                show _ = _
                simp only [bigA, decide_eq_false c1, decide_eq_false c2, decide_eq_false c3, Bool.false_or]
              go_wp2_with (refine wpList_load_mid rfl 43 _ rfl b (off + k * 3) rfl _ _ HR.out hum rfl hi ?_; clear HR)
              go_loop [9] (fun u9 => ∃ j : Nat, j ≤ ins.length ∧ u9 = .int .i64 j ∧ ∀ i x, i < j → ins[i]? = some x → bigT x = false) (fun u9 => ins.length - (intOf u9).toNat)
              case atStart => exact ⟨0, Nat.zero_le _, rfl, fun i x hi => by omega⟩
              case round =>
                obtain ⟨j, hj, rfl, hpre⟩ := hrel
                have HPJ : Hid (∀ i x, i < j → ins[i]? = some x → bigT x = false) := hpre
                clear hpre
                by_cases hlj : j < ins.length
                · obtain ⟨s, hs⟩ : ∃ s, ins[j]? = some s := ⟨ins[j], List.getElem?_eq_getElem hlj⟩
                  obtain ⟨b2, off2, rfl, hcell⟩ := HI.out (.cells #[.string (M.bs n), .slice x ins.length c, .string (M.bs code)] 43) j s hs
                  have hsl := HO3.out s (List.mem_of_getElem? hs)
                  unfold maxLen at hsl
                  have hbs := M.bs_size s
                  by_cases hbig : 200 < s.length
                  · have HT : Hid (greatB (S, A) xs = true) := HF.out (by rw [HBG.out]; exact any_of hs (decide_eq_true hbig))
                    clear hs HF HE
                    go_wp2_with fail
                    go_ret
                    exact ⟨by rw [HT.out]; rfl, HWF.out _ (HWA.out _)⟩
                  · have HEJ : Hid (∀ i x, i < j + 1 → ins[i]? = some x → bigT x = false) := fun i x hi hx => by
                      rcases (by omega : i < j ∨ i = j) with h' | rfl
                      · exact HPJ.out i x h' hx
                      · rw [hs] at hx; cases hx; exact decide_eq_false hbig
                    clear hs HF HE
                    go_wp2_with fail
                    go_round
                    case rel => exact ⟨j + 1, by omega, by go_num, HEJ.out⟩
                    case measure => simp [intOf]; omega
                · obtain rfl : j = ins.length := by omega
                  have HN : Hid (∀ i x, i < k + 1 → A[i]? = some x → bigA x = false) := HE.out (by rw [HBG.out]; exact any_not HPJ.out)
                  clear HF HE
                  go_wp2_with fail
                  go_roundw
                  case rel => exact ⟨k + 1, by omega, by go_num, HN.out, HWA.out _⟩
                  case measure => simp [intOf]; omega
            · obtain rfl : k = A.length := by omega
              have HQ4 : Hid (greatB (S, A) xs = false) := by show _ = _; rw [HQ3.out, any_not HP.out]
              clear HP HQ3
              go_wp2_with fail
              go_ret
              exact ⟨by rw [HQ4.out]; rfl, HWF.out _ HBR.out⟩
end Go.Proofs.YtjbffhdccgmfpaaGreatDoor
