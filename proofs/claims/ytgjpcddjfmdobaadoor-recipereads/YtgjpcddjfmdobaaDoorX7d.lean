/- The reference's Same. -/
import Derived.Test.YtgjpcddjfmdobaaDoorX7a
namespace Go.Proofs.YtgjpcddjfmdobaaDoor
open Go.RowKit
set_option linter.unusedVariables false

/-- a build of bounded lists -/
def smallG (g : RC.Gr) : Prop := g.1.length ≤ 1000 ∧ g.2.length ≤ 1000 ∧ ∀ t ∈ g.2, t.2.1.length ≤ 1000
set_option maxRecDepth 8000 in
set_option maxHeartbeats 4000000 in
theorem rSame_x (g h : RC.Gr) (sa : Option Addr) (sc : Nat) (aa : Option Addr) (ac : Nat) (ta : Option Addr) (tc : Nat) (ba : Option Addr) (bc : Nat) {w W : World} (HB : Bl w W) (hg : GA W.heap.size W g sa sc aa ac) (hh : GA W.heap.size W h ta tc ba bc) (hk : smallG g) (hk' : smallG h) :
    Calls Tryd.prog 14 #[.agg (gv g sa sc aa ac), .agg (gv h ta tc ba bc)] W fun e w' => e = .returned (.bool (decide (g = h))) ∧ Bl w w' := by
  obtain ⟨S, A⟩ := g
  obtain ⟨S', A'⟩ := h
  obtain ⟨k1, k2, k3⟩ := hk
  obtain ⟨k1', k2', k3'⟩ := hk'
  simp only [] at k1 k2 k1' k2' k3 k3'
  have CE : Hid (∀ o p, Calls Tryd.prog 29 #[.slice sa S.length sc, .slice ta S'.length tc] ((W.alloc o).alloc p) fun e w' => e = .returned (.bool (decide (S = S'))) ∧ Bl ((W.alloc o).alloc p) w') := fun o p => by
    have hW : Bl W ((W.alloc o).alloc p) := ((Bl.refl W).alloc o).alloc p
    exact same_b _ _ S S' _ _ (Bl.refl _) (hg.s.bl hW) (hh.s.bl hW) (by omega)
  have HGV : Hid (∀ o p, GA ((W.alloc o).alloc p).heap.size ((W.alloc o).alloc p) (S, A) sa sc aa ac ∧ GA ((W.alloc o).alloc p).heap.size ((W.alloc o).alloc p) (S', A') ta tc ba bc ∧ Bl w ((W.alloc o).alloc p)) := fun o p => by
    have hW : Bl W ((W.alloc o).alloc p) := ((Bl.refl W).alloc o).alloc p
    exact ⟨hg.bl hW, hh.bl hW, HB.step hW⟩
  have HCC : Hid (∀ (W' : World) (T U : TypeId), Bl ((W.alloc (.cells #[.slice sa S.length sc, .slice aa A.length ac] T)).alloc (.cells #[.slice ta S'.length tc, .slice ba A'.length bc] U)) W' → W'.cell? ⟨W.heap.size, 1, none⟩ = some (.slice aa A.length ac) ∧ W'.cell? ⟨W.heap.size + 1, 1, none⟩ = some (.slice ba A'.length bc)) := fun W' T U h => by
    have h2 : Bl (W.alloc (.cells #[.slice sa S.length sc, .slice aa A.length ac] T)) W' := ((Bl.refl _).alloc _).step h
    constructor
    · rw [Bl.cell h2 (by simp), Lib.cell_of_heap (heap_alloc_new W _)]; rfl
    · have e : (W.alloc (.cells #[.slice sa S.length sc, .slice aa A.length ac] T)).heap.size = W.heap.size + 1 := by simp
      rw [← e, Bl.cell h (by simp), Lib.cell_of_heap (heap_alloc_new _ _)]; rfl
  rw [gr_eq]
  obtain ⟨fs, hum⟩ := undAc
  clear hg hh HB
  unfold gv
  simp only []
  obtain ⟨q1, hq1⟩ : ∃ q, decide (S = S') = q := ⟨_, rfl⟩
  rw [hq1] at CE ⊢
  clear hq1
  cases q1
  · go_enter Tryd.func14, Tryd.ntmps14
    go_wp2_with (go_at_call 29; refine (CE.out _ _).mono ?_; rintro e w1 ⟨rfl, hb1⟩; have HF := (HGV.out _ _).2.2.step hb1)
    go_ret
    exact ⟨rfl, HF⟩
  by_cases hln : A.length = A'.length
  · have hqn : ((A.length : Int) != (A'.length : Int)) = false := by simp [hln]
    have HLN : Hid (A.length = A'.length) := hln
    clear hln
    go_enter Tryd.func14, Tryd.ntmps14
    go_wp2_with (go_at_call 29; refine (CE.out _ _).mono ?_; rintro e w1 ⟨rfl, hb1⟩; obtain ⟨g1, g2, g3⟩ := HGV.out _ _; have HA1 := g1.a.bl hb1; have HA2 := g2.a.bl hb1; have HF1 := g3.step hb1; have HC1 : Hid (∀ W', Bl w1 W' → W'.cell? ⟨W.heap.size, 1, none⟩ = some (.slice aa A.length ac) ∧ W'.cell? ⟨W.heap.size + 1, 1, none⟩ = some (.slice ba A'.length bc)) := (fun W' h => HCC.out _ _ _ (hb1.step h)); obtain ⟨c1, c2⟩ := HC1.out _ (Bl.refl w1); clear CE HGV HCC g1 g2 g3 hb1)
    have HX1 : Hid (Acts w1.heap.size w1 aa A) := HA1
    have HX2 : Hid (Acts w1.heap.size w1 ba A') := HA2
    have HXF : Hid (Bl w w1) := HF1
    have HR0 : Hid (Bl w1 w1) := Bl.refl w1
    clear HA1 HA2 HF1 c1 c2
    generalize W.heap.size = bx at *
    go_loopw [5, 6, 7] (fun u5 u6 u7 wr => ∃ k : Nat, k ≤ A.length ∧ u5 = .int .i64 k ∧ (∀ i, i < k → A[i]? = A'[i]?) ∧ Bl w1 wr) (fun u5 _ _ _ => A.length - (intOf u5).toNat)
    case atStart => exact ⟨0, Nat.zero_le _, rfl, fun i hi => by omega, HR0.out⟩
    case round =>
      obtain ⟨k, hk, rfl, hsame, hbl⟩ := hrel
      have HS : Hid (∀ i, i < k → A[i]? = A'[i]?) := hsame
      have HBR : Hid (Bl w1 wr) := hbl
      obtain ⟨c1, c2⟩ := HC1.out _ hbl
      have c3 := fun o => (HC1.out _ (hbl.alloc o)).2
      clear hsame hbl HR0
      by_cases hlt : k < A.length
      · have hlt2 : k < A'.length := by rw [← HLN.out]; exact hlt
        obtain ⟨t1, ht1⟩ : ∃ t, A[k]? = some t := ⟨A[k], List.getElem?_eq_getElem hlt⟩
        obtain ⟨t2, ht2⟩ : ∃ t, A'[k]? = some t := ⟨A'[k], List.getElem?_eq_getElem hlt2⟩
        obtain ⟨b1, o1, x1, d1, rfl, g1, r1, s1⟩ := HX1.out.bl HBR.out k t1 ht1
        obtain ⟨b2, o2, x2, d2, rfl, g2, r2, s2⟩ := HX2.out.bl HBR.out k t2 ht2
        have m1 := k3 t1 (List.mem_of_getElem? ht1)
        have HNE : Hid (decide (t1 = t2) = false → decide (A = A') = false) := fun hd => decide_eq_false fun e => by
          rw [e, ht2] at ht1
          cases ht1
          simp at hd
        have HEQ : Hid (decide (t1 = t2) = true → ∀ i, i < k + 1 → A[i]? = A'[i]?) := fun hd i hi => by
          rcases (by omega : i < k ∨ i = k) with h' | rfl
          · exact HS.out i h'
          · rw [ht1, ht2, of_decide_eq_true hd]
        obtain ⟨n, ins, code⟩ := t1
        obtain ⟨m, jns, dode⟩ := t2
        simp only [] at s1 s2 m1
        rw [ac_eq] at HNE HEQ
        have HR1 : Hid (wr.rangeAt b1 (o1 + k * 3) (acL (n, ins, code) x1 d1)) := r1
        have HR2 : Hid (∀ o, (wr.alloc o).rangeAt b2 (o2 + k * 3) (acL (m, jns, dode) x2 d2)) := fun o j v hv => by
          have hb : Below wr.heap.size wr (wr.alloc o) := (Below.refl _ wr).alloc (Nat.le_refl _) o
          rw [hb.cell (p := ⟨b2, o2 + k * 3 + j, none⟩) g2]
          exact r2 j v hv
        have i1 := infoAc (n, ins, code) x1 d1
        have i2 := infoAc (m, jns, dode) x2 d2
        have CS : Hid (∀ o p, Calls Tryd.prog 29 #[.slice x1 ins.length d1, .slice x2 jns.length d2] ((wr.alloc o).alloc p) fun e w' => e = .returned (.bool (decide (ins = jns))) ∧ Bl w1 w') := fun o p => by
          have hx : Bl wr ((wr.alloc o).alloc p) := ((Bl.refl wr).alloc o).alloc p
          exact same_b _ _ ins jns _ _ (HBR.out.step hx) (s1.bl hx) (s2.bl hx) (by omega)
        have HWA : Hid (∀ o p, Bl w1 ((wr.alloc o).alloc p)) := fun o p => (HBR.out.alloc o).alloc p
        have e1 : (!(M.bs n).toList == (M.bs m).toList) = !decide (n = m) := by rw [bs_eqB]
        have e2 : (!(M.bs code).toList == (M.bs dode).toList) = !decide (code = dode) := by rw [bs_eqB]
        generalize decide (n = m) = p1 at *
        generalize decide (code = dode) = p2 at *
        generalize decide (ins = jns) = p3 at *
        unfold acL at HR1 HR2 i1 i2
        simp only [] at HR1 HR2 i1 i2
        clear ht1 ht2 r1 r2 s1 s2 g1 g2
        cases p1 with
        | false =>
          have HQ : Hid (decide (A = A') = false) := HNE.out rfl
          clear HNE HEQ CS
          go_wp2_with (first
            | (refine wpList_load_mid rfl 42 _ rfl b1 (o1 + k * 3) rfl _ _ HR1.out hum rfl i1 ?_; clear HR1)
            | (refine wpList_load_mid rfl 42 _ rfl b2 (o2 + k * 3) rfl _ _ (HR2.out _) hum rfl i2 ?_; clear HR2))
          go_ret
          exact ⟨by rw [HQ.out]; rfl, HXF.out.step (HWA.out _ _)⟩
        | true =>
          cases p2 with
          | false =>
            have HQ : Hid (decide (A = A') = false) := HNE.out rfl
            clear HNE HEQ CS
            go_wp2_with (first
            | (refine wpList_load_mid rfl 42 _ rfl b1 (o1 + k * 3) rfl _ _ HR1.out hum rfl i1 ?_; clear HR1)
            | (refine wpList_load_mid rfl 42 _ rfl b2 (o2 + k * 3) rfl _ _ (HR2.out _) hum rfl i2 ?_; clear HR2))
            go_ret
            exact ⟨by rw [HQ.out]; rfl, HXF.out.step (HWA.out _ _)⟩
          | true =>
            cases p3 with
            | false =>
              have HQ : Hid (decide (A = A') = false) := HNE.out rfl
              clear HNE HEQ
              go_wp2_with (first
            | (refine wpList_load_mid rfl 42 _ rfl b1 (o1 + k * 3) rfl _ _ HR1.out hum rfl i1 ?_; clear HR1)
            | (refine wpList_load_mid rfl 42 _ rfl b2 (o2 + k * 3) rfl _ _ (HR2.out _) hum rfl i2 ?_; clear HR2)
            | (go_at_call 29; refine (CS.out _ _).mono ?_; rintro e w2 ⟨rfl, HB2⟩; clear CS))
              go_ret
              exact ⟨by rw [HQ.out]; rfl, HXF.out.step HB2⟩
            | true =>
              have HQ : Hid (∀ i, i < k + 1 → A[i]? = A'[i]?) := HEQ.out rfl
              clear HNE HEQ
              go_wp2_with (first
            | (refine wpList_load_mid rfl 42 _ rfl b1 (o1 + k * 3) rfl _ _ HR1.out hum rfl i1 ?_; clear HR1)
            | (refine wpList_load_mid rfl 42 _ rfl b2 (o2 + k * 3) rfl _ _ (HR2.out _) hum rfl i2 ?_; clear HR2)
            | (go_at_call 29; refine (CS.out _ _).mono ?_; rintro e w2 ⟨rfl, HB2⟩; clear CS))
              go_roundw
              case rel => exact ⟨k + 1, by omega, by go_num, HQ.out, HB2⟩
              case measure => simp [intOf]; omega
      · obtain rfl : k = A.length := by omega
        have he : A = A' := by
          apply List.ext_getElem?
          intro i
          by_cases hi : i < A.length
          · exact HS.out i hi
          · rw [List.getElem?_eq_none (by omega), List.getElem?_eq_none (by rw [← HLN.out]; omega)]
        have HE : Hid (decide (A = A') = true) := decide_eq_true he
        clear he
        go_wp2_with fail
        go_ret
        exact ⟨by rw [HE.out]; rfl, HXF.out.step HBR.out⟩
  · have hqn : ((A.length : Int) != (A'.length : Int)) = true := by rw [bne_iff_ne]; omega
    have hne : A ≠ A' := fun e => hln (by rw [e])
    rw [decide_eq_false hne]
    clear hln hne
    go_enter Tryd.func14, Tryd.ntmps14
    go_wp2_with (go_at_call 29; refine (CE.out _ _).mono ?_; rintro e w1 ⟨rfl, hb1⟩; have HF := (HGV.out _ _).2.2.step hb1; obtain ⟨c1, c2⟩ := HCC.out _ _ _ hb1; clear CE HGV HCC hb1)
    go_ret
    exact ⟨rfl, HF⟩
end Go.Proofs.YtgjpcddjfmdobaaDoor
