/- recipe.Same: whether two builds are the same. -/
import Derived.Test.YtgjpcddjfmdobaaDoorL3
namespace Go.Proofs.YtgjpcddjfmdobaaDoor
open Go.RowKit
set_option linter.unusedVariables false

theorem bs_eqB (a b : List UInt8) : ((M.bs a).toList == (M.bs b).toList) = decide (a = b) := by
  rw [Lib.toList_data, Lib.toList_data, M.bs_toList, M.bs_toList, Bool.eq_iff_iff]; simp
theorem ac_eq (n m : List UInt8) (i j : List (List UInt8)) (c d : List UInt8) : decide (((n, i, c) : RC.Ac) = (m, j, d)) = (decide (n = m) && decide (c = d) && decide (i = j)) := by
  rw [Bool.eq_iff_iff]; simp only [Bool.and_eq_true, decide_eq_true_eq, Prod.mk.injEq]
  exact ⟨fun ⟨a, b, c⟩ => ⟨⟨a, c⟩, b⟩, fun ⟨⟨a, c⟩, b⟩ => ⟨a, b, c⟩⟩
set_option maxHeartbeats 1000000 in
theorem sameAction_at (t u : RC.Ac) (x y : Option Addr) (c d : Nat) {w W : World} (HB : Bl w W) (hv : Strs W.heap.size W (.slice x t.2.1.length c) t.2.1) (hu : Strs W.heap.size W (.slice y u.2.1.length d) u.2.1) (ht : acOk t) (hu2 : acOk u) :
    Calls Tryd.prog 28 #[.agg (acL t x c).toArray, .agg (acL u y d).toArray] W fun e w' => e = .returned (.bool (decide (t = u))) ∧ Bl w w' := by
  obtain ⟨n, ins, code⟩ := t
  obtain ⟨m, jns, dode⟩ := u
  have CE : Hid (∀ W', Bl W W' → Calls Tryd.prog 26 #[.slice x ins.length c, .slice y jns.length d] W' fun e w' => e = .returned (.bool (decide (ins = jns))) ∧ ∃ k, w' = W'.drewN k) := fun W' hW => Equal_x ins jns x y c d W' (Strs.sa (hv.bl hW)).2 (Strs.sa (hu.bl hW)).2 ht.2.1 hu2.2.1
  have HA : Hid (∀ o1 o2, Bl W ((W.alloc o1).alloc o2)) := fun o1 o2 => ((Bl.refl W).alloc o1).alloc o2
  have HF : Hid (∀ o1 o2 k, Bl w (((W.alloc o1).alloc o2).drewN k)) := fun o1 o2 k => ((HB.alloc o1).alloc o2).drewN k
  have HF0 : Hid (∀ o1 o2, Bl w ((W.alloc o1).alloc o2)) := fun o1 o2 => (HB.alloc o1).alloc o2
  rw [ac_eq]
  have h1 := bs_eqB n m
  have h2 := bs_eqB code dode
  obtain ⟨q1, hq1⟩ : ∃ q, decide (n = m) = q := ⟨_, rfl⟩
  obtain ⟨q2, hq2⟩ : ∃ q, decide (code = dode) = q := ⟨_, rfl⟩
  obtain ⟨q3, hq3⟩ : ∃ q, decide (ins = jns) = q := ⟨_, rfl⟩
  rw [hq1] at h1 ⊢
  rw [hq2] at h2 ⊢
  rw [hq3] at CE ⊢
  clear hq1 hq2 hq3 hv hu ht hu2 HB
  unfold acL
  simp only []
  cases q1 <;> cases q2
  all_goals
    go_enter Tryd.func28, Tryd.ntmps28
    go_wp2_with (go_at_call 26; refine (CE.out _ (HA.out _ _)).mono ?_; rintro e w' ⟨rfl, kk, rfl⟩)
    go_ret
    exact ⟨by first | rfl | (simp_all; done), by first | exact HF0.out _ _ | exact HF.out _ _ _⟩

set_option maxRecDepth 8000 in
set_option maxHeartbeats 2000000 in
theorem EqualA_x (l1 l2 : List RC.Ac) (a1 a2 : Option Addr) (c1 c2 : Nat) {w W : World} (HB : Bl w W) (h1 : Acts W.heap.size W a1 l1) (h2 : Acts W.heap.size W a2 l2) (hk1 : ∀ t ∈ l1, acOk t) (hk2 : ∀ t ∈ l2, acOk t) (hn1 : l1.length ≤ maxLen) (hn2 : l2.length ≤ maxLen) :
    Calls Tryd.prog 27 #[.slice a1 l1.length c1, .slice a2 l2.length c2, .func (.func 28) #[] #[]] W fun e w' => e = .returned (.bool (decide (l1 = l2))) ∧ Bl w w' := by
  have H1 : Hid (Acts W.heap.size W a1 l1) := h1
  have H2 : Hid (Acts W.heap.size W a2 l2) := h2
  have HK1 : Hid (∀ t ∈ l1, acOk t) := hk1
  have HK2 : Hid (∀ t ∈ l2, acOk t) := hk2
  have HB0 : Hid (Bl w W) := HB
  obtain ⟨fs, hum⟩ := undAc
  clear h1 h2 hk1 hk2 HB
  unfold maxLen at hn1 hn2
  by_cases hln : l1.length = l2.length
  · have hq : ((l1.length : Int) != (l2.length : Int)) = false := by simp [hln]
    have HLN : Hid (l1.length = l2.length) := hln
    clear hln
    go_enter Tryd.func27, Tryd.ntmps27
    go_wp2_with fail
    go_loopw [7, 8, 9, 17] (fun u7 u8 u9 u17 wr => ∃ k : Nat, k ≤ l1.length ∧ u17 = .int .i64 k ∧ (∀ i, i < k → l1[i]? = l2[i]?) ∧ Bl W wr) (fun _ _ _ u17 _ => l1.length - (intOf u17).toNat)
    case atStart => exact ⟨0, Nat.zero_le _, rfl, fun i hi => by omega, Bl.refl W⟩
    case round =>
      obtain ⟨k, hk, rfl, hsame, hbl⟩ := hrel
      have HS : Hid (∀ i, i < k → l1[i]? = l2[i]?) := hsame
      have HBR : Hid (Bl W wr) := hbl
      clear hsame hbl
      by_cases hlt : k < l1.length
      · have hlt2 : k < l2.length := by rw [← HLN.out]; exact hlt
        obtain ⟨t1, ht1⟩ : ∃ t, l1[k]? = some t := ⟨l1[k], List.getElem?_eq_getElem hlt⟩
        obtain ⟨t2, ht2⟩ : ∃ t, l2[k]? = some t := ⟨l2[k], List.getElem?_eq_getElem hlt2⟩
        obtain ⟨b1, o1, x1, d1, rfl, g1, r1, s1⟩ := H1.out.bl HBR.out k t1 ht1
        obtain ⟨b2, o2, x2, d2, rfl, g2, r2, s2⟩ := H2.out.bl HBR.out k t2 ht2
        have m1 := HK1.out t1 (List.mem_of_getElem? ht1)
        have m2 := HK2.out t2 (List.mem_of_getElem? ht2)
        have HR1 : Hid (wr.rangeAt b1 (o1 + k * 3) (acL t1 x1 d1)) := r1
        have HR2 : Hid (∀ o, (wr.alloc o).rangeAt b2 (o2 + k * 3) (acL t2 x2 d2)) := fun o j v hv => by
          have hb : Below wr.heap.size wr (wr.alloc o) := (Below.refl _ wr).alloc (Nat.le_refl _) o
          rw [hb.cell (p := ⟨b2, o2 + k * 3 + j, none⟩) g2]
          exact r2 j v hv
        have i1 := infoAc t1 x1 d1
        have i2 := infoAc t2 x2 d2
        have CS : Hid (∀ o p, Calls Tryd.prog 28 #[.agg (acL t1 x1 d1).toArray, .agg (acL t2 x2 d2).toArray] ((wr.alloc o).alloc p) fun e w' => e = .returned (.bool (decide (t1 = t2))) ∧ Bl W w') := fun o p => by
          have hx : Bl wr ((wr.alloc o).alloc p) := ((Bl.refl wr).alloc o).alloc p
          exact sameAction_at t1 t2 x1 x2 d1 d2 (HBR.out.step hx) (s1.bl hx) (s2.bl hx) m1 m2
        have HNE : Hid (decide (t1 = t2) = false → l1 ≠ l2) := fun hd e => by
          rw [e, ht2] at ht1
          cases ht1
          simp at hd
        have HEQ : Hid (decide (t1 = t2) = true → ∀ i, i < k + 1 → l1[i]? = l2[i]?) := fun hd i hi => by
          rcases (by omega : i < k ∨ i = k) with h' | rfl
          · exact HS.out i h'
          · rw [ht1, ht2, of_decide_eq_true hd]
        clear ht1 ht2 r1 r2 s1 s2 m1 m2 g1 g2
        unfold acL at HR1 HR2 i1 i2 CS
        generalize decide (t1 = t2) = q at *
        cases q
        · go_wp2_with (first
            | (refine wpList_load_mid rfl 42 _ rfl b1 (o1 + k * 3) rfl _ _ HR1.out hum rfl i1 ?_; clear HR1)
            | (refine wpList_load_mid rfl 42 _ rfl b2 (o2 + k * 3) rfl _ _ (HR2.out _) hum rfl i2 ?_; clear HR2)
            | (go_at_call 28; refine (CS.out _ _).mono ?_; rintro e w' ⟨rfl, hy⟩))
          go_ret
          exact ⟨by rw [decide_eq_false (HNE.out trivial)]; rfl, HB0.out.step hy⟩
        · go_wp2_with (first
            | (refine wpList_load_mid rfl 42 _ rfl b1 (o1 + k * 3) rfl _ _ HR1.out hum rfl i1 ?_; clear HR1)
            | (refine wpList_load_mid rfl 42 _ rfl b2 (o2 + k * 3) rfl _ _ (HR2.out _) hum rfl i2 ?_; clear HR2)
            | (go_at_call 28; refine (CS.out _ _).mono ?_; rintro e w' ⟨rfl, hy⟩))
          go_roundw
          case rel => exact ⟨k + 1, by omega, by go_num, HEQ.out trivial, hy⟩
          case measure => simp [intOf]; omega
      · obtain rfl : k = l1.length := by omega
        go_wp2_with fail
        go_ret
        refine ⟨?_, HB0.out.step HBR.out⟩
        have he : l1 = l2 := by
          apply List.ext_getElem?
          intro i
          by_cases hi : i < l1.length
          · exact HS.out i hi
          · rw [List.getElem?_eq_none (by omega), List.getElem?_eq_none (by rw [← HLN.out]; omega)]
        rw [decide_eq_true he]
        rfl
  · have hq : ((l1.length : Int) != (l2.length : Int)) = true := by rw [bne_iff_ne]; omega
    have hne : l1 ≠ l2 := fun e => hln (by rw [e])
    rw [decide_eq_false hne]
    clear hln hne
    go_enter Tryd.func27, Tryd.ntmps27
    go_wp2_with fail
    go_ret
    exact ⟨rfl, HB0.out⟩
theorem gr_eq (s t : List (List UInt8)) (a b : List RC.Ac) : decide (((s, a) : RC.Gr) = (t, b)) = (decide (s = t) && decide (a = b)) := by
  rw [Bool.eq_iff_iff]; simp only [Bool.and_eq_true, decide_eq_true_eq, Prod.mk.injEq]

set_option maxHeartbeats 1000000 in
theorem Same_at (g h : RC.Gr) (sa : Option Addr) (sc : Nat) (aa : Option Addr) (ac : Nat) (sa' : Option Addr) (sc' : Nat) (aa' : Option Addr) (ac' : Nat) {w W : World} (HB : Bl w W) (hg : GA W.heap.size W g sa sc aa ac) (hh : GA W.heap.size W h sa' sc' aa' ac') (hk : grOk g) (hk' : grOk h) :
    Calls Tryd.prog 13 #[.agg (gv g sa sc aa ac), .agg (gv h sa' sc' aa' ac')] W fun e w' => e = .returned (.bool (decide (g = h))) ∧ Bl w w' := by
  obtain ⟨S, A⟩ := g
  obtain ⟨S', A'⟩ := h
  have CE : Hid (∀ W', Bl W W' → Calls Tryd.prog 26 #[.slice sa S.length sc, .slice sa' S'.length sc'] W' fun e w' => e = .returned (.bool (decide (S = S'))) ∧ Bl W w') := fun W' hW => by
    refine (Equal_x S S' sa sa' sc sc' W' (Strs.sa (hg.s.bl hW)).2 (Strs.sa (hh.s.bl hW)).2 hk.s hk'.s).mono ?_
    rintro e w' ⟨rfl, n, rfl⟩
    exact ⟨rfl, hW.drewN n⟩
  have CA : Hid (∀ W', Bl W W' → Calls Tryd.prog 27 #[.slice aa A.length ac, .slice aa' A'.length ac', .func (.func 28) #[] #[]] W' fun e w' => e = .returned (.bool (decide (A = A'))) ∧ Bl W w') := fun W' hW => EqualA_x A A' aa aa' ac ac' hW (hg.a.bl hW) (hh.a.bl hW) hk.b hk'.b hk.a hk'.a
  have HX : Bl W W := Bl.refl W
  have HF : Hid (∀ W', Bl W W' → Bl w W') := fun W' h => HB.step h
  have HC : Hid (∀ o p W', Bl ((W.alloc o).alloc p) W' → Bl W W') := fun o p W' h => (((Bl.refl W).alloc o).alloc p).step h
  have C2 : ∀ o p W' i, Bl ((W.alloc o).alloc p) W' → W'.cell? ⟨W.heap.size, i, none⟩ = ((W.alloc o).alloc p).cell? ⟨W.heap.size, i, none⟩ := fun o p W' i h => Bl.cell h (by simp; omega)
  have C3 : ∀ o p W' i, Bl ((W.alloc o).alloc p) W' → W'.cell? ⟨W.heap.size + 1, i, none⟩ = ((W.alloc o).alloc p).cell? ⟨W.heap.size + 1, i, none⟩ := fun o p W' i h => Bl.cell h (by simp)
  have CE2 : Hid (∀ o p, Calls Tryd.prog 26 #[.slice sa S.length sc, .slice sa' S'.length sc'] ((W.alloc o).alloc p) fun e w' => e = .returned (.bool (decide (S = S'))) ∧ ∃ n, w' = ((W.alloc o).alloc p).drewN n) := fun o p => by
    have hW : Bl W ((W.alloc o).alloc p) := ((Bl.refl W).alloc o).alloc p
    exact Equal_x S S' sa sa' sc sc' _ (Strs.sa (hg.s.bl hW)).2 (Strs.sa (hh.s.bl hW)).2 hk.s hk'.s
  have CA2 : Hid (∀ o p n, Calls Tryd.prog 27 #[.slice aa A.length ac, .slice aa' A'.length ac', .func (.func 28) #[] #[]] (((W.alloc o).alloc p).drewN n) fun e w' => e = .returned (.bool (decide (A = A'))) ∧ Bl w w') := fun o p n => by
    have hW : Bl W (((W.alloc o).alloc p).drewN n) := (((Bl.refl W).alloc o).alloc p).drewN n
    exact EqualA_x A A' aa aa' ac ac' (HB.step hW) (hg.a.bl hW) (hh.a.bl hW) hk.b hk'.b hk.a hk'.a
  have HF2 : Hid (∀ o p n, Bl w (((W.alloc o).alloc p).drewN n)) := fun o p n => ((HB.alloc o).alloc p).drewN n
  rw [gr_eq]
  generalize decide (S = S') = q1 at *
  generalize decide (A = A') = q2 at *
  clear HB hg hh hk hk' CE CA HF HC C2 C3 HX
  unfold gv
  simp only []
  cases q1
  all_goals
    go_enter Tryd.func13, Tryd.ntmps13
    go_wp2_with (first
      | (go_at_call 26; refine (CE2.out _ _).mono ?_; rintro e w' ⟨rfl, nn, rfl⟩)
      | (go_at_call 27; refine (CA2.out _ _ _).mono ?_; rintro e w' ⟨rfl, HX⟩))
    go_ret
    exact ⟨by first | rfl | (simp_all; done), by first | exact HX | exact HF2.out _ _ _⟩
end Go.Proofs.YtgjpcddjfmdobaaDoor
