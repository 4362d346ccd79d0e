/- trellis: Needs. -/
import Derived.Test.YthpdmeoljdmncaaZ9
namespace Go.Proofs.Ythpdmeoljdmncaa
open Go.RowKit
set_option linter.unusedVariables false
set_option linter.unusedSimpArgs false

set_option maxRecDepth 8000 in
theorem named_at (t : RC.Ac) (x : Option Addr) (c nb : Nat) (s : List UInt8) (W : World) (hn : nb < W.heap.size) (hc : W.cell? ⟨nb, 0, none⟩ = some (.string (M.bs s))) :
    Calls Try.prog 28 #[.agg (acL t x c).toArray, .pointer (some ⟨nb, 0, none⟩)] W fun e w' => e = .returned (.bool (decide (t.1 = s))) ∧ Bl W w' := by
  obtain ⟨n, ins, code⟩ := t
  have HB : Hid (∀ o, Bl W (W.alloc o)) := fun o => (Bl.refl W).alloc o
  have hc2 : ∀ o, (W.alloc o).cell? ⟨nb, 0, none⟩ = some (.string (M.bs s)) := fun o => by rw [Bl.cell ((Bl.refl W).alloc o) hn]; exact hc
  obtain ⟨q, hq, hb⟩ : ∃ q, decide (n = s) = q ∧ ((M.bs n).toList == (M.bs s).toList) = q := by
    refine ⟨_, rfl, ?_⟩
    simp only [Lib.toList_data, M.bs_toList]
    rw [Bool.eq_iff_iff, beq_iff_eq, decide_eq_true_eq]
  simp only []
  rw [hq]
  clear hq
  unfold acL
  simp only []
  go_enter Try.func28, Try.ntmps28
  go_wp2_with fail
  go_ret
  exact ⟨rfl, HB.out _⟩
/-- the place of an action of a name -/
def plc (g : RC.Gr) (s : List UInt8) : Option Nat := g.2.findIdx? fun a => decide (a.1 = s)
theorem indexNamed {w W : World} {b : Nat} {g : RC.Gr} {sa aa : Option Addr} {sc ac : Nat} {vn vo : Value} {st : TR.St} (h : KX w b g sa sc aa ac vn vo st W) (nb : Nat) (s : List UInt8) (hn : nb < W.heap.size) (hc : W.cell? ⟨nb, 0, none⟩ = some (.string (M.bs s))) :
    Calls Try.prog 27 #[.slice aa g.2.length ac, .func (.func 28) #[] #[.pointer (some ⟨nb, 0, none⟩)]] W fun e w' => e = .returned (.int .i64 (match plc g s with | some i => (i : Int) | none => -1)) ∧ Bl W w' :=
  IndexA_c _ _ (fun a => decide (a.1 = s)) g.2 aa ac (Bl.refl W) (enters_of Try.func28 (by kernel_rfl) rfl) h.gaW.a h.v.gk.a (fun W' t x c ht hb hs => named_at t x c nb s W' (Nat.lt_of_lt_of_le hn (Below.size hb)) (by rw [Bl.cell hb hn]; exact hc))
/-- what Needs answers -/
def ndK (g : RC.Gr) (st : TR.St) (s : List UInt8) : List (List UInt8) := match plc g s with | some p => srt (nin (TR.nm g) (TR.ndAt st.needs p) (TR.nm g).length) | none => []
def ndL (g : RC.Gr) (s : List UInt8) : List (List UInt8) := if TR.chk g = 0 then ndK g (TR.fin g) s else []
theorem KR.needs {g g' : RC.Gr} {st : TR.St} (h : KR g g' st) (s : List UInt8) : ndK g' st s = ndL g s := by
  unfold ndL
  rcases h with ⟨h, rfl, rfl⟩ | ⟨h, rfl, rfl⟩
  · rw [if_pos (TR.chk_zero.2 h)]
  · rw [if_neg h]; rfl

set_option maxRecDepth 8000 in
set_option maxHeartbeats 4000000 in
theorem Needs_none (g : RC.Gr) (sa : Option Addr) (sc : Nat) (aa : Option Addr) (ac : Nat) (s : List UInt8) {w W : World} (HB : Bl w W) (hg : GA W.heap.size W g sa sc aa ac) (hk : grOk g) (hpl : ∀ g' st, KR g g' st → plc g' s = none) :
    Calls Try.prog 17 #[.agg (gv g sa sc aa ac), .string (M.bs s)] W fun e w' => ∃ v, e = .returned v ∧ w'.ownsRow W.heap.size 9 1 v (ndL g s).length ((ndL g s).map encS) ∧ Bl w w' := by
  have hz := zk_size
  have hzz : ∀ W, (zeroValue 53).run Try.prog W = .ok (.agg zk) W := zeroK
  have CS : Hid (∀ o1 o2, Calls Try.prog 23 #[.agg (gv g sa sc aa ac)] ((W.alloc o1).alloc o2) fun e w' => ∃ g' sa' sc' aa' ac' na nn nc oa on oc st, e = .returned (.tuple #[.agg (kC g' sa' sc' aa' ac' (.slice na nn nc) (.slice oa on oc) st).toArray, .int .i64 (TR.chk g : Int)]) ∧ KV ((W.alloc o1).alloc o2) g' sa' sc' aa' ac' (.slice na nn nc) (.slice oa on oc) st w' ∧ KR g g' st) := fun o1 o2 =>
    study_k g sa sc aa ac (Bl.refl _) (hg.bl (((Bl.refl W).alloc o1).alloc o2)) hk
  have HCN : Hid (∀ o1 T U, Bl ((W.alloc o1).alloc (.cells #[.string (M.bs s)] T)) U → U.cell? ⟨W.heap.size + 1, 0, none⟩ = some (.string (M.bs s)) ∧ W.heap.size + 1 < U.heap.size ∧ Bl w U ∧ W.heap.size ≤ U.heap.size ∧ Bl W U) := fun o1 T U hU => by
    have e1 : (W.alloc o1).heap.size = W.heap.size + 1 := by simp
    have hz : W.heap.size + 1 < ((W.alloc o1).alloc (.cells #[.string (M.bs s)] T)).heap.size := by simp
    have hs := Below.size hU
    refine ⟨?_, by omega, ((HB.alloc _).alloc _).step hU, by omega, (((Bl.refl W).alloc _).alloc _).step hU⟩
    rw [Bl.cell hU hz, ← e1, Lib.cell_of_heap (heap_alloc_new _ _)]; rfl
  have HB0 : Hid (Bl w W) := HB
  clear HB hg hk
  have HPL : Hid (∀ g' st, KR g g' st → plc g' s = none) := hpl
  clear hpl
  generalize zk = Z at *
  unfold gv at CS ⊢
  go_enter Try.func17, Try.ntmps17
  go_wp2_with (first
    | (go_at_call 23; refine (CS.out _ _).mono ?_; clear CS; rintro e w1 ⟨g', sa', sc', aa', ac', na, nn, nc, oa, on, oc, st, rfl, HV, HR⟩; have hkl := kC_size (g := g') (sa := sa') (aa := aa') (sc := sc') (ac := ac') (vn := .slice na nn nc) (vo := .slice oa on oc) HV.len; have hko := kC_one (g := g') (sa := sa') (aa := aa') (sc := sc') (ac := ac') (a1 := na) (n1 := nn) (c1 := nc) (a2 := oa) (n2 := on) (c2 := oc) (st := st); have KP := HV.put Z hz; have HKR : Hid _ := HR.needs s; have hp := HPL.out _ _ HR; have HN : Hid ((w1.alloc (.cells Z 53)).heap[w1.heap.size]? = some (.cells Z 53 (0, 0))) := heap_alloc_new _ _; clear HV HR; generalize hKC : (kC g' sa' sc' aa' ac' (.slice na nn nc) (.slice oa on oc) st).toArray = KC at *)
    | (refine wpList_store_row rfl 53 _ _ rfl w1.heap.size KC rfl rfl 53 Z HN.out (by rw [hkl]; exact infoK) (by rw [hkl]; exact hz) hko ?_
       generalize hW2 : (w1.alloc (.cells Z 53)).setRow w1.heap.size KC = W2 at *
       generalize hkb : w1.heap.size = kb at *
       clear HN hW2 hkb
       have HKP : Hid _ := KP
       clear KP
       obtain ⟨hnc, hnl, HBw, HsW, HBW⟩ := HCN.out _ _ _ HKP.out.v.bl
       have c1 := HKP.out.c1
       have hlt := HKP.out.lt
       have CI := indexNamed HKP.out (W.heap.size + 1) s hnl hnc
       have HBw2 : Hid (Bl w W2) := HBw
       clear HCN hkl hko hKC HBw
       have hl2 := HKP.out.v.l2
       have hl1 := HKP.out.v.l1
       have CI2 : Hid (Calls Try.prog 27 #[.slice aa' g'.2.length ac', .func (.func 28) #[] #[.pointer (some ⟨W.heap.size + 1, 0, none⟩)]] W2 fun e w' => e = .returned (.int .i64 (-1)) ∧ Bl W2 w') := by
         rw [hp] at CI; exact CI
       have HL : Hid (ndL g s = []) := by
         show _ = _
         rw [← HKR.out]; unfold ndK; rw [hp]
       clear CI hp HKR HPL)
    | (go_at_call 27; refine CI2.out.mono ?_; clear CI2; rintro e w3 ⟨rfl, HB3⟩))
  go_ret
  rw [HL.out]
  exact ⟨_, rfl, ⟨rfl, Or.inl ⟨rfl, rfl⟩⟩, HBw2.out.step HB3⟩
set_option maxRecDepth 8000 in
set_option maxHeartbeats 4000000 in
theorem Needs_some (g : RC.Gr) (sa : Option Addr) (sc : Nat) (aa : Option Addr) (ac : Nat) (s : List UInt8) {w W : World} (HB : Bl w W) (hg : GA W.heap.size W g sa sc aa ac) (hk : grOk g) (p : Nat) (hpl : ∀ g' st, KR g g' st → plc g' s = some p) :
    Calls Try.prog 17 #[.agg (gv g sa sc aa ac), .string (M.bs s)] W fun e w' => ∃ v, e = .returned v ∧ w'.ownsRow W.heap.size 9 1 v (ndL g s).length ((ndL g s).map encS) ∧ Bl w w' := by
  have hz := zk_size
  have hzz : ∀ W, (zeroValue 53).run Try.prog W = .ok (.agg zk) W := zeroK
  have CS : Hid (∀ o1 o2, Calls Try.prog 23 #[.agg (gv g sa sc aa ac)] ((W.alloc o1).alloc o2) fun e w' => ∃ g' sa' sc' aa' ac' na nn nc oa on oc st, e = .returned (.tuple #[.agg (kC g' sa' sc' aa' ac' (.slice na nn nc) (.slice oa on oc) st).toArray, .int .i64 (TR.chk g : Int)]) ∧ KV ((W.alloc o1).alloc o2) g' sa' sc' aa' ac' (.slice na nn nc) (.slice oa on oc) st w' ∧ KR g g' st) := fun o1 o2 =>
    study_k g sa sc aa ac (Bl.refl _) (hg.bl (((Bl.refl W).alloc o1).alloc o2)) hk
  have HCN : Hid (∀ o1 T U, Bl ((W.alloc o1).alloc (.cells #[.string (M.bs s)] T)) U → U.cell? ⟨W.heap.size + 1, 0, none⟩ = some (.string (M.bs s)) ∧ W.heap.size + 1 < U.heap.size ∧ Bl w U ∧ W.heap.size ≤ U.heap.size ∧ Bl W U) := fun o1 T U hU => by
    have e1 : (W.alloc o1).heap.size = W.heap.size + 1 := by simp
    have hz : W.heap.size + 1 < ((W.alloc o1).alloc (.cells #[.string (M.bs s)] T)).heap.size := by simp
    have hs := Below.size hU
    refine ⟨?_, by omega, ((HB.alloc _).alloc _).step hU, by omega, (((Bl.refl W).alloc _).alloc _).step hU⟩
    rw [Bl.cell hU hz, ← e1, Lib.cell_of_heap (heap_alloc_new _ _)]; rfl
  have HB0 : Hid (Bl w W) := HB
  clear HB hg hk
  have HPL : Hid (∀ g' st, KR g g' st → plc g' s = some p) := hpl
  clear hpl
  generalize zk = Z at *
  unfold gv at CS ⊢
  go_enter Try.func17, Try.ntmps17
  go_wp2_with (first
    | (go_at_call 23; refine (CS.out _ _).mono ?_; clear CS; rintro e w1 ⟨g', sa', sc', aa', ac', na, nn, nc, oa, on, oc, st, rfl, HV, HR⟩; have hkl := kC_size (g := g') (sa := sa') (aa := aa') (sc := sc') (ac := ac') (vn := .slice na nn nc) (vo := .slice oa on oc) HV.len; have hko := kC_one (g := g') (sa := sa') (aa := aa') (sc := sc') (ac := ac') (a1 := na) (n1 := nn) (c1 := nc) (a2 := oa) (n2 := on) (c2 := oc) (st := st); have KP := HV.put Z hz; have HKR : Hid _ := HR.needs s; have hp := HPL.out _ _ HR; have HN : Hid ((w1.alloc (.cells Z 53)).heap[w1.heap.size]? = some (.cells Z 53 (0, 0))) := heap_alloc_new _ _; clear HV HR; generalize hKC : (kC g' sa' sc' aa' ac' (.slice na nn nc) (.slice oa on oc) st).toArray = KC at *)
    | (refine wpList_store_row rfl 53 _ _ rfl w1.heap.size KC rfl rfl 53 Z HN.out (by rw [hkl]; exact infoK) (by rw [hkl]; exact hz) hko ?_
       generalize hW2 : (w1.alloc (.cells Z 53)).setRow w1.heap.size KC = W2 at *
       generalize hkb : w1.heap.size = kb at *
       clear HN hW2 hkb
       have HKP : Hid _ := KP
       clear KP
       obtain ⟨hnc, hnl, HBw, HsW, HBW⟩ := HCN.out _ _ _ HKP.out.v.bl
       have c1 := HKP.out.c1
       have hlt := HKP.out.lt
       have CI := indexNamed HKP.out (W.heap.size + 1) s hnl hnc
       have HBw2 : Hid (Bl w W2) := HBw
       clear HCN hkl hko hKC HBw
       have hl2 := HKP.out.v.l2
       have hl1 := HKP.out.v.l1
       have CI2 : Hid (Calls Try.prog 27 #[.slice aa' g'.2.length ac', .func (.func 28) #[] #[.pointer (some ⟨W.heap.size + 1, 0, none⟩)]] W2 fun e w' => e = .returned (.int .i64 (p : Int)) ∧ Bl W2 w') := by
         rw [hp] at CI; exact CI
       have hp2 : p < g'.2.length := (List.findIdx?_eq_some_iff_getElem.1 hp).1
       have HL : Hid (ndL g s = srt (nin (TR.nm g') (TR.ndAt st.needs p) (TR.nm g').length)) := by
         show _ = _
         rw [← HKR.out]; unfold ndK; rw [hp]
       have HCP : Hid (∀ U, Bl W2 U → U.cell? ⟨kb, 5 + p, none⟩ = some (su (TR.ndAt st.needs p)) ∧ kb < U.heap.size) := fun U hU => ⟨(HKP.out.step hU).cn (by omega), (HKP.out.step hU).lt⟩
       have CNI : Hid (∀ U, Bl W2 U → Calls Try.prog 29 #[.pointer (some ⟨kb, 0, none⟩), su (TR.ndAt st.needs p)] U fun e w' => ∃ v, e = .returned v ∧ w'.ownsRow W.heap.size 9 1 v (nin (TR.nm g') (TR.ndAt st.needs p) (TR.nm g').length).length ((nin (TR.nm g') (TR.ndAt st.needs p) (TR.nm g').length).map encS) ∧ Bl W2 w') := fun U hU => by
         refine (namesIn_x (HKP.out.step hU) _ (HKP.out.v.ndl p)).mono ?_
         rintro e w' ⟨v, rfl, h1, h2⟩
         exact ⟨v, rfl, ownsRow_base h1 (by have := Below.size hU; omega), hU.step h2⟩
       have hnl := nin_le (TR.nm g') (TR.ndAt st.needs p) (TR.nm g').length
       have hnm : (TR.nm g').length ≤ 20 := HKP.out.v.nmle
       have HBW2 : Hid (Bl W W2) := HBW
       have CSO : Hid (∀ U v, U.ownsRow W.heap.size 9 1 v (nin (TR.nm g') (TR.ndAt st.needs p) (TR.nm g').length).length ((nin (TR.nm g') (TR.ndAt st.needs p) (TR.nm g').length).map encS) → Bl W2 U → Calls Try.prog 30 #[v] U fun e w' => e = .returned (.tuple #[]) ∧ w'.ownsRow W.heap.size 9 1 v (ndL g s).length ((ndL g s).map encS) ∧ Bl W w') := fun U v ho hU => by
         rw [HL.out]
         exact Sort_x _ v ho (Nat.le_refl _) (HBW2.out.step hU) (by omega)
       have HFW : Hid (∀ U, Bl W U → Bl w U) := fun U hU => HB0.out.step hU
       clear CI hp HKR HPL HL hnl HBW HBW2 HKP
       generalize TR.ndAt st.needs p = nd at *
       generalize nin (TR.nm g') nd (TR.nm g').length = NL at *)
    | (go_at_call 27; refine CI2.out.mono ?_; clear CI2; rintro e w3 ⟨rfl, HB3⟩; obtain ⟨hcp, hlt3⟩ := HCP.out _ HB3)
    | (go_at_call 29; refine (CNI.out _ HB3).mono ?_; clear CNI; rintro e w4 ⟨v4, rfl, ho4, hb4⟩; have HO4 : Hid _ := ho4; have HB4 : Hid _ := hb4; clear ho4 hb4)
    | (go_at_call 30; refine (CSO.out _ _ HO4.out HB4.out).mono ?_; clear CSO; rintro e w5 ⟨rfl, ho5, hb5⟩; have HO5 : Hid _ := ho5; have HB5 : Hid _ := hb5; clear ho5 hb5))
  go_ret
  exact ⟨_, rfl, HO5.out, HFW.out _ HB5.out⟩
theorem Needs_x (g : RC.Gr) (sa : Option Addr) (sc : Nat) (aa : Option Addr) (ac : Nat) (s : List UInt8) {w W : World} (HB : Bl w W) (hg : GA W.heap.size W g sa sc aa ac) (hk : grOk g) :
    Calls Try.prog 17 #[.agg (gv g sa sc aa ac), .string (M.bs s)] W fun e w' => ∃ v, e = .returned v ∧ w'.ownsRow W.heap.size 9 1 v (ndL g s).length ((ndL g s).map encS) ∧ Bl w w' := by
  by_cases h0 : TR.chk g = 0
  · cases hp : plc g s with
    | none => exact Needs_none g sa sc aa ac s HB hg hk (fun g' st h => by
        rcases h with ⟨_, rfl, _⟩ | ⟨h, _⟩
        · exact hp
        · exact absurd h0 h)
    | some p => exact Needs_some g sa sc aa ac s HB hg hk p (fun g' st h => by
        rcases h with ⟨_, rfl, _⟩ | ⟨h, _⟩
        · exact hp
        · exact absurd h0 h)
  · exact Needs_none g sa sc aa ac s HB hg hk (fun g' st h => by
      rcases h with ⟨h, _⟩ | ⟨_, rfl, _⟩
      · exact absurd (TR.chk_zero.2 h) h0
      · rfl)
end Go.Proofs.Ythpdmeoljdmncaa
