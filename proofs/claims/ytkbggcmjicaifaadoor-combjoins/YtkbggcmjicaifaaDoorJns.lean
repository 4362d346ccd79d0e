/- The walk of the law CombJoins. -/
import Derived.Test.YtkbggcmjicaifaaDoorJ2
import Derived.Test.YtkbggcmjicaifaaDoorJ3
import Derived.Test.YtkbggcmjicaifaaDoorC6
namespace Go.Proofs.YtkbggcmjicaifaaDoor
open Go.RowKit
set_option linter.unusedVariables false
set_option linter.unusedSimpArgs false

set_option maxRecDepth 8000 in
set_option maxHeartbeats 1000000 in
theorem combJoins_great (wh : List UInt8) (sz : Int) (pa : Option Addr) (n pc : Nat) (a : Option Addr) (m c : Nat) (at_ : Int) (w : World) (hw : wh.length = 32) (hG : GW w)
    (CG : Hid (∀ W, GB (w.alloc (.cells (mv wh sz pa n pc) 34)) W → Calls Tryd.prog 21 #[.agg (mv wh sz pa n pc), .slice a m c] W fun e w' => e = .returned (.bool true) ∧ Below W.heap.size W w')) :
    Calls Tryd.prog 5 #[.agg (mv wh sz pa n pc), .slice a m c, .int .i64 at_] w fun e w' => e = .returned (.bool true) ∧ Below w.heap.size w w' := by
  have hsz := mv_size wh sz pa n pc hw
  obtain ⟨fs, hum⟩ := und27m
  generalize mv wh sz pa n pc = C at *
  have HB : Hid (Below w.heap.size w (w.alloc (.cells C 34))) := (Below.refl _ w).alloc (Nat.le_refl _) _
  have HG : GB (w.alloc (.cells C 34)) (w.alloc (.cells C 34)) := GB.refl (hG.below HB.out hG.z)
  have HN : Hid (∀ W, GB (w.alloc (.cells C 34)) W → W.heap[w.heap.size]? = some (.cells C 34 (0, 0))) := fun W g => by rw [g.b.block _ (by simp)]; exact heap_alloc_new _ _
  have H1 : Hid (w.heap.size ≤ (w.alloc (.cells C 34)).heap.size) := by show _ ≤ _; simp
  clear hG
  go_enter Tryd.func5, Tryd.ntmps5
  go_wp2_with (first
    | (go_at_call 14; refine (awake3_g HG).mono ?_; clear HG; rintro e w0 ⟨rfl, HG⟩; have hN := HN.out _ HG)
    | (refine wpList_load_row rfl 34 _ rfl w.heap.size rfl 34 C (0, 0) _ hN hum rfl (by rw [hsz]; exact info27m) ?_; clear hN)
    | (go_at_call 21; refine (CG.out _ HG).mono ?_; clear CG; rintro e w2 ⟨rfl, HB2⟩; have HG2 := HG.step HB2; clear HG HB2))
  go_ret
  exact ⟨rfl, HB.out.trans (HG2.b.mono H1.out)⟩

set_option maxRecDepth 8000 in
set_option maxHeartbeats 4000000 in
theorem combJoins_go (wh : List UInt8) (sz : Int) (P : List (List UInt8)) (pa : Option Addr) (pc : Nat) (L : List (List UInt8)) (a : Option Addr) (c : Nat) (at_ : Int) (w : World) (hw : wh.length = 32) (hG : GW w)
    (hP : Dgs w.heap.size w pa P) (hT : TX w a L) (hPn : P.length ≤ 40) (hLn : L.length ≤ 40) (hlen : ∀ t ∈ L, t.length ≤ 1000) (X : List UInt8) (E : Int)
    (CJ0 : Hid (∀ W, GW W → Dgs W.heap.size W pa P → TX W a L → Calls Tryd.prog 22 #[.agg (mv wh sz pa P.length pc), .slice a L.length c] W fun e w' => e = .returned (.tuple #[.string (M.bs X), .int .i64 E]) ∧ Below W.heap.size W w'))
    (CR0 : Hid (∀ W, Dgs W.heap.size W pa P → TX W a L → Calls Tryd.prog 23 #[.agg (mv wh sz pa P.length pc), .slice a L.length c] W fun e w' => e = .returned (.tuple #[.string (M.bs X), .int .i64 E]) ∧ Below W.heap.size W w')) :
    Calls Tryd.prog 5 #[.agg (mv wh sz pa P.length pc), .slice a L.length c, .int .i64 at_] w fun e w' => e = .returned (.bool true) ∧ Below w.heap.size w w' := by
  have hsz := mv_size wh sz pa P.length pc hw
  obtain ⟨fs, hum⟩ := und27m
  obtain ⟨C, hC⟩ : ∃ C, C = mv wh sz pa P.length pc := ⟨_, rfl⟩
  have HB : Hid (Below w.heap.size w (w.alloc (.cells C 34))) := (Below.refl _ w).alloc (Nat.le_refl _) _
  have HG : GB (w.alloc (.cells C 34)) (w.alloc (.cells C 34)) := GB.refl (hG.below HB.out hG.z)
  have HN : Hid (∀ W, GB (w.alloc (.cells C 34)) W → W.heap[w.heap.size]? = some (.cells C 34 (0, 0))) := fun W g => by rw [g.b.block _ (by simp)]; exact heap_alloc_new _ _
  have H1 : Hid (w.heap.size ≤ (w.alloc (.cells C 34)).heap.size) := by show _ ≤ _; simp
  have hD : ∀ W, GB (w.alloc (.cells C 34)) W → Dgs W.heap.size W pa P := fun W g => (hP.below HB.out H1.out).below g.b g.b.size
  have hX : ∀ W, GB (w.alloc (.cells C 34)) W → TX W a L := fun W g => (hT.below HB.out (Nat.le_refl _)).below g.b (Nat.le_refl _)
  have HTX : Hid (∀ W, GB (w.alloc (.cells C 34)) W → TX W a L) := hX
  have CJ : Hid (∀ W, GB (w.alloc (.cells C 34)) W → Calls Tryd.prog 22 #[.agg C, .slice a L.length c] W fun e w' => e = .returned (.tuple #[.string (M.bs X), .int .i64 E]) ∧ GB (w.alloc (.cells C 34)) w') := fun W g => by
    rw [hC]; refine (CJ0.out W g.g (hD W g) (hX W g)).mono ?_
    rintro e w' ⟨rfl, hb⟩
    exact ⟨rfl, by rw [← hC]; exact g.step hb⟩
  have CR : Hid (∀ W, GB (w.alloc (.cells C 34)) W → Calls Tryd.prog 23 #[.agg C, .slice a L.length c] W fun e w' => e = .returned (.tuple #[.string (M.bs X), .int .i64 E]) ∧ GB (w.alloc (.cells C 34)) w') := fun W g => by
    rw [hC]; refine (CR0.out W (hD W g) (hX W g)).mono ?_
    rintro e w' ⟨rfl, hb⟩
    exact ⟨rfl, by rw [← hC]; exact g.step hb⟩
  obtain ⟨b0, hb0⟩ : ∃ b0, b0 = goodB sz P.length := ⟨_, rfl⟩
  have CG : Hid (∀ W, GB (w.alloc (.cells C 34)) W → Calls Tryd.prog 24 #[.agg C] W fun e w' => e = .returned (.bool b0) ∧ GB (w.alloc (.cells C 34)) w') := fun W g => by
    rw [hC, hb0]; refine (Good_at wh sz pa P.length pc W hw).mono ?_
    rintro e w' ⟨rfl, hb⟩
    exact ⟨rfl, by rw [← hC]; exact g.step hb⟩
  have CH : Hid (∀ W, GB (w.alloc (.cells C 34)) W → Calls Tryd.prog 25 #[.agg C] W fun e w' => e = .returned (.bool b0) ∧ GB (w.alloc (.cells C 34)) w') := fun W g => by
    rw [hC, hb0]; refine (rGood_at wh sz pa P.length pc W hw).mono ?_
    rintro e w' ⟨rfl, hb⟩
    exact ⟨rfl, by rw [← hC]; exact g.step hb⟩
  have CF : Hid (∀ t ∈ L, ∀ i, ∃ B, (∀ W, GB (w.alloc (.cells C 34)) W → Calls Tryd.prog 26 #[.agg C, .int .i64 i, .string (M.bs t)] W fun e w' => e = .returned (.bool B) ∧ GB (w.alloc (.cells C 34)) w') ∧
      (∀ W, GB (w.alloc (.cells C 34)) W → Calls Tryd.prog 27 #[.agg C, .int .i64 i, .string (M.bs t)] W fun e w' => e = .returned (.bool B) ∧ GB (w.alloc (.cells C 34)) w')) := fun t ht i => by
    have hl := hlen t ht
    refine ⟨fitsB sz P i t, fun W g => ?_, fun W g => ?_⟩
    · rw [hC]; refine (Fits_at wh sz P pa pc i t W hw g.g (hD W g) (by omega)).mono ?_
      rintro e w' ⟨rfl, hb⟩
      exact ⟨rfl, by rw [← hC]; exact g.step hb⟩
    · rw [hC]; refine (rFits_at wh sz P pa pc i t W hw (hD W g) (by omega)).mono ?_
      rintro e w' ⟨rfl, hb⟩
      exact ⟨rfl, by rw [← hC]; exact g.step hb⟩
  have CT : Hid (∀ W, GB (w.alloc (.cells C 34)) W → Calls Tryd.prog 21 #[.agg C, .slice a L.length c] W fun e w' => e = .returned (.bool false) ∧ GB (w.alloc (.cells C 34)) w') := fun W g => by
    rw [hC]; refine (great_loop wh sz pa P.length pc L a c W hw hPn hLn (hX W g) L.length (Nat.le_refl _) (fun i u hi hu => hlen u (List.mem_of_getElem? hu)) (fun u hu => by simp at hu) false (by show _ = _; simp)).mono ?_
    rintro e w' ⟨rfl, hb⟩
    exact ⟨rfl, by rw [← hC]; exact g.step hb⟩
  rw [← hC]
  rw [← hC] at hsz
  clear hC hD hX CJ0 CR0 hP hT hG hb0 hlen hPn
  obtain ⟨CL, rfl⟩ : ∃ CL : List Value, C = CL.toArray := ⟨C.toList, by simp⟩
  have HCL : Hid (∀ W, GB (w.alloc (.cells CL.toArray 34)) W → W.rangeAt w.heap.size 0 CL) := fun W g j v hv => by
    rw [Nat.zero_add, cell_of_row _ _ j _ _ _ (HN.out W g)]; simpa using hv
  have hi34 : (Tryd.prog.info? 34).map (·.size) = some CL.length := by rw [info27m]; simpa using hsz.symm
  obtain ⟨XB, hXB⟩ : ∃ XB, XB = M.bs X := ⟨_, rfl⟩
  rw [← hXB] at CJ CR
  clear hXB
  have x5 : (XB == XB) = true := by show (XB.data == XB.data) = true; simp
  have x1 : (XB != XB) = false := by show (!(XB == XB)) = false; rw [x5]; rfl
  have x2 : (E != E) = false := by simp
  have x3 : (b0 != b0) = false := by simp
  have x4 : (XB.toList != XB.toList) = false := by simp
  go_enter Tryd.func5, Tryd.ntmps5
  go_wp2_with (first
    | (go_at_call 14; refine (awake3_g HG).mono ?_; clear HG; rintro e w0 ⟨rfl, HG⟩; have hN := HN.out _ HG)
    | (refine wpList_load_row rfl 34 _ rfl w.heap.size rfl 34 CL.toArray (0, 0) _ hN hum rfl (by rw [hsz]; exact info27m) ?_; clear hN)
    | (go_at_call 21; refine (CT.out _ HG).mono ?_; clear CT HG; rintro e w2 ⟨rfl, HG⟩; have hN := HN.out _ HG)
    | (go_at_call 22; refine (CJ.out _ HG).mono ?_; clear CJ HG; rintro e w3 ⟨rfl, HG⟩; have hN := HN.out _ HG)
    | (go_at_call 23; refine (CR.out _ HG).mono ?_; clear CR HG; rintro e w4 ⟨rfl, HG5⟩))
  obtain ⟨q, hq⟩ : ∃ q, q = w.heap.size := ⟨_, rfl⟩
  rw [← hq]
  rw [← hq] at HCL HN
  clear hq hsz
  refine wp_region_noPanic ?_
  refine wp_region_held_drew (S := (fun W => W.rangeAt q 0 CL)) (by kernel_rfl) (HCL.out _ (HG5.drewN 1)) (fun hHeld => ?_)
  refine wpAnyH_take (i := 0) rfl (by kernel_rfl) (by kernel_rfl) (by kernel_rfl) (fun _ _ _ h => h) (yi_move (by kernel_rfl) rfl rfl) (by assumption) ?_
  simp only [Act.put, List.getElem_toArray, List.getElem_cons_succ, List.getElem_cons_zero, List.setIfInBounds_toArray, List.set_cons_zero, List.set_cons_succ]
  refine wpAnyH_take (i := 1) rfl (by kernel_rfl) (by kernel_rfl) (by kernel_rfl) (fun _ _ _ h => h) (yi_move (by kernel_rfl) rfl rfl) (by assumption) ?_
  simp only [Act.put, List.getElem_toArray, List.getElem_cons_succ, List.getElem_cons_zero, List.setIfInBounds_toArray, List.set_cons_zero, List.set_cons_succ]
  refine wpAnyH_take (i := 2) (v := ?_) rfl (by kernel_rfl) (by kernel_rfl) (by kernel_rfl) (fun _ _ _ h => h) (Or.inl ⟨by kernel_rfl, ?_⟩) (by assumption) ?_
  rotate_left
  · (intro w hSw; (try dsimp only at hSw); go_simp; (try with_reducible rfl))
  simp only [Act.put, List.getElem_toArray, List.getElem_cons_succ, List.getElem_cons_zero, List.setIfInBounds_toArray, List.set_cons_zero, List.set_cons_succ]
  refine wpAnyH_take (i := 3) rfl (by kernel_rfl) (by kernel_rfl) (by kernel_rfl) (fun _ _ _ h => h) (yi_move (by kernel_rfl) rfl rfl) (by assumption) ?_
  simp only [Act.put, List.getElem_toArray, List.getElem_cons_succ, List.getElem_cons_zero, List.setIfInBounds_toArray, List.set_cons_zero, List.set_cons_succ]
  refine wpAnyH_take (i := 4) rfl (by kernel_rfl) (by kernel_rfl) (by kernel_rfl) (fun _ _ _ h => h) (yi_move (by kernel_rfl) rfl rfl) (by assumption) ?_
  simp only [Act.put, List.getElem_toArray, List.getElem_cons_succ, List.getElem_cons_zero, List.setIfInBounds_toArray, List.set_cons_zero, List.set_cons_succ]
  refine wpAnyH_take (i := 5) rfl (by kernel_rfl) (by kernel_rfl) (by kernel_rfl) (fun _ _ _ h => h) (yi_move (by kernel_rfl) rfl rfl) (by assumption) ?_
  simp only [Act.put, List.getElem_toArray, List.getElem_cons_succ, List.getElem_cons_zero, List.setIfInBounds_toArray, List.set_cons_zero, List.set_cons_succ]
  refine wpAnyH_take (i := 6) (v := ?_) rfl (by kernel_rfl) (by kernel_rfl) (by kernel_rfl) (fun _ _ _ h => h) (Or.inl ⟨by kernel_rfl, ?_⟩) (by assumption) ?_
  rotate_left
  · (intro w hSw; (try dsimp only at hSw); go_simp; (try with_reducible rfl))
  simp only [Act.put, List.getElem_toArray, List.getElem_cons_succ, List.getElem_cons_zero, List.setIfInBounds_toArray, List.set_cons_zero, List.set_cons_succ]
  refine wpAnyH_take (i := 7) (v := ?_) rfl (by kernel_rfl) (by kernel_rfl) (by kernel_rfl) (fun _ _ _ h => h) (Or.inl ⟨by kernel_rfl, ?_⟩) (by assumption) ?_
  rotate_left
  · (intro w hSw; (try dsimp only at hSw); go_simp; (try with_reducible rfl))
  simp only [Act.put, List.getElem_toArray, List.getElem_cons_succ, List.getElem_cons_zero, List.setIfInBounds_toArray, List.set_cons_zero, List.set_cons_succ]
  refine wpAnyH_take (i := 8) rfl (by kernel_rfl) (by kernel_rfl) (by kernel_rfl) (fun _ _ _ h => h) (yi_move (by kernel_rfl) rfl rfl) (by assumption) ?_
  simp only [Act.put, List.getElem_toArray, List.getElem_cons_succ, List.getElem_cons_zero, List.setIfInBounds_toArray, List.set_cons_zero, List.set_cons_succ]
  refine wpAnyH_take (i := 9) (v := .agg (List.toArray CL)) rfl (by kernel_rfl) (by kernel_rfl) (by kernel_rfl) (fun _ _ _ h => h) (yieldsIf_load_mid (by kernel_rfl) _ (.tmp 3) (by kernel_rfl) q 0 (by kernel_rfl) CL _ (fun W hW => hW) hum rfl hi34) (by assumption) ?_
  simp only [Act.put, List.getElem_toArray, List.getElem_cons_succ, List.getElem_cons_zero, List.setIfInBounds_toArray, List.set_cons_zero, List.set_cons_succ]
  refine wpAnyH_take (i := 11) (v := .agg (List.toArray CL)) rfl (by kernel_rfl) (by kernel_rfl) (by kernel_rfl) (fun _ _ _ h => h) (yieldsIf_load_mid (by kernel_rfl) _ (.tmp 3) (by kernel_rfl) q 0 (by kernel_rfl) CL _ (fun W hW => hW) hum rfl hi34) (by assumption) ?_
  simp only [Act.put, List.getElem_toArray, List.getElem_cons_succ, List.getElem_cons_zero, List.setIfInBounds_toArray, List.set_cons_zero, List.set_cons_succ]
  refine wpAnyH_ready (rs := [10]) (by kernel_rfl) (by simp) ?_
  refine AllReadyH.cons (o := _) rfl (fun K hK => ?_) AllReadyH.nil
  go_simp
  (refine (CG.out _ (HG5.drewN 1)).mono ?_; clear CG; rintro e w12 ⟨rfl, HB12⟩; dsimp only)
  refine hK.out _ _ (HCL.out _ HB12) (fun hHeld => ?_)
  clear hK K
  (try simp only [Act.put, List.getElem_toArray, List.getElem_cons_succ, List.getElem_cons_zero, List.setIfInBounds_toArray, List.set_cons_zero, List.set_cons_succ])
  refine wpAnyH_ready (rs := [12]) (by kernel_rfl) (by simp) ?_
  refine AllReadyH.cons (o := _) rfl (fun K hK => ?_) AllReadyH.nil
  go_simp
  (refine (CH.out _ HB12).mono ?_; clear CH; rintro e w13 ⟨rfl, HB13⟩; dsimp only)
  refine hK.out _ _ (HCL.out _ HB13) (fun hHeld => ?_)
  clear hK K
  (try simp only [Act.put, List.getElem_toArray, List.getElem_cons_succ, List.getElem_cons_zero, List.setIfInBounds_toArray, List.set_cons_zero, List.set_cons_succ])
  refine wpAnyH_take (i := 13) (v := ?_) rfl (by kernel_rfl) (by kernel_rfl) (by kernel_rfl) (fun _ _ _ h => h) (Or.inl ⟨by kernel_rfl, ?_⟩) (by assumption) ?_
  rotate_left
  · (intro w hSw; (try dsimp only at hSw); go_simp; (try with_reducible rfl))
  simp only [Act.put, List.getElem_toArray, List.getElem_cons_succ, List.getElem_cons_zero, List.setIfInBounds_toArray, List.set_cons_zero, List.set_cons_succ]
  refine wpAnyH_take (i := 14) (v := ?_) rfl (by kernel_rfl) (by kernel_rfl) (by kernel_rfl) (fun _ _ _ h => h) (Or.inl ⟨by kernel_rfl, ?_⟩) (by assumption) ?_
  rotate_left
  · (intro w hSw; (try dsimp only at hSw); go_simp; (try with_reducible rfl))
  simp only [Act.put, List.getElem_toArray, List.getElem_cons_succ, List.getElem_cons_zero, List.setIfInBounds_toArray, List.set_cons_zero, List.set_cons_succ]
  refine wpAnyH_done (by kernel_rfl) ?_ _
  refine NoPanic.normal ?_
  go_wp2_with fail
  have HG7 := HB13
  clear HB13 x1 x2 x3 x4 x5 HN
  go_loopw [11] (fun u11 wr => ∃ k : Nat, k ≤ L.length ∧ u11 = .int .i64 k ∧ GB (w.alloc (.cells CL.toArray 34)) wr) (fun u11 _ => L.length - (intOf u11).toNat)
  case atStart => exact ⟨0, Nat.zero_le _, rfl, HG7⟩
  case round =>
    obtain ⟨k, hk, rfl, hge⟩ := hrel
    have HGE : Hid (GB (w.alloc (.cells CL.toArray 34)) wr) := hge
    clear hge
    by_cases hlt : k < L.length
    · obtain ⟨t, ht⟩ : ∃ t, L[k]? = some t := ⟨L[k], List.getElem?_eq_getElem hlt⟩
      obtain ⟨sb, off, rfl, hsb, hcell⟩ := HTX.out wr HGE.out k t ht
      have HKP : Hid (∀ W, GB (w.alloc (.cells CL.toArray 34)) W → W.rangeAt q 0 CL ∧ W.cell? ⟨sb, off + k, none⟩ = some (.string (M.bs t))) := fun W g => ⟨HCL.out W g, by
        obtain ⟨sb2, off2, h1, _, h2⟩ := HTX.out W g k t ht
        simp only [Option.some.injEq, Addr.mk.injEq, and_true] at h1
        obtain ⟨rfl, rfl⟩ := h1
        exact h2⟩
      obtain ⟨B1, ca, cb⟩ := CF.out t (List.mem_of_getElem? ht) (k : Int)
      obtain ⟨B2, cc, cd⟩ := CF.out t (List.mem_of_getElem? ht) at_
      have CA : Hid _ := ca
      have CB : Hid _ := cb
      have CC : Hid _ := cc
      have CD : Hid _ := cd
      have y1 : (B1 != B1) = false := by simp
      have y2 : (B2 != B2) = false := by simp
      have hk0 : (0 : Int) ≤ (k : Int) := by omega
      have hk1 : (k : Int) < (L.length : Int) := by omega
      clear ca cb cc cd CF HTX HCL hcell hsb ht HG7
      go_wp2_with fail
      refine wp_region_noPanic ?_
      refine wp_region_held_drew (S := (fun W => W.rangeAt q 0 CL ∧ W.cell? ⟨sb, off + k, none⟩ = some (.string (M.bs t)))) (by kernel_rfl) (HKP.out _ (HGE.out.drewN 1)) (fun hHeld => ?_)
      refine wpAnyH_take (i := 0) (v := .agg (List.toArray CL)) rfl (by kernel_rfl) (by kernel_rfl) (by kernel_rfl) (fun _ _ _ h => h) (yieldsIf_load_mid (by kernel_rfl) _ (.tmp 3) (by kernel_rfl) q 0 (by kernel_rfl) CL _ (fun W hW => hW.1) hum rfl hi34) (by assumption) ?_
      simp only [Act.put, List.getElem_toArray, List.getElem_cons_succ, List.getElem_cons_zero, List.setIfInBounds_toArray, List.set_cons_zero, List.set_cons_succ]
      refine wpAnyH_take (i := 1) rfl (by kernel_rfl) (by kernel_rfl) (by kernel_rfl) (fun _ _ _ h => h) (yi_move (by kernel_rfl) rfl rfl) (by assumption) ?_
      simp only [Act.put, List.getElem_toArray, List.getElem_cons_succ, List.getElem_cons_zero, List.setIfInBounds_toArray, List.set_cons_zero, List.set_cons_succ]
      refine wpAnyH_take (i := 2) rfl (by kernel_rfl) (by kernel_rfl) (by kernel_rfl) (fun _ _ _ h => h) (yi_move (by kernel_rfl) rfl rfl) (by assumption) ?_
      simp only [Act.put, List.getElem_toArray, List.getElem_cons_succ, List.getElem_cons_zero, List.setIfInBounds_toArray, List.set_cons_zero, List.set_cons_succ]
      refine wpAnyH_take (i := 3) rfl (by kernel_rfl) (by kernel_rfl) (by kernel_rfl) (fun _ _ _ h => h) (yi_move (by kernel_rfl) rfl rfl) (by assumption) ?_
      simp only [Act.put, List.getElem_toArray, List.getElem_cons_succ, List.getElem_cons_zero, List.setIfInBounds_toArray, List.set_cons_zero, List.set_cons_succ]
      refine wpAnyH_take (i := 4) (v := ?_) rfl (by kernel_rfl) (by kernel_rfl) (by kernel_rfl) (fun _ _ _ h => h) (Or.inl ⟨by kernel_rfl, ?_⟩) (by assumption) ?_
      rotate_left
      · (intro w hSw; (try dsimp only at hSw); go_simp; (try with_reducible rfl))
      simp only [Act.put, List.getElem_toArray, List.getElem_cons_succ, List.getElem_cons_zero, List.setIfInBounds_toArray, List.set_cons_zero, List.set_cons_succ]
      refine wpAnyH_take (i := 5) (v := ?_) rfl (by kernel_rfl) (by kernel_rfl) (by kernel_rfl) (fun _ _ _ h => h) (Or.inl ⟨by kernel_rfl, ?_⟩) (by assumption) ?_
      rotate_left
      · (intro w hSw; (try dsimp only at hSw); go_simp; (try with_reducible rfl))
      simp only [Act.put, List.getElem_toArray, List.getElem_cons_succ, List.getElem_cons_zero, List.setIfInBounds_toArray, List.set_cons_zero, List.set_cons_succ]
      refine wpAnyH_take (i := 7) (v := .agg (List.toArray CL)) rfl (by kernel_rfl) (by kernel_rfl) (by kernel_rfl) (fun _ _ _ h => h) (yieldsIf_load_mid (by kernel_rfl) _ (.tmp 3) (by kernel_rfl) q 0 (by kernel_rfl) CL _ (fun W hW => hW.1) hum rfl hi34) (by assumption) ?_
      simp only [Act.put, List.getElem_toArray, List.getElem_cons_succ, List.getElem_cons_zero, List.setIfInBounds_toArray, List.set_cons_zero, List.set_cons_succ]
      refine wpAnyH_take (i := 8) rfl (by kernel_rfl) (by kernel_rfl) (by kernel_rfl) (fun _ _ _ h => h) (yi_move (by kernel_rfl) rfl rfl) (by assumption) ?_
      simp only [Act.put, List.getElem_toArray, List.getElem_cons_succ, List.getElem_cons_zero, List.setIfInBounds_toArray, List.set_cons_zero, List.set_cons_succ]
      refine wpAnyH_take (i := 9) rfl (by kernel_rfl) (by kernel_rfl) (by kernel_rfl) (fun _ _ _ h => h) (yi_move (by kernel_rfl) rfl rfl) (by assumption) ?_
      simp only [Act.put, List.getElem_toArray, List.getElem_cons_succ, List.getElem_cons_zero, List.setIfInBounds_toArray, List.set_cons_zero, List.set_cons_succ]
      refine wpAnyH_take (i := 10) rfl (by kernel_rfl) (by kernel_rfl) (by kernel_rfl) (fun _ _ _ h => h) (yi_move (by kernel_rfl) rfl rfl) (by assumption) ?_
      simp only [Act.put, List.getElem_toArray, List.getElem_cons_succ, List.getElem_cons_zero, List.setIfInBounds_toArray, List.set_cons_zero, List.set_cons_succ]
      refine wpAnyH_take (i := 11) (v := ?_) rfl (by kernel_rfl) (by kernel_rfl) (by kernel_rfl) (fun _ _ _ h => h) (Or.inl ⟨by kernel_rfl, ?_⟩) (by assumption) ?_
      rotate_left
      · (intro w hSw; (try dsimp only at hSw); go_simp; (try with_reducible rfl))
      simp only [Act.put, List.getElem_toArray, List.getElem_cons_succ, List.getElem_cons_zero, List.setIfInBounds_toArray, List.set_cons_zero, List.set_cons_succ]
      refine wpAnyH_take (i := 12) (v := ?_) rfl (by kernel_rfl) (by kernel_rfl) (by kernel_rfl) (fun _ _ _ h => h) (Or.inl ⟨by kernel_rfl, ?_⟩) (by assumption) ?_
      rotate_left
      · (intro w hSw; (try dsimp only at hSw); go_simp; (try with_reducible rfl))
      simp only [Act.put, List.getElem_toArray, List.getElem_cons_succ, List.getElem_cons_zero, List.setIfInBounds_toArray, List.set_cons_zero, List.set_cons_succ]
      refine wpAnyH_ready (rs := [6]) (by kernel_rfl) (by simp) ?_
      refine AllReadyH.cons (o := _) rfl (fun K hK => ?_) AllReadyH.nil
      go_simp
      (refine (CA.out _ (HGE.out.drewN 1)).mono ?_; clear CA; rintro e w13 ⟨rfl, HB13⟩; dsimp only)
      refine hK.out _ _ (HKP.out _ HB13) (fun hHeld => ?_)
      clear hK K
      (try simp only [Act.put, List.getElem_toArray, List.getElem_cons_succ, List.getElem_cons_zero, List.setIfInBounds_toArray, List.set_cons_zero, List.set_cons_succ])
      refine wpAnyH_ready (rs := [13]) (by kernel_rfl) (by simp) ?_
      refine AllReadyH.cons (o := _) rfl (fun K hK => ?_) AllReadyH.nil
      go_simp
      (refine (CB.out _ HB13).mono ?_; clear CB; rintro e w14 ⟨rfl, HB14⟩; dsimp only)
      refine hK.out _ _ (HKP.out _ HB14) (fun hHeld => ?_)
      clear hK K
      (try simp only [Act.put, List.getElem_toArray, List.getElem_cons_succ, List.getElem_cons_zero, List.setIfInBounds_toArray, List.set_cons_zero, List.set_cons_succ])
      refine wpAnyH_take (i := 14) (v := ?_) rfl (by kernel_rfl) (by kernel_rfl) (by kernel_rfl) (fun _ _ _ h => h) (Or.inl ⟨by kernel_rfl, ?_⟩) (by assumption) ?_
      rotate_left
      · (intro w hSw; (try dsimp only at hSw); go_simp; (try with_reducible rfl))
      simp only [Act.put, List.getElem_toArray, List.getElem_cons_succ, List.getElem_cons_zero, List.setIfInBounds_toArray, List.set_cons_zero, List.set_cons_succ]
      refine wpAnyH_take (i := 15) rfl (by kernel_rfl) (by kernel_rfl) (by kernel_rfl) (fun _ _ _ h => h) (yi_move (by kernel_rfl) rfl rfl) (by assumption) ?_
      simp only [Act.put, List.getElem_toArray, List.getElem_cons_succ, List.getElem_cons_zero, List.setIfInBounds_toArray, List.set_cons_zero, List.set_cons_succ]
      refine wpAnyH_take (i := 16) (v := .agg (List.toArray CL)) rfl (by kernel_rfl) (by kernel_rfl) (by kernel_rfl) (fun _ _ _ h => h) (yieldsIf_load_mid (by kernel_rfl) _ (.tmp 3) (by kernel_rfl) q 0 (by kernel_rfl) CL _ (fun W hW => hW.1) hum rfl hi34) (by assumption) ?_
      simp only [Act.put, List.getElem_toArray, List.getElem_cons_succ, List.getElem_cons_zero, List.setIfInBounds_toArray, List.set_cons_zero, List.set_cons_succ]
      refine wpAnyH_take (i := 17) rfl (by kernel_rfl) (by kernel_rfl) (by kernel_rfl) (fun _ _ _ h => h) (yi_move (by kernel_rfl) rfl rfl) (by assumption) ?_
      simp only [Act.put, List.getElem_toArray, List.getElem_cons_succ, List.getElem_cons_zero, List.setIfInBounds_toArray, List.set_cons_zero, List.set_cons_succ]
      refine wpAnyH_take (i := 18) rfl (by kernel_rfl) (by kernel_rfl) (by kernel_rfl) (fun _ _ _ h => h) (yi_move (by kernel_rfl) rfl rfl) (by assumption) ?_
      simp only [Act.put, List.getElem_toArray, List.getElem_cons_succ, List.getElem_cons_zero, List.setIfInBounds_toArray, List.set_cons_zero, List.set_cons_succ]
      refine wpAnyH_take (i := 19) rfl (by kernel_rfl) (by kernel_rfl) (by kernel_rfl) (fun _ _ _ h => h) (yi_move (by kernel_rfl) rfl rfl) (by assumption) ?_
      simp only [Act.put, List.getElem_toArray, List.getElem_cons_succ, List.getElem_cons_zero, List.setIfInBounds_toArray, List.set_cons_zero, List.set_cons_succ]
      refine wpAnyH_take (i := 20) (v := ?_) rfl (by kernel_rfl) (by kernel_rfl) (by kernel_rfl) (fun _ _ _ h => h) (Or.inl ⟨by kernel_rfl, ?_⟩) (by assumption) ?_
      rotate_left
      · (intro w hSw; (try dsimp only at hSw); go_simp; (try with_reducible rfl))
      simp only [Act.put, List.getElem_toArray, List.getElem_cons_succ, List.getElem_cons_zero, List.setIfInBounds_toArray, List.set_cons_zero, List.set_cons_succ]
      refine wpAnyH_take (i := 21) (v := ?_) rfl (by kernel_rfl) (by kernel_rfl) (by kernel_rfl) (fun _ _ _ h => h) (Or.inl ⟨by kernel_rfl, ?_⟩) (by assumption) ?_
      rotate_left
      · (intro w hSw; (try dsimp only at hSw); go_simp; (try with_reducible rfl))
      simp only [Act.put, List.getElem_toArray, List.getElem_cons_succ, List.getElem_cons_zero, List.setIfInBounds_toArray, List.set_cons_zero, List.set_cons_succ]
      refine wpAnyH_take (i := 23) (v := .agg (List.toArray CL)) rfl (by kernel_rfl) (by kernel_rfl) (by kernel_rfl) (fun _ _ _ h => h) (yieldsIf_load_mid (by kernel_rfl) _ (.tmp 3) (by kernel_rfl) q 0 (by kernel_rfl) CL _ (fun W hW => hW.1) hum rfl hi34) (by assumption) ?_
      simp only [Act.put, List.getElem_toArray, List.getElem_cons_succ, List.getElem_cons_zero, List.setIfInBounds_toArray, List.set_cons_zero, List.set_cons_succ]
      refine wpAnyH_take (i := 24) rfl (by kernel_rfl) (by kernel_rfl) (by kernel_rfl) (fun _ _ _ h => h) (yi_move (by kernel_rfl) rfl rfl) (by assumption) ?_
      simp only [Act.put, List.getElem_toArray, List.getElem_cons_succ, List.getElem_cons_zero, List.setIfInBounds_toArray, List.set_cons_zero, List.set_cons_succ]
      refine wpAnyH_take (i := 25) rfl (by kernel_rfl) (by kernel_rfl) (by kernel_rfl) (fun _ _ _ h => h) (yi_move (by kernel_rfl) rfl rfl) (by assumption) ?_
      simp only [Act.put, List.getElem_toArray, List.getElem_cons_succ, List.getElem_cons_zero, List.setIfInBounds_toArray, List.set_cons_zero, List.set_cons_succ]
      refine wpAnyH_take (i := 26) rfl (by kernel_rfl) (by kernel_rfl) (by kernel_rfl) (fun _ _ _ h => h) (yi_move (by kernel_rfl) rfl rfl) (by assumption) ?_
      simp only [Act.put, List.getElem_toArray, List.getElem_cons_succ, List.getElem_cons_zero, List.setIfInBounds_toArray, List.set_cons_zero, List.set_cons_succ]
      refine wpAnyH_take (i := 27) (v := ?_) rfl (by kernel_rfl) (by kernel_rfl) (by kernel_rfl) (fun _ _ _ h => h) (Or.inl ⟨by kernel_rfl, ?_⟩) (by assumption) ?_
      rotate_left
      · (intro w hSw; (try dsimp only at hSw); go_simp; (try with_reducible rfl))
      simp only [Act.put, List.getElem_toArray, List.getElem_cons_succ, List.getElem_cons_zero, List.setIfInBounds_toArray, List.set_cons_zero, List.set_cons_succ]
      refine wpAnyH_take (i := 28) (v := ?_) rfl (by kernel_rfl) (by kernel_rfl) (by kernel_rfl) (fun _ _ _ h => h) (Or.inl ⟨by kernel_rfl, ?_⟩) (by assumption) ?_
      rotate_left
      · (intro w hSw; (try dsimp only at hSw); go_simp; (try with_reducible rfl))
      simp only [Act.put, List.getElem_toArray, List.getElem_cons_succ, List.getElem_cons_zero, List.setIfInBounds_toArray, List.set_cons_zero, List.set_cons_succ]
      refine wpAnyH_ready (rs := [22]) (by kernel_rfl) (by simp) ?_
      refine AllReadyH.cons (o := _) rfl (fun K hK => ?_) AllReadyH.nil
      go_simp
      (refine (CC.out _ HB14).mono ?_; clear CC; rintro e w29 ⟨rfl, HB29⟩; dsimp only)
      refine hK.out _ _ (HKP.out _ HB29) (fun hHeld => ?_)
      clear hK K
      (try simp only [Act.put, List.getElem_toArray, List.getElem_cons_succ, List.getElem_cons_zero, List.setIfInBounds_toArray, List.set_cons_zero, List.set_cons_succ])
      refine wpAnyH_ready (rs := [29]) (by kernel_rfl) (by simp) ?_
      refine AllReadyH.cons (o := _) rfl (fun K hK => ?_) AllReadyH.nil
      go_simp
      (refine (CD.out _ HB29).mono ?_; clear CD; rintro e w30 ⟨rfl, HB30⟩; dsimp only)
      refine hK.out _ _ (HKP.out _ HB30) (fun hHeld => ?_)
      clear hK K
      (try simp only [Act.put, List.getElem_toArray, List.getElem_cons_succ, List.getElem_cons_zero, List.setIfInBounds_toArray, List.set_cons_zero, List.set_cons_succ])
      refine wpAnyH_take (i := 30) (v := ?_) rfl (by kernel_rfl) (by kernel_rfl) (by kernel_rfl) (fun _ _ _ h => h) (Or.inl ⟨by kernel_rfl, ?_⟩) (by assumption) ?_
      rotate_left
      · (intro w hSw; (try dsimp only at hSw); go_simp; (try with_reducible rfl))
      simp only [Act.put, List.getElem_toArray, List.getElem_cons_succ, List.getElem_cons_zero, List.setIfInBounds_toArray, List.set_cons_zero, List.set_cons_succ]
      refine wpAnyH_take (i := 31) (v := ?_) rfl (by kernel_rfl) (by kernel_rfl) (by kernel_rfl) (fun _ _ _ h => h) (Or.inl ⟨by kernel_rfl, ?_⟩) (by assumption) ?_
      rotate_left
      · (intro w hSw; (try dsimp only at hSw); go_simp; (try with_reducible rfl))
      simp only [Act.put, List.getElem_toArray, List.getElem_cons_succ, List.getElem_cons_zero, List.setIfInBounds_toArray, List.set_cons_zero, List.set_cons_succ]
      refine wpAnyH_done (by kernel_rfl) ?_ _
      refine NoPanic.normal ?_
      go_wp2_with fail
      go_roundw
      case rel => exact ⟨k + 1, by omega, by go_num, HB30⟩
      case measure => simp [intOf]; omega
    · have hdf : ¬ (k : Int) < (L.length : Int) := by omega
      go_wp2_with fail
      go_ret
      exact ⟨rfl, HB.out.trans (HGE.out.b.mono H1.out)⟩
end Go.Proofs.YtkbggcmjicaifaaDoor
