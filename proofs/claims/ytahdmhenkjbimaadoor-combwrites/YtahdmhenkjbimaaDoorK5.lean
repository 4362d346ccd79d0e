/- What comb.Encode answers. -/
import Derived.Test.YtahdmhenkjbimaaDoorK3
import Derived.Test.YtahdmhenkjbimaaDoorK4
namespace Go.Proofs.YtahdmhenkjbimaaDoor
open Go.RowKit
set_option linter.unusedVariables false
set_option linter.unusedSimpArgs false
attribute [local go_sem ↓] zero27

set_option maxRecDepth 8000 in
theorem Encode_no (wh : List UInt8) (sz : Int) (pa : Option Addr) (n pc : Nat) (w : World) (hw : wh.length = 32) (hno : goodB sz n = false) :
    Calls Tryd.prog 6 #[.agg (mv wh sz pa n pc)] w fun e w' => e = .returned (.tuple #[.string ⟨#[]⟩, .int .i64 1]) ∧ Below w.heap.size w w' := by
  have hsz := mv_size wh sz pa n pc hw
  obtain ⟨fs, hum⟩ := und27m
  have CG : Hid (∀ W, Calls Tryd.prog 17 #[.agg (mv wh sz pa n pc)] W fun e w' => e = .returned (.bool false) ∧ Below W.heap.size W w') := fun W => by
    rw [← hno]; exact Good_at wh sz pa n pc W hw
  clear hno
  generalize mv wh sz pa n pc = C at *
  have HN : Hid ((w.alloc (.cells C 26)).heap[w.heap.size]? = some (.cells C 26 (0, 0))) := heap_alloc_new _ _
  have HB : Hid (Below w.heap.size w (w.alloc (.cells C 26))) := (Below.refl _ w).alloc (Nat.le_refl _) _
  have H1 : Hid (w.heap.size ≤ (w.alloc (.cells C 26)).heap.size) := by show _ ≤ _; simp
  go_enter Tryd.func6, Tryd.ntmps6
  go_wp2_with (first
    | (refine wpList_load_row rfl 26 _ rfl w.heap.size rfl 26 C (0, 0) _ HN.out hum rfl (by rw [hsz]; exact info27m) ?_; clear HN)
    | (go_at_call 17; refine (CG.out _).mono ?_; clear CG; rintro e w1 ⟨rfl, hb⟩))
  go_ret2
  exact ⟨rfl, HB.out.trans (hb.mono H1.out)⟩

set_option maxRecDepth 8000 in
set_option maxHeartbeats 2000000 in
theorem Encode_at (wh : List UInt8) (sz : Int) (P : List (List UInt8)) (pa : Option Addr) (pc : Nat) (w : World) (hw : wh.length = 32) (hP : Dgs w.heap.size w pa P) (hgd : goodB sz P.length = true) :
    Calls Tryd.prog 6 #[.agg (mv wh sz pa P.length pc)] w fun e w' => e = .returned (.tuple #[.string (M.bs (encB wh sz P)), .int .i64 0]) ∧ Below w.heap.size w w' := by
  have h33 := mv_33 wh sz pa P.length pc hw
  have h32 := mv_32 wh sz pa P.length pc hw
  have hsz := mv_size wh sz pa P.length pc hw
  have hPn : P.length ≤ 8 := by unfold goodB at hgd; simp only [decide_eq_true_eq] at hgd; unfold S.nch at hgd; omega
  have hszb : 0 ≤ sz ∧ sz ≤ 512 := by unfold goodB at hgd; simp only [decide_eq_true_eq] at hgd; omega
  obtain ⟨fs, hum⟩ := und27m
  have hB0 : Below w.heap.size w (w.alloc (.cells (mv wh sz pa P.length pc) 26)) := (Below.refl _ w).alloc (Nat.le_refl _) _
  have hlen : ∀ d ∈ P, d.length = 32 := hP.len
  have hfl := dgs_flat P hlen
  obtain ⟨C, hC⟩ : ∃ C, C = mv wh sz pa P.length pc := ⟨_, rfl⟩
  have CG : Hid (∀ W, Calls Tryd.prog 17 #[.agg C] W fun e w' => e = .returned (.bool true) ∧ Below W.heap.size W w') := fun W => by
    rw [← hgd, hC]; exact Good_at wh sz pa P.length pc W hw
  have HN : Hid ((w.alloc (.cells C 26)).heap[w.heap.size]? = some (.cells C 26 (0, 0))) := heap_alloc_new _ _
  have HNW : Hid (∀ W, Below (w.heap.size + 1) (w.alloc (.cells C 26)) W → W.heap[w.heap.size]? = some (.cells C 26 (0, 0))) := fun W hW => by rw [hW.block _ (by omega)]; exact HN.out
  have HR : Hid (∀ W, Below (w.heap.size + 1) (w.alloc (.cells C 26)) W → W.rangeAt w.heap.size 0 (wh.map vb)) := fun W hW => mv_range wh sz pa P.length pc (by rw [← hC]; exact HNW.out W hW) hw
  have HC : Hid (∀ W, Below (w.heap.size + 1) (w.alloc (.cells C 26)) W → W.cell? ⟨w.heap.size, 33, none⟩ = some (.slice pa P.length pc)) := fun W hW => by
    rw [cell_of_row _ _ 33 _ _ _ (HNW.out W hW), hC]; exact h33
  have HC2 : Hid (∀ W, Below (w.heap.size + 1) (w.alloc (.cells C 26)) W → W.cell? ⟨w.heap.size, 32, none⟩ = some (.int .i64 sz)) := fun W hW => by
    rw [cell_of_row _ _ 32 _ _ _ (HNW.out W hW), hC]; exact h32
  have H1 : Hid ((w.alloc (.cells C 26)).heap.size = w.heap.size + 1) := by show _ = _; simp
  have HDG : Hid (∀ W k d, Below (w.heap.size + 1) (w.alloc (.cells C 26)) W → P[k]? = some d → d.length = 32 ∧ ∃ b off, pa = some ⟨b, off, none⟩ ∧ W.rangeAt b (off + k * 32) (d.map vb)) := fun W k d hW hd => by
    have hWs := hW.size
    rw [H1.out] at hWs
    obtain ⟨h0, b, off, h1, h2, h3⟩ := hP.below (B' := W.heap.size) ((hC ▸ hB0).trans (hW.mono (by omega))) (by omega) k d hd
    exact ⟨h0, b, off, h1, h3⟩
  have HB : Hid (Below w.heap.size w (w.alloc (.cells C 26))) := by rw [hC]; exact hB0
  rw [← hC]
  rw [← hC] at hsz
  clear h33 h32 hB0 hC hP hgd
  have HSZ : Hid (∀ W, Below (w.heap.size + 1) (w.alloc (.cells C 26)) W → w.heap.size + 1 ≤ W.heap.size) := fun W hW => by have := hW.size; rw [H1.out] at this; exact this
  have HFL : Hid (∀ k, (P.take k).flatten.length ≤ 256) := fun k => by
    have h := dgs_flat (P.take k) (fun d hd => hlen d (List.mem_of_mem_take hd))
    rw [h, List.length_take]; omega
  have hF256 : P.flatten.length ≤ 256 := by omega
  clear hlen hfl
  have hz32 := zero32_size
  go_enter Tryd.func6, Tryd.ntmps6
  go_wp2_with (first
    | (refine wpList_load_row rfl 26 _ rfl w.heap.size rfl 26 C (0, 0) _ HN.out hum rfl (by rw [hsz]; exact info27m) ?_; clear HN)
    | (go_at_call 17; refine (CG.out _).mono ?_; clear CG; rintro e w1 ⟨rfl, hb⟩; rw [H1.out] at hb; have hcA := HC.out _ (hb.alloc (HSZ.out _ hb) (.cells #[.pointer none, .slice none 0 0] 45))))
  have HB1 : Hid (Below (w.heap.size + 1) (w.alloc (.cells C 26)) w1) := hb
  have HFR : Hid (Lib.IsBuilder 45 5 w1.heap.size w1.heap.size (Lib.byteCells []) (w1.alloc (.cells #[.pointer none, .slice none 0 0] 45))) := Lib.fresh_isBuilder 45 5 w1
  have HB2 : Hid (Below (w.heap.size + 1) (w.alloc (.cells C 26)) (w1.alloc (.cells #[.pointer none, .slice none 0 0] 45))) := hb.alloc (HSZ.out _ hb) _
  clear hcA
  obtain ⟨g, hg⟩ : ∃ g, g = w1.heap.size := ⟨_, rfl⟩
  have hqg : w.heap.size + 1 ≤ g := by rw [hg]; exact HSZ.out _ hb
  have hgz : g < (w1.alloc (.cells #[.pointer none, .slice none 0 0] 45)).heap.size := by rw [hg]; simp
  rw [← hg]
  rw [← hg] at HFR
  clear hb hg HB1
  generalize w1.alloc (.cells #[.pointer none, .slice none 0 0] 45) = W2 at *
  obtain ⟨q, hq⟩ : ∃ q, q = w.heap.size := ⟨_, rfl⟩
  rw [← hq]
  rw [← hq] at HC HC2 HR HNW HDG HSZ HB2 H1 hqg
  have HQ : Hid (w.heap.size = q) := hq.symm
  clear hq hsz
  go_loopw [6, 13] (fun u6 u13 wr => ∃ k : Nat, k ≤ P.length ∧ u13 = .int .i64 k ∧ Lib.IsBuilder 45 5 g g (Lib.byteCells (P.take k).flatten) wr ∧ Below (q + 1) (w.alloc (.cells C 26)) wr) (fun _ u13 _ => P.length - (intOf u13).toNat)
  case atStart => exact ⟨0, Nat.zero_le _, rfl, HFR.out, HB2.out⟩
  case round =>
    clear HB2 HFR hgz
    obtain ⟨k, hk, rfl, hbd, hbe⟩ := hrel
    have HBE : Hid (Below (q + 1) (w.alloc (.cells C 26)) wr) := hbe
    have HBD : Hid (Lib.IsBuilder 45 5 g g (Lib.byteCells (P.take k).flatten) wr) := hbd
    have hgw : g < wr.heap.size := isB_lt hbd
    clear hbe hbd
    by_cases hlt : k < P.length
    · obtain ⟨d, hd⟩ : ∃ d, P[k]? = some d := ⟨P[k], List.getElem?_eq_getElem hlt⟩
      obtain ⟨hdl, b, off, rfl, hrd⟩ := HDG.out wr k d HBE.out hd
      have HRD : Hid (wr.rangeAt b (off + k * 32) (d.map vb)) := hrd
      have hi : (Tryd.prog.info? 23).map (·.size) = some (d.map vb).length := by rw [info27, List.length_map, hdl]
      have hi2 : (Tryd.prog.info? 23).map (·.size) = some (List.toArray (d.map vb)).size := by rw [info27, List.size_toArray, List.length_map, hdl]
      have hzs : zero32.size = (List.toArray (d.map vb)).size := by rw [hz32, List.size_toArray, List.length_map, hdl]
      have hone : (List.toArray (d.map vb)).all (·.oneCell') = true := dg_one d
      have hu := und27
      have htk : (P.take (k + 1)).flatten = (P.take k).flatten ++ d := by rw [List.take_add_one, hd, List.flatten_append]; simp
      have hA : Below wr.heap.size wr (wr.alloc (.cells (List.toArray (d.map vb)) 23)) := (Below.refl _ wr).alloc (Nat.le_refl _) _
      have CW : Hid (Calls Tryd.prog 18 #[.pointer (some ⟨g, 0, none⟩), .slice (some ⟨wr.heap.size, 0, none⟩) 32 32] (wr.alloc (.cells (List.toArray (d.map vb)) 23)) fun e w' => e = .returned (.tuple #[.int .i64 32, .nilIface]) ∧ Lib.IsBuilder 45 5 g g (Lib.byteCells (P.take (k + 1)).flatten) w' ∧ Below (q + 1) (w.alloc (.cells C 26)) w') := by
        have h3 := HFL.out k
        have := Write_at g g (P.take k).flatten d wr.heap.size 0 32 _ (builder_below HBD.out hA) (by omega) (fun j u hj => by
          rw [Nat.zero_add, cell_of_row _ _ j _ _ _ (heap_alloc_new wr _), List.getElem?_toArray]; exact hj) (by omega) (by simp; omega)
        rw [hdl, ← htk] at this
        refine this.mono ?_
        rintro e w' ⟨rfl, h1, h2⟩
        exact ⟨rfl, h1, (HBE.out.trans (hA.mono (HSZ.out _ HBE.out))).trans (h2.mono hqg)⟩
      have hk0 : (0 : Int) ≤ (k : Int) := by omega
      have hk1 : (k : Int) < (P.length : Int) := by omega
      clear htk hd hrd HDG HNW HR HC HC2 hA HBD
      generalize d.map vb = DL at *
      go_wp2_with (first
        | (refine wpList_load_mid rfl 23 _ rfl b (off + k * 32) rfl DL _ HRD.out und27 rfl hi ?_)
        | (refine wpList_store_row rfl 23 _ _ rfl wr.heap.size (List.toArray DL) rfl rfl 23 zero32 (heap_alloc_new wr _) hi2 hzs hone ?_; rw [World.setRow_alloc_new])
        | (go_at_call 18; refine CW.out.mono ?_; clear CW; rintro e w9 ⟨rfl, HD9, HB9⟩))
      go_roundw
      case rel => exact ⟨k + 1, by omega, by go_num, HD9, HB9⟩
      case measure => simp [intOf]; omega
    · have hkL : k = P.length := by omega
      have hdf : ¬ (k : Int) < (P.length : Int) := by omega
      have htk : (P.take k).flatten = P.flatten := by rw [hkL, List.take_length]
      rw [htk] at HBD
      clear hkL htk HDG HFL
      have hstep : ∀ W W', (Below (q + 1) (w.alloc (.cells C 26)) W ∧ Lib.IsBuilder 45 5 g g (Lib.byteCells P.flatten) W) → Below W.heap.size W W' → (Below (q + 1) (w.alloc (.cells C 26)) W' ∧ Lib.IsBuilder 45 5 g g (Lib.byteCells P.flatten) W') := fun W W' h hb => ⟨h.1.trans (hb.mono (HSZ.out W h.1)), builder_below h.2 hb⟩
      have CN : Hid (∀ W, (Below (q + 1) (w.alloc (.cells C 26)) W ∧ Lib.IsBuilder 45 5 g g (Lib.byteCells P.flatten) W) → Calls Tryd.prog 20 #[.int .i64 sz] W fun e w' => e = .returned (.string (M.bs (M.numB sz))) ∧ (Below (q + 1) (w.alloc (.cells C 26)) w' ∧ Lib.IsBuilder 45 5 g g (Lib.byteCells P.flatten) w')) := fun W hW => by
        refine (num_any sz W (by omega) (by omega)).mono ?_
        rintro e w' ⟨rfl, hb⟩
        exact ⟨rfl, hstep W w' hW hb⟩
      have CS : Hid (∀ W, (Below (q + 1) (w.alloc (.cells C 26)) W ∧ Lib.IsBuilder 45 5 g g (Lib.byteCells P.flatten) W) → Calls Tryd.prog 21 #[.pointer (some ⟨g, 0, none⟩)] W fun e w' => e = .returned (.string (M.bs P.flatten)) ∧ Below (q + 1) (w.alloc (.cells C 26)) w') := fun W hW => by
        refine (Tryd.Builder_String_any g g P.flatten W hW.2 (by have := isB_lt hW.2; omega)).mono ?_
        rintro e w' ⟨rfl, hb⟩
        exact ⟨rfl, hW.1.trans (hb.mono hqg)⟩
      have CR : Hid (∀ W, Below (q + 1) (w.alloc (.cells C 26)) W → Calls Tryd.prog 19 #[.slice (some ⟨W.heap.size, 0, none⟩) 3 3] (W.alloc (.cells #[.string (M.bs wh), .string (M.bs (M.numB sz)), .string (M.bs P.flatten)] 9)) fun e w' => e = .returned (.string (M.bs (encB wh sz P))) ∧ Below (q + 1) (w.alloc (.cells C 26)) w') := fun W hW => by
        have hl := encB_len wh sz P hw (by omega)
        have hA : Below W.heap.size W (W.alloc (.cells #[.string (M.bs wh), .string (M.bs (M.numB sz)), .string (M.bs P.flatten)] 9)) := (Below.refl _ W).alloc (Nat.le_refl _) _
        refine (row_any (.slice (some ⟨W.heap.size, 0, none⟩) 3 3) [wh, M.numB sz, P.flatten] _ (Or.inr ⟨W.heap.size, 0, 3, rfl, by simp, fun i t ht => ?_⟩) (by unfold encB at hl; omega) (by simp)).mono ?_
        · rw [Nat.zero_add, cell_of_row _ _ i _ _ _ (heap_alloc_new W _)]
          rcases i with _ | _ | _ | i
          · obtain rfl := Option.some.inj ht; rfl
          · obtain rfl := Option.some.inj ht; rfl
          · obtain rfl := Option.some.inj ht; rfl
          · simp at ht
        · rintro e w' ⟨rfl, hb⟩
          exact ⟨rfl, hW.trans ((hA.trans (hb.mono hA.size)).mono (HSZ.out W hW))⟩
      have hcv : ∀ W, Below (q + 1) (w.alloc (.cells C 26)) W → (convert 43 9 (.slice (some ⟨q, 0, none⟩) 32 32)).run Tryd.prog W = .ok (.string (M.bs wh)) W := fun W hW => by
        have := run_convert_bytes_back (P := Tryd.prog) W 43 9 5 ⟨q, 0, none⟩ 32 wh Tryd.underlying43 Tryd.underlying5 Tryd.underlying9 (fun j hj => by
          have h8 := HR.out W hW j (vb wh[j]) (by rw [List.getElem?_map, List.getElem?_eq_getElem hj]; rfl)
          rw [Addr.add_mid]
          simpa [vb] using h8)
        rw [hw] at this
        exact this
      have HKP : Hid (∀ W, Below (q + 1) (w.alloc (.cells C 26)) W → (convert 43 9 (.slice (some ⟨q, 0, none⟩) 32 32)).run Tryd.prog W = .ok (.string (M.bs wh)) W ∧ W.cell? ⟨q, 32, none⟩ = some (.int .i64 sz)) := fun W hW => ⟨hcv W hW, HC2.out W hW⟩
      have HI0 : Below (q + 1) (w.alloc (.cells C 26)) wr.drew ∧ Lib.IsBuilder 45 5 g g (Lib.byteCells P.flatten) wr.drew := ⟨HBE.out.drew, builder_below HBD.out (Below.refl _ wr).drew⟩
      have HAL : Hid (∀ W o, Below (q + 1) (w.alloc (.cells C 26)) W → Below (q + 1) (w.alloc (.cells C 26)) (W.alloc o)) := fun W o hW => hW.alloc (HSZ.out W hW) _
      clear hcv hstep HR HC2 HC HNW hw
      generalize P.flatten = F at *
      go_wp2_with fail
      refine wp_region_noPanic ?_
      refine wp_region_held_drew (S := (fun W => (convert 43 9 (.slice (some ⟨q, 0, none⟩) 32 32)).run Tryd.prog W = .ok (.string (M.bs wh)) W ∧ W.cell? ⟨q, 32, none⟩ = some (.int .i64 sz))) (by kernel_rfl) (HKP.out _ HI0.1) (fun hHeld => ?_)
      refine wpAnyH_take (i := 0) (v := ?_) rfl (by kernel_rfl) (by kernel_rfl) (by kernel_rfl) (fun _ _ _ h => h) (Or.inl ⟨by kernel_rfl, ?_⟩) (by assumption) ?_
      rotate_left
      · (intro w hSw; (try dsimp only at hSw); go_simp; (try with_reducible rfl))
      simp only [Act.put, List.getElem_toArray, List.getElem_cons_succ, List.getElem_cons_zero, List.setIfInBounds_toArray, List.set_cons_zero, List.set_cons_succ]
      refine wpAnyH_take (i := 1) (v := ?_) rfl (by kernel_rfl) (by kernel_rfl) (by kernel_rfl) (fun _ _ _ h => h) (Or.inl ⟨by kernel_rfl, ?_⟩) (by assumption) ?_
      rotate_left
      · (intro w hSw; (try dsimp only at hSw); go_simp; (try with_reducible rfl))
      simp only [Act.put, List.getElem_toArray, List.getElem_cons_succ, List.getElem_cons_zero, List.setIfInBounds_toArray, List.set_cons_zero, List.set_cons_succ]
      refine wpAnyH_take (i := 2) (v := ?_) rfl (by kernel_rfl) (by kernel_rfl) (by kernel_rfl) (fun _ _ _ h => h) (Or.inl ⟨by kernel_rfl, ?_⟩) (by assumption) ?_
      rotate_left
      · (intro w hSw; (try dsimp only at hSw); go_simp; (try with_reducible rfl))
      simp only [Act.put, List.getElem_toArray, List.getElem_cons_succ, List.getElem_cons_zero, List.setIfInBounds_toArray, List.set_cons_zero, List.set_cons_succ]
      refine wpAnyH_take (i := 3) (v := ?_) rfl (by kernel_rfl) (by kernel_rfl) (by kernel_rfl) (fun _ _ _ h => h) (Or.inl ⟨by kernel_rfl, ?_⟩) (by assumption) ?_
      rotate_left
      · (intro w hSw; (try dsimp only at hSw); go_simp; (try with_reducible rfl))
      simp only [Act.put, List.getElem_toArray, List.getElem_cons_succ, List.getElem_cons_zero, List.setIfInBounds_toArray, List.set_cons_zero, List.set_cons_succ]
      refine wpAnyH_take (i := 4) (v := ?_) rfl (by kernel_rfl) (by kernel_rfl) (by kernel_rfl) (fun _ _ _ h => h) (Or.inl ⟨by kernel_rfl, ?_⟩) (by assumption) ?_
      rotate_left
      · (intro w hSw; (try dsimp only at hSw); go_simp; (try with_reducible rfl))
      simp only [Act.put, List.getElem_toArray, List.getElem_cons_succ, List.getElem_cons_zero, List.setIfInBounds_toArray, List.set_cons_zero, List.set_cons_succ]
      refine wpAnyH_ready (rs := [5]) (by kernel_rfl) (by simp) ?_
      refine AllReadyH.cons (o := _) rfl (fun K hK => ?_) AllReadyH.nil
      go_simp
      (refine (CN.out _ HI0).mono ?_; rintro e w6 ⟨rfl, HB6⟩; dsimp only)
      refine hK.out _ _ (HKP.out _ HB6.1) (fun hHeld => ?_)
      clear hK K
      (try simp only [Act.put, List.getElem_toArray, List.getElem_cons_succ, List.getElem_cons_zero, List.setIfInBounds_toArray, List.set_cons_zero, List.set_cons_succ])
      refine wpAnyH_ready (rs := [6]) (by kernel_rfl) (by simp) ?_
      refine AllReadyH.cons (o := _) rfl (fun K hK => ?_) AllReadyH.nil
      go_simp
      (refine (CS.out _ HB6).mono ?_; rintro e w7 ⟨rfl, HB7⟩; dsimp only)
      refine hK.out _ _ (HKP.out _ HB7) (fun hHeld => ?_)
      clear hK K
      (try simp only [Act.put, List.getElem_toArray, List.getElem_cons_succ, List.getElem_cons_zero, List.setIfInBounds_toArray, List.set_cons_zero, List.set_cons_succ])
      refine wpAnyH_ready (rs := [7]) (by kernel_rfl) (by simp) ?_
      refine AllReadyH.cons (o := _) rfl (fun K hK => ?_) AllReadyH.nil
      go_simp
      refine hK.out _ _ (HKP.out _ (HAL.out _ _ HB7)) (fun hHeld => ?_)
      clear hK K
      (try simp only [Act.put, List.getElem_toArray, List.getElem_cons_succ, List.getElem_cons_zero, List.setIfInBounds_toArray, List.set_cons_zero, List.set_cons_succ])
      refine wpAnyH_ready (rs := [8]) (by kernel_rfl) (by simp) ?_
      refine AllReadyH.cons (o := _) rfl (fun K hK => ?_) AllReadyH.nil
      go_simp
      (refine (CR.out _ HB7).mono ?_; rintro e w9 ⟨rfl, HB9⟩; dsimp only)
      refine hK.out _ _ (HKP.out _ HB9) (fun hHeld => ?_)
      clear hK K
      (try simp only [Act.put, List.getElem_toArray, List.getElem_cons_succ, List.getElem_cons_zero, List.setIfInBounds_toArray, List.set_cons_zero, List.set_cons_succ])
      refine wpAnyH_take (i := 9) rfl (by kernel_rfl) (by kernel_rfl) (by kernel_rfl) (fun _ _ _ h => h) (yi_assign (by kernel_rfl) rfl rfl) (by assumption) ?_
      simp only [Act.put, List.getElem_toArray, List.getElem_cons_succ, List.getElem_cons_zero, List.setIfInBounds_toArray, List.set_cons_zero, List.set_cons_succ]
      refine wpAnyH_take (i := 10) rfl (by kernel_rfl) (by kernel_rfl) (by kernel_rfl) (fun _ _ _ h => h) (yi_assign (by kernel_rfl) rfl rfl) (by assumption) ?_
      simp only [Act.put, List.getElem_toArray, List.getElem_cons_succ, List.getElem_cons_zero, List.setIfInBounds_toArray, List.set_cons_zero, List.set_cons_succ]
      refine wpAnyH_done (by kernel_rfl) ?_ _
      refine NoPanic.normal ?_
      go_wp2_with fail
      go_ret2
      exact ⟨rfl, HB.out.trans (HB9.mono (by rw [HQ.out]; omega))⟩
end Go.Proofs.YtahdmhenkjbimaaDoor
