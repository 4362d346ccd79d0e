/- What the reference's bytes and digest answer. -/
import Derived.Test.YtahdmhenkjbimaaDoorX3
import Derived.Test.YtahdmhenkjbimaaDoorC5
namespace Go.Proofs.YtahdmhenkjbimaaDoor
open Go.RowKit
set_option linter.unusedVariables false
set_option linter.unusedSimpArgs false

set_option maxRecDepth 8000 in
set_option maxHeartbeats 2000000 in
theorem rBytes_at (d : List UInt8) (hd : d.length = 32) (w : World) :
    Calls Tryd.prog 23 #[.agg (dg d)] w fun e w' => e = .returned (.string (M.bs d)) ∧ Below w.heap.size w w' := by
  have HB1 : Hid (Below w.heap.size w (w.alloc (.cells (dg d) 23))) := (Below.refl _ w).alloc (Nat.le_refl _) _
  have HN1 : Hid ((w.alloc (.cells (dg d) 23)).heap[w.heap.size]? = some (.cells (dg d) 23 (0, 0))) := heap_alloc_new _ _
  have H10 : Hid ((w.alloc (.cells (dg d) 23)).heap.size = w.heap.size + 1) := by show _ = _; simp
  have HDA : Hid (∀ k y, d[k]? = some y → (dg d)[k]? = some (vb y)) := fun k y h => by unfold dg; rw [List.getElem?_toArray, List.getElem?_map, h]; rfl
  generalize dg d = DA at *
  go_enter Tryd.func23, Tryd.ntmps23
  go_wp2_with fail
  generalize w.alloc (.cells DA 23) = W1 at *
  obtain ⟨n, hn⟩ : ∃ n, n = w.heap.size := ⟨_, rfl⟩
  rw [← hn] at HB1 HN1 H10 ⊢
  have HNW : Hid (w.heap.size = n) := hn.symm
  clear hn
  have HO1 : Hid ((W1.alloc (.cells #[] 5)).ownsRow (n + 1) 5 1 (.slice (some ⟨W1.heap.size, 0, none⟩) 0 0) 0 ((d.map vb).take 0)) := by
    have := World.ownsRow_made (base := n + 1) (e := 5) (size := 1) W1 #[] 0 (by rw [H10.out]; omega) (by simp [maxLen]) rfl
    exact this
  have HB2 : Hid (Below (n + 1) W1 (W1.alloc (.cells #[] 5))) := (Below.refl _ _).alloc (by rw [H10.out]; omega) _
  have h1n : W1.heap.size = n + 1 := H10.out
  rw [h1n] at HO1
  try rw [h1n]
  have H1N : Hid (W1.heap.size = n + 1) := h1n
  have HC1 : Hid (∀ W k y, Below (n + 1) W1 W → d[k]? = some y → W.cell? ⟨n, k, none⟩ = some (vb y)) := fun W k y hW h => by
    rw [hW.cell (p := ⟨n, k, none⟩) (show n < n + 1 by omega), cell_of_row _ _ k DA _ _ HN1.out]; exact HDA.out k y h
  generalize W1.alloc (.cells #[] 5) = W2 at *
  clear h1n
  go_loopw [3, 4] (fun u3 u4 wr => ∃ k : Nat, k ≤ 32 ∧ u4 = .int .i64 k ∧ wr.ownsRow (n + 1) 5 1 u3 k ((d.map vb).take k) ∧ Below (n + 1) W1 wr) (fun _ u4 _ => 32 - (intOf u4).toNat)
  case atStart => exact ⟨0, by omega, rfl, HO1.out, HB2.out⟩
  case round =>
    clear HO1 HB2
    obtain ⟨k, hk, rfl, hown, hbe⟩ := hrel
    have HOW : Hid (wr.ownsRow (n + 1) 5 1 u3 k ((d.map vb).take k)) := hown
    have HBE : Hid (Below (n + 1) W1 wr) := hbe
    have hsz : n + 1 ≤ wr.heap.size := by have := hbe.size; have := H1N.out; omega
    clear hown hbe
    by_cases hlt : k < 32
    · obtain ⟨y, hy⟩ : ∃ y, d[k]? = some y := ⟨d[k]'(by omega), List.getElem?_eq_getElem _⟩
      have HTS : Hid ((d.map vb).take (k + 1) = (d.map vb).take k ++ [vb y]) := by
        show _ = _
        rw [List.take_add_one, List.getElem?_map, hy]; rfl
      have hcell := HC1.out wr k y HBE.out hy
      have hkl : (k : Int) < 32 := by omega
      have hk0 : (0 : Int) ≤ (k : Int) := by omega
      clear hy
      obtain ⟨i0, hi, hz0', hz1, hz2⟩ := info_partsX (show (Tryd.prog.info? 5).map (fun i => (i.zero, i.size, i.bytes)) = some (some (.int .u8 0), 1, 1) by kernel_rfl)
      have NEWS : Hid (∀ q u, [vb y][q]? = some u → (wr.alloc (.cells #[vb y] 5)).cell? ((⟨wr.heap.size, 0, none⟩ : Addr).add q) = some u) := World.news_of_block (cs := #[vb y]) (heap_alloc_new wr _)
      have OWN : Hid ((wr.alloc (.cells #[vb y] 5)).ownsRow (n + 1) 5 1 u3 k ((d.map vb).take k)) := World.ownsRow.alloc (w := wr) HOW.out _
      have HLT : Hid (∀ q, u3.ownBlock = some q → n + 1 ≤ q) := fun q hq => (HOW.out.lt q hq).1
      have hb1 : Hid (Below (n + 1) W1 (wr.alloc (.cells #[vb y] 5))) := HBE.out.alloc hsz _
      go_wp2_with (at_builtin; refine wpList_append_lies _ rfl _ _ 43 rfl (n + 1) 5 i0 (.int .u8 0) 1 1 Tryd.underlying43 hi hz0' hz1 hz2 rfl (by decide) _ k _ rfl OWN.out ⟨wr.heap.size, 0, none⟩ 1 1 [vb y] rfl rfl NEWS.out (fun u hu => by simp at hu; subst hu; rfl) (by decide) (by unfold maxLen; omega) (by omega) (by simp; omega) (wr.heap.size + 1) (by simp) ?_)
      intro g cap' w9 hown9 hgrow9 hat9 hlt9
      have HO9 : Hid (w9.ownsRow (n + 1) 5 1 (.slice (some ⟨g, 0, none⟩) (k + 1) cap') (k + 1) ((d.map vb).take (k + 1))) := by rw [HTS.out]; exact hown9
      have HB9 : Hid (Below (n + 1) W1 w9) := hb1.out.grown hgrow9 (by simp; omega) (fun q hq => HLT.out q hq)
      clear hown9 hgrow9 hat9 hb1
      go_wp2_with fail
      go_roundw
      case rel => exact ⟨k + 1, by omega, by go_num, HO9.out, HB9.out⟩
      case measure => first | (simp [intOf]; omega) | simp [intOf]
    · obtain rfl : k = 32 := by omega
      have hcv : ∃ g cap, u3 = .slice (some ⟨g, 0, none⟩) 32 cap ∧ (convert 43 9 u3).run Tryd.prog wr = .ok (.string (M.bs d)) wr := by
        obtain ⟨h0, ⟨_, h2⟩ | ⟨g, cap, cur, h1, h2, h3, h4, h5, h6, h7⟩⟩ := HOW.out
        · omega
        · refine ⟨g, cap, h1, ?_⟩
          rw [h1]
          have hfull : (d.map vb).take 32 = d.map vb := by rw [List.take_of_length_le (by simp; omega)]
          have := run_convert_bytes_back (P := Tryd.prog) wr 43 9 5 ⟨g, 0, none⟩ cap d Tryd.underlying43 Tryd.underlying5 Tryd.underlying9 (fun j hj => by
            rw [Addr.add_mid, Nat.zero_add, Lib.cell_of_heap h3]
            have h8 : (cur.toList.take (32 * 1))[j]? = ((d.map vb).take 32)[j]? := by rw [h7]
            rw [List.getElem?_take_of_lt (by omega), hfull, List.getElem?_map, List.getElem?_eq_getElem hj] at h8
            rw [Array.getElem?_toList] at h8
            simpa [vb] using h8)
          rw [hd] at this
          exact this
      obtain ⟨g, cap, rfl, hcv⟩ := hcv
      go_wp2_with fail
      go_ret
      rw [HNW.out]
      exact ⟨rfl, HB1.out.trans (HBE.out.mono (by omega))⟩

attribute [local go_sem ↓] zero27
set_option maxRecDepth 8000 in
set_option maxHeartbeats 2000000 in
theorem rDigest_at (d : List UInt8) (hd : d.length = 32) (w : World) :
    Calls Tryd.prog 32 #[.string (M.bs d)] w fun e w' => e = .returned (.agg (dg d)) ∧ Below w.heap.size w w' := by
  have hbs := M.bs_size d
  have hz32 := zero32_size
  have hzo : zero32.all (·.oneCell') = true := by kernel_rfl
  have HM0 : Hid (((w.alloc (.cells zero32 23)).alloc (.cells zero32 23)).heap[w.heap.size + 1]? = some (.cells zero32 23 (0, 0))) := alloc_at _ _ (by simp) _
  have hN0 : ((w.alloc (.cells zero32 23)).alloc (.cells zero32 23)).heap[w.heap.size]? = some (.cells zero32 23 (0, 0)) := by rw [Below.heap_alloc _ _ _ (by simp)]; exact heap_alloc_new _ _
  have hB0 : Below w.heap.size w ((w.alloc (.cells zero32 23)).alloc (.cells zero32 23)) := ((Below.refl _ w).alloc (Nat.le_refl _) _).alloc (by simp) _
  have HN : Hid ((((w.alloc (.cells zero32 23)).alloc (.cells zero32 23)).setRow (w.heap.size + 1) zero32).heap[w.heap.size]? = some (.cells zero32 23 (0, 0))) := by
    rw [← hN0]; show (Array.modify _ (w.heap.size + 1) _)[w.heap.size]? = _; rw [Array.getElem?_modify, if_neg (by omega)]
  have HM : Hid ((((w.alloc (.cells zero32 23)).alloc (.cells zero32 23)).setRow (w.heap.size + 1) zero32).heap[w.heap.size + 1]? = some (.cells zero32 23 (0, 0))) := setRow_heap _ _ _ _ _ _ HM0.out
  have HB : Hid (Below w.heap.size w (((w.alloc (.cells zero32 23)).alloc (.cells zero32 23)).setRow (w.heap.size + 1) zero32)) := below_setRow hB0 (by omega) _
  clear hN0 hB0
  go_enter Tryd.func32, Tryd.ntmps32
  go_wp2_with (refine wpList_store_row rfl 23 _ _ rfl (w.heap.size + 1) zero32 rfl rfl 23 zero32 HM0.out (by rw [hz32]; exact info27) rfl hzo ?_)
  clear HM0
  generalize ((w.alloc (.cells zero32 23)).alloc (.cells zero32 23)).setRow (w.heap.size + 1) zero32 = W2 at *
  obtain ⟨n, hn⟩ : ∃ n, n = w.heap.size := ⟨_, rfl⟩
  obtain ⟨q9, hq⟩ : ∃ q9, q9 = w.heap.size + 1 := ⟨_, rfl⟩
  rw [← hq, ← hn]
  rw [← hn] at HN HB
  rw [← hq] at HM
  have hnq9 : n < q9 := by omega
  have HNW : Hid (w.heap.size = n) := hn.symm
  clear hn hq hzo
  go_loopw [4] (fun u4 wr => ∃ (i : Nat) (C : Array Value), i ≤ 32 ∧ u4 = .int .i64 i ∧ wr.heap[q9]? = some (.cells C 23 (0, 0)) ∧ C.size = 32 ∧ (∀ j, j < i → C[j]? = (d.map vb)[j]?) ∧ Below q9 W2 wr) (fun u4 _ => 32 - (intOf u4).toNat)
  case atStart => exact ⟨0, zero32, by omega, rfl, HM.out, hz32, fun j hj => by omega, Below.refl _ _⟩
  case round =>
    clear HM
    obtain ⟨i, C, hi, rfl, hC, hCs, hCj, hB⟩ := hrel
    have HC : Hid (wr.heap[q9]? = some (.cells C 23 (0, 0))) := hC
    have HJ : Hid (∀ j, j < i → C[j]? = (d.map vb)[j]?) := hCj
    have HB8 : Hid (Below q9 W2 wr) := hB
    by_cases hlt2 : i < 32
    · obtain ⟨y, hy⟩ : ∃ y, d[i]? = some y := ⟨d[i]'(by omega), List.getElem?_eq_getElem _⟩
      obtain ⟨v0, hv0⟩ : ∃ v, C[i]? = some v := ⟨C[i]'(by omega), Array.getElem?_eq_getElem (by omega)⟩
      have hc9 : wr.cell? ⟨q9, i, none⟩ = some v0 := by rw [cell_of_row _ _ i C _ _ hC]; exact hv0
      have hf9 : wr.frozen? ⟨q9, i, none⟩ = false := by simp [World.frozen?, hC]
      have HEY : Hid (∀ h : i < (M.bs d).size, (M.bs d)[i]'h = y) := fun h => by
        have h2 := (List.getElem?_eq_some_iff.1 hy).2
        rw [← h2]; rfl
      have HY : Hid ((d.map vb)[i]? = some (vb y)) := by show _ = _; rw [List.getElem?_map, hy]; rfl
      have i0 : (0 : Int) ≤ (i : Int) := by omega
      have i1 : (i : Int) < 32 := by omega
      clear hC hCj hB hv0 hy
      go_wp2_with fail
      rw [HEY.out]
      refine ⟨⟨i + 1, C.setIfInBounds i (vb y), by omega, by go_num, heap_setCell_row HC.out, by simp [hCs], fun j hj => ?_, HB8.out.setCell (Nat.le_refl _) _⟩, by simp [intOf]; omega⟩
      by_cases hji : j = i
      · subst hji; rw [Array.getElem?_setIfInBounds_self_of_lt (by omega), HY.out]
      · rw [Array.getElem?_setIfInBounds_ne (by omega)]; exact HJ.out j (by omega)
    · have hdf : ¬ (i : Int) < 32 := by omega
      have hCd : C = dg d := by
        apply Array.ext_getElem?
        intro j
        by_cases hj : j < 32
        · rw [HJ.out j (by omega)]
          simp [dg]
        · rw [Array.getElem?_eq_none (by omega), Array.getElem?_eq_none (by rw [dg_size]; omega)]
      have hone : C.all (·.oneCell') = true := by rw [hCd]; exact dg_one _
      have HF : Hid (C = dg d) := hCd
      have HRN2 : Hid (wr.heap[n]? = some (.cells zero32 23 (0, 0))) := by show _ = _; rw [HB8.out.block n hnq9]; exact HN.out
      have HBF : Hid (Below n w wr) := HB.out.trans (HB8.out.mono (by omega))
      clear hCd HJ hC hCj hB
      go_wp2_with (first
        | refine wpList_load_row rfl 23 _ rfl _ rfl 23 C (0, 0) _ HC.out und27 rfl (by rw [hCs]; exact info27) ?_
        | refine wpList_store_row rfl 23 _ _ rfl _ C rfl rfl 23 zero32 HRN2.out (by rw [hCs]; exact info27) (by rw [hz32, hCs]) hone ?_)
      (try simp only [Exit.inBlock, Exit.then])
      refine bodyPost_ret (results_cell_row rfl _ _ _ 23 C (0, 0) _ rfl (setRow_heap _ _ _ _ _ _ HRN2.out) und27 rfl (by rw [hCs]; exact info27)) rfl ?_
      have hb := below_setRow HBF.out (g := n) (Nat.le_refl _) C
      rw [← HF.out, HNW.out]
      exact ⟨rfl, hb⟩
end Go.Proofs.YtahdmhenkjbimaaDoor
