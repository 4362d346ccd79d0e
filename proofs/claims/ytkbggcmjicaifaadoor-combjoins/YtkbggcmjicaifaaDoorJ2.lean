/- What the reference's Join answers, and the law's 'great'. -/
import Derived.Test.YtkbggcmjicaifaaDoorJ1
import Derived.Test.YtkbggcmjicaifaaDoorRegT
namespace Go.Proofs.YtkbggcmjicaifaaDoor
open Go.RowKit
set_option linter.unusedVariables false
set_option linter.unusedSimpArgs false

set_option maxRecDepth 8000 in
theorem rjoin_arg (whole : List UInt8) (size : Int) (pa : Option Addr) (n pc : Nat) (a : Option Addr) (m c : Nat) (w : World) (hw : whole.length = 32) (hn : n ≤ 9223372036854775807) (hm : m ≤ 9223372036854775807)
    (hno : goodB size n = false ∨ m ≠ n) :
    Calls Tryd.prog 23 #[.agg (mv whole size pa n pc), .slice a m c] w fun e w' => e = .returned (.tuple #[.string ⟨#[]⟩, .int .i64 1]) ∧ Below w.heap.size w w' := by
  have h33 := mv_33 whole size pa n pc hw
  have hsz := mv_size whole size pa n pc hw
  obtain ⟨fs, hum⟩ := und27m
  obtain ⟨g, hg⟩ : ∃ g, goodB size n = g := ⟨_, rfl⟩
  have CG : Hid (∀ W, Calls Tryd.prog 25 #[.agg (mv whole size pa n pc)] W fun e w' => e = .returned (.bool g) ∧ Below W.heap.size W w') := fun W => by
    rw [← hg]; exact rGood_at whole size pa n pc W hw
  rw [hg] at hno
  clear hg
  generalize mv whole size pa n pc = C at *
  have HN : Hid ((w.alloc (.cells C 34)).heap[w.heap.size]? = some (.cells C 34 (0, 0))) := heap_alloc_new _ _
  have HB : Hid (Below w.heap.size w (w.alloc (.cells C 34))) := (Below.refl _ w).alloc (Nat.le_refl _) _
  have HC : Hid (∀ W, Below (w.heap.size + 1) (w.alloc (.cells C 34)) W → W.cell? ⟨w.heap.size, 33, none⟩ = some (.slice pa n pc)) := fun W hW => by
    rw [hW.cell (p := ⟨w.heap.size, 33, none⟩) (show w.heap.size < w.heap.size + 1 by omega), cell_of_row _ _ 33 C _ _ HN.out]; exact h33
  have H1 : Hid ((w.alloc (.cells C 34)).heap.size = w.heap.size + 1) := by show _ = _; simp
  clear h33
  rcases Bool.eq_false_or_eq_true g with rfl | rfl
  · have hno' : ((m : Int) != (n : Int)) = true := by simp at hno ⊢; omega
    clear hno
    go_enter Tryd.func23, Tryd.ntmps23
    go_wp2_with (first
      | (refine wpList_load_row rfl 34 _ rfl w.heap.size rfl 34 C (0, 0) _ HN.out hum rfl (by rw [hsz]; exact info27m) ?_; clear HN)
      | (go_at_call 25; refine (CG.out _).mono ?_; clear CG; rintro e w1 ⟨rfl, hb⟩; rw [H1.out] at hb; have hc := HC.out _ hb))
    go_ret2
    exact ⟨rfl, HB.out.trans (hb.mono (by omega))⟩
  · clear hno
    go_enter Tryd.func23, Tryd.ntmps23
    go_wp2_with (first
      | (refine wpList_load_row rfl 34 _ rfl w.heap.size rfl 34 C (0, 0) _ HN.out hum rfl (by rw [hsz]; exact info27m) ?_; clear HN)
      | (go_at_call 25; refine (CG.out _).mono ?_; clear CG; rintro e w1 ⟨rfl, hb⟩; rw [H1.out] at hb; have hc := HC.out _ hb))
    go_ret2
    exact ⟨rfl, HB.out.trans (hb.mono (by omega))⟩

set_option maxRecDepth 8000 in
set_option maxHeartbeats 1000000 in
theorem rjoin_loop (whole : List UInt8) (size : Int) (P : List (List UInt8)) (pa : Option Addr) (pc : Nat) (L : List (List UInt8)) (a : Option Addr) (c : Nat) (w : World) (hw : whole.length = 32) (hP : Dgs w.heap.size w pa P)
    (hT : TX w a L) (hc : L.length ≤ c) (hgd : goodB size P.length = true) (hln : L.length = P.length) (hlen : ∀ t ∈ L, t.length ≤ 1000)
    (j : Nat) (hj : j ≤ L.length) (hfit : ∀ k, k < j → fitsB size P (k : Int) (L.getD k []) = true) (hbad : j < L.length → fitsB size P (j : Int) (L.getD j []) = false) (X : List UInt8) (E : Int)
    (hX : (j < L.length ∧ X = [] ∧ E = 5) ∨ (j = L.length ∧ S.sha L.flatten = whole ∧ X = L.flatten ∧ E = 0) ∨ (j = L.length ∧ S.sha L.flatten ≠ whole ∧ X = [] ∧ E = 5)) :
    Calls Tryd.prog 23 #[.agg (mv whole size pa P.length pc), .slice a L.length c] w fun e w' => e = .returned (.tuple #[.string (M.bs X), .int .i64 E]) ∧ Below w.heap.size w w' := by
  have h33 := mv_33 whole size pa P.length pc hw
  have hsz := mv_size whole size pa P.length pc hw
  have hPn : P.length ≤ 8 := by unfold goodB at hgd; simp only [decide_eq_true_eq] at hgd; unfold S.nch at hgd; omega
  obtain ⟨fs, hum⟩ := und27m
  have hB0 : Below w.heap.size w (w.alloc (.cells (mv whole size pa P.length pc) 34)) := (Below.refl _ w).alloc (Nat.le_refl _) _
  have e1 : (w.alloc (.cells (mv whole size pa P.length pc) 34)).heap.size = w.heap.size + 1 := by simp
  have CG : Hid (∀ W, Calls Tryd.prog 25 #[.agg (mv whole size pa P.length pc)] W fun e w' => e = .returned (.bool true) ∧ Below W.heap.size W w') := fun W => by
    rw [← hgd]; exact rGood_at whole size pa P.length pc W hw
  have CF : Hid (∀ W (k : Nat) t, Below (w.heap.size + 1) (w.alloc (.cells (mv whole size pa P.length pc) 34)) W → L[k]? = some t → Calls Tryd.prog 27 #[.agg (mv whole size pa P.length pc), .int .i64 (k : Int), .string (M.bs t)] W fun e w' => e = .returned (.bool (fitsB size P (k : Int) t)) ∧ Below (w.heap.size + 1) (w.alloc (.cells (mv whole size pa P.length pc) 34)) w') := fun W k t hW ht => by
    have hWs := hW.size
    rw [e1] at hWs
    have hBW : Below w.heap.size w W := hB0.trans (hW.mono (by omega))
    refine (rFits_at whole size P pa pc (k : Int) t W hw (hP.below hBW (by omega)) (by have := hlen t (List.mem_of_getElem? ht); omega)).mono ?_
    rintro e w' ⟨rfl, hb⟩
    exact ⟨rfl, hW.trans (hb.mono hWs)⟩
  have hfl := flat_len L 1000 hlen
  have CO : Hid (∀ W, Below (w.heap.size + 1) (w.alloc (.cells (mv whole size pa P.length pc) 34)) W → Calls Tryd.prog 11 #[.string (M.bs L.flatten)] W fun e w' => e = .returned (.agg (dg (S.sha L.flatten))) ∧ Below (w.heap.size + 1) (w.alloc (.cells (mv whole size pa P.length pc) 34)) w') := fun W hW => by
    have hWs := hW.size
    rw [e1] at hWs
    refine (rOf L.flatten (by omega) W).mono ?_
    rintro e w' ⟨rfl, hb⟩
    exact ⟨rfl, hW.trans (hb.mono hWs)⟩
  have HN : Hid ((w.alloc (.cells (mv whole size pa P.length pc) 34)).heap[w.heap.size]? = some (.cells (mv whole size pa P.length pc) 34 (0, 0))) := heap_alloc_new _ _
  have HNW : Hid (∀ W, Below (w.heap.size + 1) (w.alloc (.cells (mv whole size pa P.length pc) 34)) W → W.heap[w.heap.size]? = some (.cells (mv whole size pa P.length pc) 34 (0, 0))) := fun W hW => by rw [hW.block _ (by omega)]; exact HN.out
  have HR : Hid (∀ W, Below (w.heap.size + 1) (w.alloc (.cells (mv whole size pa P.length pc) 34)) W → W.rangeAt w.heap.size 0 (whole.map vb)) := fun W hW => mv_range _ _ _ _ _ (HNW.out W hW) hw
  have HCL : Hid (∀ W, Below (w.heap.size + 1) (w.alloc (.cells (mv whole size pa P.length pc) 34)) W → W.rangeAt w.heap.size 0 (mv whole size pa P.length pc).toList) := fun W hW j v hv => by
    rw [Nat.zero_add, cell_of_row _ _ j _ _ _ (HNW.out W hW)]; simpa using hv
  have HTX : Hid (∀ W (k : Nat) t, Below (w.heap.size + 1) (w.alloc (.cells (mv whole size pa P.length pc) 34)) W → L[k]? = some t → ∃ sb off, a = some ⟨sb, off, none⟩ ∧ W.cell? ⟨sb, off + k, none⟩ = some (.string (M.bs t))) := fun W k t hW ht => by
    have hWs := hW.size
    rw [e1] at hWs
    obtain ⟨sb, off, h1, h2, h3⟩ := (hT.below (hB0.trans (hW.mono (by omega))) (Nat.le_refl _)) k t ht
    exact ⟨sb, off, h1, h3⟩
  have HC : Hid (∀ W, Below (w.heap.size + 1) (w.alloc (.cells (mv whole size pa P.length pc) 34)) W → W.cell? ⟨w.heap.size, 33, none⟩ = some (.slice pa P.length pc)) := fun W hW => by
    rw [cell_of_row _ _ 33 _ _ _ (HNW.out W hW)]; exact h33
  have HB : Hid (Below w.heap.size w (w.alloc (.cells (mv whole size pa P.length pc) 34))) := hB0
  have HX : Hid ((j < L.length ∧ X = [] ∧ E = 5) ∨ (j = L.length ∧ S.sha L.flatten = whole ∧ X = L.flatten ∧ E = 0) ∨ (j = L.length ∧ S.sha L.flatten ≠ whole ∧ X = [] ∧ E = 5)) := hX
  have HFT : Hid (∀ k, k < j → fitsB size P (k : Int) (L.getD k []) = true) := hfit
  have HBD : Hid (j < L.length → fitsB size P (j : Int) (L.getD j []) = false) := hbad
  have H1 : Hid ((w.alloc (.cells (mv whole size pa P.length pc) 34)).heap.size = w.heap.size + 1) := e1
  clear h33 hB0 e1 hX hfit hbad hT hP hgd
  generalize mv whole size pa P.length pc = C0 at *
  obtain ⟨CL, rfl⟩ : ∃ CL : List Value, C0 = CL.toArray := ⟨C0.toList, by simp⟩
  have HCL' : Hid (∀ W, Below (w.heap.size + 1) (w.alloc (.cells CL.toArray 34)) W → W.rangeAt w.heap.size 0 CL) := fun W hW => by simpa using HCL.out W hW
  clear HCL
  have hi34 : (Tryd.prog.info? 34).map (·.size) = some CL.length := by rw [info27m]; simpa using hsz.symm
  have hlnI : ((L.length : Int) != (P.length : Int)) = false := by simp; omega
  have hLn : L.length ≤ 8 := by omega
  clear hln
  have hsz2 : CL.toArray.size = 34 := hsz
  go_enter Tryd.func23, Tryd.ntmps23
  go_wp2_with (first
    | (refine wpList_load_row rfl 34 _ rfl w.heap.size rfl 34 CL.toArray (0, 0) _ HN.out hum rfl (by rw [hsz2]; exact info27m) ?_; clear HN)
    | (go_at_call 25; refine (CG.out _).mono ?_; clear CG; rintro e w1 ⟨rfl, hb⟩; rw [H1.out] at hb; have hc := HC.out _ hb))
  have HB1 : Hid (Below (w.heap.size + 1) (w.alloc (.cells CL.toArray 34)) w1) := hb
  clear hb hc HC
  go_loopw [6, 7] (fun u6 u7 wr => ∃ k : Nat, k ≤ j ∧ u6 = .string (M.bs (L.take k).flatten) ∧ u7 = .int .i64 k ∧ Below (w.heap.size + 1) (w.alloc (.cells CL.toArray 34)) wr) (fun _ u7 _ => L.length - (intOf u7).toNat)
  case atStart => exact ⟨0, Nat.zero_le _, rfl, rfl, HB1.out⟩
  case round =>
    obtain ⟨k, hk, rfl, rfl, hbe⟩ := hrel
    clear HB1
    have HBE : Hid (Below (w.heap.size + 1) (w.alloc (.cells CL.toArray 34)) wr) := hbe
    clear hbe
    by_cases hlt : k < L.length
    · obtain ⟨t, ht⟩ : ∃ t, L[k]? = some t := ⟨L[k], List.getElem?_eq_getElem hlt⟩
      obtain ⟨sb, off, rfl, hcell⟩ := HTX.out wr k t HBE.out ht
      have htD : L.getD k [] = t := by rw [List.getD_eq_getElem?_getD, ht]; rfl
      have hf1 := CF.out wr.drew k t HBE.out.drew ht
      have hk0 : (0 : Int) ≤ (k : Int) := by omega
      have hk1 : (k : Int) < (L.length : Int) := by omega
      have HX0 : Hid (wr.drew.rangeAt w.heap.size 0 CL ∧ wr.drew.cell? ⟨sb, off + k, none⟩ = some (.string (M.bs t))) := ⟨HCL'.out _ HBE.out.drew, hcell⟩
      have HX1 : Hid (∀ W, Below (w.heap.size + 1) (w.alloc (.cells CL.toArray 34)) W → W.cell? ⟨sb, off + k, none⟩ = some (.string (M.bs t))) := fun W hW => by
        obtain ⟨sb2, off2, h1, h2⟩ := HTX.out W k t hW ht
        simp only [Option.some.injEq, Addr.mk.injEq, and_true] at h1
        obtain ⟨rfl, rfl⟩ := h1
        exact h2
      have htk : (L.take (k + 1)).flatten = (L.take k).flatten ++ t := by rw [List.take_add_one, ht, List.flatten_append]; simp
      have hkl : (L.take k).flatten.length ≤ 8000 := by
        have h1 := flat_len (L.take k) 1000 (fun t ht => hlen t (List.mem_of_mem_take ht))
        simp only [List.length_take] at h1; omega
      have htl := hlen t (List.mem_of_getElem? ht)
      have HKP : Hid (∀ W, Below (w.heap.size + 1) (w.alloc (.cells CL.toArray 34)) W → W.rangeAt w.heap.size 0 CL ∧ W.cell? ⟨sb, off + k, none⟩ = some (.string (M.bs t))) := fun W hW => ⟨HCL'.out W hW, HX1.out W hW⟩
      have happ : M.bs (L.take k).flatten ++ M.bs t = M.bs (L.take (k + 1)).flatten := by rw [htk, bs_append]
      have hz1 := M.bs_size (L.take k).flatten
      have hz2 := M.bs_size t
      have hz3 := M.bs_size (L.take (k + 1)).flatten
      rw [htk, List.length_append] at hz3
      rw [← htk] at hz3
      by_cases hkj : k < j
      · have hft := HFT.out k hkj
        rw [htD] at hft
        rw [hft] at hf1
        have CF1 : Hid (Calls Tryd.prog 27 #[.agg CL.toArray, .int .i64 (k : Int), .string (M.bs t)] wr.drew fun e w' => e = .returned (.bool true) ∧ Below (w.heap.size + 1) (w.alloc (.cells CL.toArray 34)) w') := hf1
        clear hf1 hft htD ht HTX CF CO HNW HR HX HFT HBD htk HX0
        go_wp2_with fail
        refine wp_region_noPanic ?_
        refine wp_region_held_drew (S := (fun W => W.rangeAt w.heap.size 0 CL ∧ W.cell? ⟨sb, off + k, none⟩ = some (.string (M.bs t)))) (by kernel_rfl) (HKP.out _ HBE.out.drew) (fun hHeld => ?_)
        refine wpAnyH_take (i := 0) (v := .agg (List.toArray CL)) rfl (by kernel_rfl) (by kernel_rfl) (by kernel_rfl) (fun _ _ _ h => h) (yieldsIf_load_mid (by kernel_rfl) _ (.tmp 2) (by kernel_rfl) w.heap.size 0 (by kernel_rfl) CL _ (fun W hW => hW.1) hum rfl hi34) (by assumption) ?_
        simp only [Act.put, List.getElem_toArray, List.getElem_cons_succ, List.getElem_cons_zero, List.setIfInBounds_toArray, List.set_cons_zero, List.set_cons_succ]
        refine wpAnyH_take (i := 1) rfl (by kernel_rfl) (by kernel_rfl) (by kernel_rfl) (fun _ _ _ h => h) (yi_move (by kernel_rfl) rfl rfl) (by assumption) ?_
        simp only [Act.put, List.getElem_toArray, List.getElem_cons_succ, List.getElem_cons_zero, List.setIfInBounds_toArray, List.set_cons_zero, List.set_cons_succ]
        refine wpAnyH_take (i := 2) rfl (by kernel_rfl) (by kernel_rfl) (by kernel_rfl) (fun _ _ _ h => h) (yi_move (by kernel_rfl) rfl rfl) (by assumption) ?_
        simp only [Act.put, List.getElem_toArray, List.getElem_cons_succ, List.getElem_cons_zero, List.setIfInBounds_toArray, List.set_cons_zero, List.set_cons_succ]
        refine wpAnyH_take (i := 3) rfl (by kernel_rfl) (by kernel_rfl) (by kernel_rfl) (fun _ _ _ h => h) (yi_move (by kernel_rfl) rfl rfl) (by assumption) ?_
        simp only [Act.put, List.getElem_toArray, List.getElem_cons_succ, List.getElem_cons_zero, List.setIfInBounds_toArray, List.set_cons_zero, List.set_cons_succ]
        refine wpAnyH_take (i := 4) (v := ?_) rfl (by kernel_rfl) (by kernel_rfl) (by kernel_rfl) (fun _ _ _ h => h) (Or.inl ⟨by kernel_rfl, ?_⟩) (by assumption) ?_
        rotate_left
        · (intro w hSw; (try dsimp only at hSw); go_simp; (try with_reducible rfl))
        simp only [Act.put, List.getElem_toArray, List.getElem_cons_succ, List.getElem_cons_zero, List.setIfInBounds_toArray, List.set_cons_zero, List.set_cons_succ]
        refine wpAnyH_take (i := 5) (v := ?_) rfl (by kernel_rfl) (by kernel_rfl) (by kernel_rfl) (fun _ _ _ h => h) (Or.inl ⟨by kernel_rfl, ?_⟩) (by assumption) ?_
        rotate_left
        · (intro w hSw; (try dsimp only at hSw); go_simp; (try with_reducible rfl))
        simp only [Act.put, List.getElem_toArray, List.getElem_cons_succ, List.getElem_cons_zero, List.setIfInBounds_toArray, List.set_cons_zero, List.set_cons_succ]
        refine wpAnyH_ready (rs := [6]) (by kernel_rfl) (by simp) ?_
        refine AllReadyH.cons (o := _) rfl (fun K hK => ?_) AllReadyH.nil
        go_simp
        (refine CF1.out.mono ?_; clear CF1; rintro e w9 ⟨rfl, HB9⟩; dsimp only)
        refine hK.out _ _ (HKP.out _ HB9) (fun hHeld => ?_)
        clear hK K
        (try simp only [Act.put, List.getElem_toArray, List.getElem_cons_succ, List.getElem_cons_zero, List.setIfInBounds_toArray, List.set_cons_zero, List.set_cons_succ])
        refine wpAnyH_take (i := 7) (v := ?_) rfl (by kernel_rfl) (by kernel_rfl) (by kernel_rfl) (fun _ _ _ h => h) (Or.inl ⟨by kernel_rfl, ?_⟩) (by assumption) ?_
        rotate_left
        · (intro w hSw; (try dsimp only at hSw); go_simp; (try with_reducible rfl))
        simp only [Act.put, List.getElem_toArray, List.getElem_cons_succ, List.getElem_cons_zero, List.setIfInBounds_toArray, List.set_cons_zero, List.set_cons_succ]
        refine wpAnyH_done (by kernel_rfl) ?_ _
        refine NoPanic.normal ?_
        have hcell2 := HX1.out _ HB9
        clear hcell HX1 HKP HCL'
        go_wp2_with fail
        go_roundw
        case rel => exact ⟨k + 1, by omega, rfl, by go_num, HB9⟩
        case measure => simp [intOf]; omega
      · obtain rfl : k = j := by omega
        have hft := HBD.out hlt
        rw [htD] at hft
        rw [hft] at hf1
        obtain ⟨rfl, rfl⟩ : X = [] ∧ E = 5 := by
          rcases HX.out with ⟨_, h1, h2⟩ | ⟨h, _⟩ | ⟨h, _⟩
          · exact ⟨h1, h2⟩
          · omega
          · omega
        have CF1 : Hid (Calls Tryd.prog 27 #[.agg CL.toArray, .int .i64 (k : Int), .string (M.bs t)] wr.drew fun e w' => e = .returned (.bool false) ∧ Below (w.heap.size + 1) (w.alloc (.cells CL.toArray 34)) w') := hf1
        clear hf1 hft htD ht HTX CF CO HNW HR HX HFT HBD htk HX0
        go_wp2_with fail
        refine wp_region_noPanic ?_
        refine wp_region_held_drew (S := (fun W => W.rangeAt w.heap.size 0 CL ∧ W.cell? ⟨sb, off + k, none⟩ = some (.string (M.bs t)))) (by kernel_rfl) (HKP.out _ HBE.out.drew) (fun hHeld => ?_)
        refine wpAnyH_take (i := 0) (v := .agg (List.toArray CL)) rfl (by kernel_rfl) (by kernel_rfl) (by kernel_rfl) (fun _ _ _ h => h) (yieldsIf_load_mid (by kernel_rfl) _ (.tmp 2) (by kernel_rfl) w.heap.size 0 (by kernel_rfl) CL _ (fun W hW => hW.1) hum rfl hi34) (by assumption) ?_
        simp only [Act.put, List.getElem_toArray, List.getElem_cons_succ, List.getElem_cons_zero, List.setIfInBounds_toArray, List.set_cons_zero, List.set_cons_succ]
        refine wpAnyH_take (i := 1) rfl (by kernel_rfl) (by kernel_rfl) (by kernel_rfl) (fun _ _ _ h => h) (yi_move (by kernel_rfl) rfl rfl) (by assumption) ?_
        simp only [Act.put, List.getElem_toArray, List.getElem_cons_succ, List.getElem_cons_zero, List.setIfInBounds_toArray, List.set_cons_zero, List.set_cons_succ]
        refine wpAnyH_take (i := 2) rfl (by kernel_rfl) (by kernel_rfl) (by kernel_rfl) (fun _ _ _ h => h) (yi_move (by kernel_rfl) rfl rfl) (by assumption) ?_
        simp only [Act.put, List.getElem_toArray, List.getElem_cons_succ, List.getElem_cons_zero, List.setIfInBounds_toArray, List.set_cons_zero, List.set_cons_succ]
        refine wpAnyH_take (i := 3) rfl (by kernel_rfl) (by kernel_rfl) (by kernel_rfl) (fun _ _ _ h => h) (yi_move (by kernel_rfl) rfl rfl) (by assumption) ?_
        simp only [Act.put, List.getElem_toArray, List.getElem_cons_succ, List.getElem_cons_zero, List.setIfInBounds_toArray, List.set_cons_zero, List.set_cons_succ]
        refine wpAnyH_take (i := 4) (v := ?_) rfl (by kernel_rfl) (by kernel_rfl) (by kernel_rfl) (fun _ _ _ h => h) (Or.inl ⟨by kernel_rfl, ?_⟩) (by assumption) ?_
        rotate_left
        · (intro w hSw; (try dsimp only at hSw); go_simp; (try with_reducible rfl))
        simp only [Act.put, List.getElem_toArray, List.getElem_cons_succ, List.getElem_cons_zero, List.setIfInBounds_toArray, List.set_cons_zero, List.set_cons_succ]
        refine wpAnyH_take (i := 5) (v := ?_) rfl (by kernel_rfl) (by kernel_rfl) (by kernel_rfl) (fun _ _ _ h => h) (Or.inl ⟨by kernel_rfl, ?_⟩) (by assumption) ?_
        rotate_left
        · (intro w hSw; (try dsimp only at hSw); go_simp; (try with_reducible rfl))
        simp only [Act.put, List.getElem_toArray, List.getElem_cons_succ, List.getElem_cons_zero, List.setIfInBounds_toArray, List.set_cons_zero, List.set_cons_succ]
        refine wpAnyH_ready (rs := [6]) (by kernel_rfl) (by simp) ?_
        refine AllReadyH.cons (o := _) rfl (fun K hK => ?_) AllReadyH.nil
        go_simp
        (refine CF1.out.mono ?_; clear CF1; rintro e w9 ⟨rfl, HB9⟩; dsimp only)
        refine hK.out _ _ (HKP.out _ HB9) (fun hHeld => ?_)
        clear hK K
        (try simp only [Act.put, List.getElem_toArray, List.getElem_cons_succ, List.getElem_cons_zero, List.setIfInBounds_toArray, List.set_cons_zero, List.set_cons_succ])
        refine wpAnyH_take (i := 7) (v := ?_) rfl (by kernel_rfl) (by kernel_rfl) (by kernel_rfl) (fun _ _ _ h => h) (Or.inl ⟨by kernel_rfl, ?_⟩) (by assumption) ?_
        rotate_left
        · (intro w hSw; (try dsimp only at hSw); go_simp; (try with_reducible rfl))
        simp only [Act.put, List.getElem_toArray, List.getElem_cons_succ, List.getElem_cons_zero, List.setIfInBounds_toArray, List.set_cons_zero, List.set_cons_succ]
        refine wpAnyH_done (by kernel_rfl) ?_ _
        refine NoPanic.normal ?_
        go_wp2_with fail
        go_ret2
        exact ⟨rfl, HB.out.trans (HB9.mono (by omega))⟩
    · have hkL : k = L.length := by omega
      have hjL : Hid (j = L.length) := by show _ = _; omega
      have htk : (L.take k).flatten = L.flatten := by rw [hkL, List.take_length]
      have hdf : ¬ (k : Int) < (L.length : Int) := by omega
      rw [htk]
      clear hkL htk
      have HKP : Hid (∀ W, Below (w.heap.size + 1) (w.alloc (.cells CL.toArray 34)) W → W.rangeAt w.heap.size 0 (whole.map vb)) := HR
      obtain ⟨q, hq⟩ : ∃ q, decide (S.sha L.flatten = whole) = q := ⟨_, rfl⟩
      have hEq : ∀ W, (Op.equalIn 10000 27 (.agg (dg (S.sha L.flatten))) (.agg (whole.map vb).toArray)).run Tryd.prog W = .ok q W := fun W => by rw [← hq]; exact eqDg (S.sha L.flatten) whole (S.sha_length _) hw W
      have hu := und27
      have hi : (Tryd.prog.info? 27).map (·.size) = some (whole.map vb).length := by rw [info27, List.length_map, hw]
      have hb := HBE.out
      have HQ : Hid (decide (S.sha L.flatten = whole) = q) := hq
      clear hq HTX CF HNW HR HFT HBD HCL' hi34
      obtain ⟨F, hF⟩ : ∃ F, F = L.flatten := ⟨_, rfl⟩
      rw [← hF] at CO hEq HX HQ
      rw [← hF]
      clear hF
      rcases Bool.eq_false_or_eq_true q with rfl | rfl
      · obtain ⟨rfl, rfl⟩ : X = F ∧ E = 0 := by
          have h0 : S.sha F = whole := of_decide_eq_true HQ.out
          have hjl := hjL.out
          rcases HX.out with ⟨h, _⟩ | ⟨_, _, h1, h2⟩ | ⟨_, h, _⟩
          · omega
          · exact ⟨h1, h2⟩
          · exact absurd h0 h
        clear HX HQ hw
        go_wp2_with fail
        go_region_held3 (fun W => W.rangeAt w.heap.size 0 (whole.map vb))
          (first | exact HKP.out _ HS | exact HKP.out _ hb.drew)
          ((go_at_call 11; refine (CO.out _ hb.drew).mono ?_; rintro e w' ⟨rfl, HS⟩))
        go_wp2_with fail
        go_ret2
        exact ⟨rfl, HB.out.trans (HS.mono (by omega))⟩
      · obtain ⟨rfl, rfl⟩ : X = [] ∧ E = 5 := by
          have h0 : ¬ S.sha F = whole := of_decide_eq_false HQ.out
          have hjl := hjL.out
          rcases HX.out with ⟨h, _⟩ | ⟨_, h, _, _⟩ | ⟨_, _, h1, h2⟩
          · omega
          · exact absurd h h0
          · exact ⟨h1, h2⟩
        clear HX HQ hw
        go_wp2_with fail
        go_region_held3 (fun W => W.rangeAt w.heap.size 0 (whole.map vb))
          (first | exact HKP.out _ HS | exact HKP.out _ hb.drew)
          ((go_at_call 11; refine (CO.out _ hb.drew).mono ?_; rintro e w' ⟨rfl, HS⟩))
        go_wp2_with fail
        go_ret2
        exact ⟨rfl, HB.out.trans (HS.mono (by omega))⟩

end Go.Proofs.YtkbggcmjicaifaaDoor
