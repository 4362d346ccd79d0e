/- What the reference's Encode answers. -/
import Derived.Test.YtahdmhenkjbimaaDoorJ1
import Derived.Test.YtahdmhenkjbimaaDoorK2
import Derived.Test.YtahdmhenkjbimaaDoorR1
import Derived.Test.YtahdmhenkjbimaaDoorRegT
namespace Go.Proofs.YtahdmhenkjbimaaDoor
open Go.RowKit
set_option linter.unusedVariables false
set_option linter.unusedSimpArgs false

/-- a manifest's bytes -/
def encB (wh : List UInt8) (sz : Int) (P : List (List UInt8)) : List UInt8 := M.rowB [wh, M.numB sz, P.flatten]
theorem dgs_flat (P : List (List UInt8)) (h : ∀ d ∈ P, d.length = 32) : P.flatten.length = 32 * P.length := by
  induction P with
  | nil => rfl
  | cons d P ih => rw [List.flatten_cons, List.length_append, h d (by simp), ih (fun d hd => h d (by simp [hd])), List.length_cons]; omega
theorem Dgs.len {B : Nat} {w : World} {a : Option Addr} {P : List (List UInt8)} (h : Dgs B w a P) : ∀ d ∈ P, d.length = 32 := fun d hd => by
  obtain ⟨i, hi, rfl⟩ := List.getElem_of_mem hd
  exact (h i _ (List.getElem?_eq_getElem hi)).1
theorem encB_len (wh : List UInt8) (sz : Int) (P : List (List UInt8)) (hw : wh.length = 32) (hP : P.flatten.length ≤ 1000) : (encB wh sz P).length ≤ 4000 := by
  have := rowB_le [wh, M.numB sz, P.flatten] 1000 (fun t ht => by
    have := M.numB_len sz
    simp only [List.mem_cons, List.not_mem_nil, or_false] at ht
    rcases ht with rfl | rfl | rfl <;> omega)
  unfold encB
  simp at this; omega

set_option maxRecDepth 8000 in
theorem rEncode_no (wh : List UInt8) (sz : Int) (pa : Option Addr) (n pc : Nat) (w : World) (hw : wh.length = 32) (hno : goodB sz n = false) :
    Calls Tryd.prog 7 #[.agg (mv wh sz pa n pc)] w fun e w' => e = .returned (.tuple #[.string ⟨#[]⟩, .int .i64 1]) ∧ Below w.heap.size w w' := by
  have hsz := mv_size wh sz pa n pc hw
  obtain ⟨fs, hum⟩ := und27m
  have CG : Hid (∀ W, Calls Tryd.prog 22 #[.agg (mv wh sz pa n pc)] W fun e w' => e = .returned (.bool false) ∧ Below W.heap.size W w') := fun W => by
    rw [← hno]; exact rGood_at wh sz pa n pc W hw
  clear hno
  generalize mv wh sz pa n pc = C at *
  have HN : Hid ((w.alloc (.cells C 26)).heap[w.heap.size]? = some (.cells C 26 (0, 0))) := heap_alloc_new _ _
  have HB : Hid (Below w.heap.size w (w.alloc (.cells C 26))) := (Below.refl _ w).alloc (Nat.le_refl _) _
  have H1 : Hid (w.heap.size ≤ (w.alloc (.cells C 26)).heap.size) := by show _ ≤ _; simp
  go_enter Tryd.func7, Tryd.ntmps7
  go_wp2_with (first
    | (refine wpList_load_row rfl 26 _ rfl w.heap.size rfl 26 C (0, 0) _ HN.out hum rfl (by rw [hsz]; exact info27m) ?_; clear HN)
    | (go_at_call 22; refine (CG.out _).mono ?_; clear CG; rintro e w1 ⟨rfl, hb⟩))
  go_ret2
  exact ⟨rfl, HB.out.trans (hb.mono H1.out)⟩

set_option maxRecDepth 8000 in
set_option maxHeartbeats 2000000 in
theorem rEncode_at (wh : List UInt8) (sz : Int) (P : List (List UInt8)) (pa : Option Addr) (pc : Nat) (w : World) (hw : wh.length = 32) (hP : Dgs w.heap.size w pa P) (hgd : goodB sz P.length = true) :
    Calls Tryd.prog 7 #[.agg (mv wh sz pa P.length pc)] w fun e w' => e = .returned (.tuple #[.string (M.bs (encB wh sz P)), .int .i64 0]) ∧ Below w.heap.size w w' := by
  have h33 := mv_33 wh sz pa P.length pc hw
  have h32 := mv_32 wh sz pa P.length pc hw
  have hsz := mv_size wh sz pa P.length pc hw
  have hPn : P.length ≤ 8 := by unfold goodB at hgd; simp only [decide_eq_true_eq] at hgd; unfold S.nch at hgd; omega
  have hszb : 0 ≤ sz ∧ sz ≤ 512 := by unfold goodB at hgd; simp only [decide_eq_true_eq] at hgd; omega
  obtain ⟨fs, hum⟩ := und27m
  have hB0 : Below w.heap.size w (w.alloc (.cells (mv wh sz pa P.length pc) 26)) := (Below.refl _ w).alloc (Nat.le_refl _) _
  have hlen : ∀ d ∈ P, d.length = 32 := hP.len
  have hfl := dgs_flat P hlen
  obtain ⟨C, hC⟩ : ∃ C, C = mv wh sz pa P.length pc := ⟨_, rfl⟩
  have CG : Hid (∀ W, Calls Tryd.prog 22 #[.agg C] W fun e w' => e = .returned (.bool true) ∧ Below W.heap.size W w') := fun W => by
    rw [← hgd, hC]; exact rGood_at wh sz pa P.length pc W hw
  have HN : Hid ((w.alloc (.cells C 26)).heap[w.heap.size]? = some (.cells C 26 (0, 0))) := heap_alloc_new _ _
  have HNW : Hid (∀ W, Below (w.heap.size + 1) (w.alloc (.cells C 26)) W → W.heap[w.heap.size]? = some (.cells C 26 (0, 0))) := fun W hW => by rw [hW.block _ (by omega)]; exact HN.out
  have HR : Hid (∀ W, Below (w.heap.size + 1) (w.alloc (.cells C 26)) W → W.rangeAt w.heap.size 0 (wh.map vb)) := fun W hW => mv_range wh sz pa P.length pc (by rw [← hC]; exact HNW.out W hW) hw
  have HC : Hid (∀ W, Below (w.heap.size + 1) (w.alloc (.cells C 26)) W → W.cell? ⟨w.heap.size, 33, none⟩ = some (.slice pa P.length pc)) := fun W hW => by
    rw [cell_of_row _ _ 33 _ _ _ (HNW.out W hW), hC]; exact h33
  have HC2 : Hid (∀ W, Below (w.heap.size + 1) (w.alloc (.cells C 26)) W → W.cell? ⟨w.heap.size, 32, none⟩ = some (.int .i64 sz)) := fun W hW => by
    rw [cell_of_row _ _ 32 _ _ _ (HNW.out W hW), hC]; exact h32
  have H1 : Hid ((w.alloc (.cells C 26)).heap.size = w.heap.size + 1) := by show _ = _; simp
  have HDG : Hid (∀ W k d, Below (w.heap.size + 1) (w.alloc (.cells C 26)) W → P[k]? = some d → d.length = 32 ∧ ∃ b off, pa = some ⟨b, off, none⟩ ∧ W.rangeAt b (off + k * 32) (d.map vb)) := fun W k d hW hd => by
    have hWs := hW.size
    rw [H1.out] at hWs
    obtain ⟨h0, b, off, h1, h2, h3⟩ := hP.below (B' := W.heap.size) ((hC ▸ hB0).trans (hW.mono (by omega))) (by omega) k d hd
    exact ⟨h0, b, off, h1, h3⟩
  have CB : Hid (∀ W d, d.length = 32 → Below (w.heap.size + 1) (w.alloc (.cells C 26)) W → Calls Tryd.prog 23 #[.agg (List.toArray (d.map vb))] W fun e w' => e = .returned (.string (M.bs d)) ∧ Below (w.heap.size + 1) (w.alloc (.cells C 26)) w') := fun W d hd hW => by
    have hWs := hW.size
    rw [H1.out] at hWs
    refine (rBytes_at d hd W).mono ?_
    rintro e w' ⟨rfl, hb⟩
    exact ⟨rfl, hW.trans (hb.mono hWs)⟩
  have CN : Hid (∀ W, Below (w.heap.size + 1) (w.alloc (.cells C 26)) W → Calls Tryd.prog 25 #[.int .i64 sz] W fun e w' => e = .returned (.string (M.bs (M.numB sz))) ∧ Below (w.heap.size + 1) (w.alloc (.cells C 26)) w') := fun W hW => by
    have hWs := hW.size
    rw [H1.out] at hWs
    refine (refNum_any sz W (by omega) (by omega)).mono ?_
    rintro e w' ⟨rfl, hb⟩
    exact ⟨rfl, hW.trans (hb.mono hWs)⟩
  have CR : Hid (∀ W, Below (w.heap.size + 1) (w.alloc (.cells C 26)) W → Calls Tryd.prog 24 #[.slice (some ⟨W.heap.size, 0, none⟩) 3 3] (W.alloc (.cells #[.string (M.bs wh), .string (M.bs (M.numB sz)), .string (M.bs P.flatten)] 9)) fun e w' => e = .returned (.string (M.bs (encB wh sz P))) ∧ Below (w.heap.size + 1) (w.alloc (.cells C 26)) w') := fun W hW => by
    have hWs := hW.size
    rw [H1.out] at hWs
    have hl := encB_len wh sz P hw (by omega)
    have hA : Below W.heap.size W (W.alloc (.cells #[.string (M.bs wh), .string (M.bs (M.numB sz)), .string (M.bs P.flatten)] 9)) := (Below.refl _ W).alloc (Nat.le_refl _) _
    refine (refRow_any (some ⟨W.heap.size, 0, none⟩) 3 [wh, M.numB sz, P.flatten] _ (fun i t ht => ⟨W.heap.size, 0, rfl, by simp, ?_⟩) (by unfold encB at hl; omega) (by simp)).mono ?_
    · rw [Nat.zero_add, cell_of_row _ _ i _ _ _ (heap_alloc_new W _)]
      rcases i with _ | _ | _ | i
      · obtain rfl := Option.some.inj ht; rfl
      · obtain rfl := Option.some.inj ht; rfl
      · obtain rfl := Option.some.inj ht; rfl
      · simp at ht
    · rintro e w' ⟨rfl, hb⟩
      exact ⟨rfl, hW.trans ((hA.trans (hb.mono hA.size)).mono hWs)⟩
  have HB : Hid (Below w.heap.size w (w.alloc (.cells C 26))) := by rw [hC]; exact hB0
  rw [← hC]
  rw [← hC] at hsz
  clear h33 h32 hB0 hC hP hgd
  have HSZ : Hid (∀ W, Below (w.heap.size + 1) (w.alloc (.cells C 26)) W → w.heap.size + 1 ≤ W.heap.size) := fun W hW => by have := hW.size; rw [H1.out] at this; exact this
  have HFL : Hid (∀ k, (P.take k).flatten.length ≤ 256) := fun k => by
    have h := dgs_flat (P.take k) (fun d hd => hlen d (List.mem_of_mem_take hd))
    rw [h, List.length_take]; omega
  clear hlen hfl
  go_enter Tryd.func7, Tryd.ntmps7
  go_wp2_with (first
    | (refine wpList_load_row rfl 26 _ rfl w.heap.size rfl 26 C (0, 0) _ HN.out hum rfl (by rw [hsz]; exact info27m) ?_; clear HN)
    | (go_at_call 22; refine (CG.out _).mono ?_; clear CG; rintro e w1 ⟨rfl, hb⟩; rw [H1.out] at hb))
  have HB1 : Hid (Below (w.heap.size + 1) (w.alloc (.cells C 26)) w1) := hb
  clear hb
  obtain ⟨q, hq⟩ : ∃ q, q = w.heap.size := ⟨_, rfl⟩
  rw [← hq]
  rw [← hq] at HC HC2 HR HNW HDG CB CN CR HSZ HB1 H1
  have HQ : Hid (w.heap.size = q) := hq.symm
  have HKP : Hid (∀ W, Below (q + 1) (w.alloc (.cells C 26)) W → W.rangeAt q 0 (wh.map vb) ∧ W.cell? ⟨q, 32, none⟩ = some (.int .i64 sz)) := fun W hW => ⟨HR.out W hW, HC2.out W hW⟩
  clear HR HC2 hq hsz
  go_loopw [4, 5] (fun u4 u5 wr => ∃ k : Nat, k ≤ P.length ∧ u4 = .string (M.bs (P.take k).flatten) ∧ u5 = .int .i64 k ∧ Below (q + 1) (w.alloc (.cells C 26)) wr) (fun _ u5 _ => P.length - (intOf u5).toNat)
  case atStart => exact ⟨0, Nat.zero_le _, rfl, rfl, HB1.out⟩
  case round =>
    clear HB1
    obtain ⟨k, hk, rfl, rfl, hbe⟩ := hrel
    have HBE : Hid (Below (q + 1) (w.alloc (.cells C 26)) wr) := hbe
    clear hbe
    have hc := HC.out wr HBE.out
    by_cases hlt : k < P.length
    · obtain ⟨d, hd⟩ : ∃ d, P[k]? = some d := ⟨P[k], List.getElem?_eq_getElem hlt⟩
      obtain ⟨hdl, b, off, rfl, hrd⟩ := HDG.out wr k d HBE.out hd
      have HRD : Hid (wr.rangeAt b (off + k * 32) (d.map vb)) := hrd
      have hi : (Tryd.prog.info? 23).map (·.size) = some (d.map vb).length := by rw [info27, List.length_map, hdl]
      have hu := und27
      have CB1 : Hid (Calls Tryd.prog 23 #[.agg (List.toArray (d.map vb))] wr fun e w' => e = .returned (.string (M.bs d)) ∧ Below (q + 1) (w.alloc (.cells C 26)) w') := CB.out wr d hdl HBE.out
      have hk0 : (0 : Int) ≤ (k : Int) := by omega
      have hk1 : (k : Int) < (P.length : Int) := by omega
      have htk : (P.take (k + 1)).flatten = (P.take k).flatten ++ d := by rw [List.take_add_one, hd, List.flatten_append]; simp
      have happ : M.bs (P.take k).flatten ++ M.bs d = M.bs (P.take (k + 1)).flatten := by rw [htk, bs_append]
      have hz1 := M.bs_size (P.take k).flatten
      have hz2 := M.bs_size d
      have hz3 := HFL.out k
      clear htk hd hrd HKP CB CN CR HDG HNW
      go_wp2_with (first
        | (refine wpList_load_mid rfl 23 _ rfl b (off + k * 32) rfl (d.map vb) _ HRD.out und27 rfl hi ?_)
        | (go_at_call 23; refine CB1.out.mono ?_; clear CB1; rintro e w9 ⟨rfl, HB9⟩))
      go_roundw
      case rel => exact ⟨k + 1, by omega, rfl, by go_num, HB9⟩
      case measure => simp [intOf]; omega
    · have hkL : k = P.length := by omega
      have hdf : ¬ (k : Int) < (P.length : Int) := by omega
      have htk : (P.take k).flatten = P.flatten := by rw [hkL, List.take_length]
      rw [htk]
      clear hkL htk HDG HFL
      have CB1 : Hid (∀ W, Below (q + 1) (w.alloc (.cells C 26)) W → Calls Tryd.prog 23 #[.agg (List.toArray (wh.map vb))] W fun e w' => e = .returned (.string (M.bs wh)) ∧ Below (q + 1) (w.alloc (.cells C 26)) w') := fun W hW => CB.out W wh hw hW
      have hi27 : (Tryd.prog.info? 23).map (·.size) = some (wh.map vb).length := by rw [info27, List.length_map, hw]
      clear CB hw
      generalize P.flatten = F at *
      go_wp2_with fail
      refine wp_region_noPanic ?_
      refine wp_region_held_drew (S := (fun W => W.rangeAt q 0 (wh.map vb) ∧ W.cell? ⟨q, 32, none⟩ = some (.int .i64 sz))) (by kernel_rfl) (HKP.out _ HBE.out.drew) (fun hHeld => ?_)
      refine wpAnyH_take (i := 0) (v := ?_) rfl (by kernel_rfl) (by kernel_rfl) (by kernel_rfl) (fun _ _ _ h => h) (Or.inl ⟨by kernel_rfl, ?_⟩) (by assumption) ?_
      rotate_left
      · (intro w hSw; (try dsimp only at hSw); go_simp; (try with_reducible rfl))
      simp only [Act.put, List.getElem_toArray, List.getElem_cons_succ, List.getElem_cons_zero, List.setIfInBounds_toArray, List.set_cons_zero, List.set_cons_succ]
      refine wpAnyH_take (i := 1) (v := .agg (List.toArray (wh.map vb))) rfl (by kernel_rfl) (by kernel_rfl) (by kernel_rfl) (fun _ _ _ h => h) (yieldsIf_load_mid (by kernel_rfl) _ (.tmp 24) (by kernel_rfl) q 0 (by kernel_rfl) (wh.map vb) _ (fun W hW => hW.1) und27 rfl hi27) (by assumption) ?_
      simp only [Act.put, List.getElem_toArray, List.getElem_cons_succ, List.getElem_cons_zero, List.setIfInBounds_toArray, List.set_cons_zero, List.set_cons_succ]
      refine wpAnyH_take (i := 3) (v := ?_) rfl (by kernel_rfl) (by kernel_rfl) (by kernel_rfl) (fun _ _ _ h => h) (Or.inl ⟨by kernel_rfl, ?_⟩) (by assumption) ?_
      rotate_left
      · (intro w hSw; (try dsimp only at hSw); go_simp; (try with_reducible rfl))
      simp only [Act.put, List.getElem_toArray, List.getElem_cons_succ, List.getElem_cons_zero, List.setIfInBounds_toArray, List.set_cons_zero, List.set_cons_succ]
      refine wpAnyH_take (i := 4) (v := ?_) rfl (by kernel_rfl) (by kernel_rfl) (by kernel_rfl) (fun _ _ _ h => h) (Or.inl ⟨by kernel_rfl, ?_⟩) (by assumption) ?_
      rotate_left
      · (intro w hSw; (try dsimp only at hSw); go_simp; (try with_reducible rfl))
      simp only [Act.put, List.getElem_toArray, List.getElem_cons_succ, List.getElem_cons_zero, List.setIfInBounds_toArray, List.set_cons_zero, List.set_cons_succ]
      refine wpAnyH_take (i := 6) rfl (by kernel_rfl) (by kernel_rfl) (by kernel_rfl) (fun _ _ _ h => h) (yi_move (by kernel_rfl) rfl rfl) (by assumption) ?_
      simp only [Act.put, List.getElem_toArray, List.getElem_cons_succ, List.getElem_cons_zero, List.setIfInBounds_toArray, List.set_cons_zero, List.set_cons_succ]
      refine wpAnyH_ready (rs := [2]) (by kernel_rfl) (by simp) ?_
      refine AllReadyH.cons (o := _) rfl (fun K hK => ?_) AllReadyH.nil
      go_simp
      (refine (CB1.out _ HBE.out.drew).mono ?_; rintro e w6 ⟨rfl, HB6⟩; dsimp only)
      refine hK.out _ _ (HKP.out _ HB6) (fun hHeld => ?_)
      clear hK K
      (try simp only [Act.put, List.getElem_toArray, List.getElem_cons_succ, List.getElem_cons_zero, List.setIfInBounds_toArray, List.set_cons_zero, List.set_cons_succ])
      refine wpAnyH_ready (rs := [5]) (by kernel_rfl) (by simp) ?_
      refine AllReadyH.cons (o := _) rfl (fun K hK => ?_) AllReadyH.nil
      go_simp
      (refine (CN.out _ HB6).mono ?_; rintro e w7 ⟨rfl, HB7⟩; dsimp only)
      refine hK.out _ _ (HKP.out _ HB7) (fun hHeld => ?_)
      clear hK K
      (try simp only [Act.put, List.getElem_toArray, List.getElem_cons_succ, List.getElem_cons_zero, List.setIfInBounds_toArray, List.set_cons_zero, List.set_cons_succ])
      refine wpAnyH_ready (rs := [7]) (by kernel_rfl) (by simp) ?_
      refine AllReadyH.cons (o := _) rfl (fun K hK => ?_) AllReadyH.nil
      go_simp
      refine hK.out _ _ (HKP.out _ (HB7.alloc (HSZ.out _ HB7) _)) (fun hHeld => ?_)
      clear hK K
      (try simp only [Act.put, List.getElem_toArray, List.getElem_cons_succ, List.getElem_cons_zero, List.setIfInBounds_toArray, List.set_cons_zero, List.set_cons_succ])
      refine wpAnyH_ready (rs := [8]) (by kernel_rfl) (by simp) ?_
      refine AllReadyH.cons (o := _) rfl (fun K hK => ?_) AllReadyH.nil
      go_simp
      (refine (CR.out _ HB7).mono ?_; rintro e w9 ⟨rfl, HB9⟩; dsimp only)
      refine hK.out _ _ (HKP.out _ HB9) (fun hHeld => ?_)
      clear hK K
      (try simp only [Act.put, List.getElem_toArray, List.getElem_cons_succ, List.getElem_cons_zero, List.setIfInBounds_toArray, List.set_cons_zero, List.set_cons_succ])
      refine wpAnyH_take (i := 9) rfl (by kernel_rfl) (by kernel_rfl) (by kernel_rfl) (fun _ _ _ h => h) (yi_assign (by kernel_rfl) rfl rfl) (by assumption) ?_
      simp only [Act.put, List.getElem_toArray, List.getElem_cons_succ, List.getElem_cons_zero, List.setIfInBounds_toArray, List.set_cons_zero, List.set_cons_succ]
      refine wpAnyH_take (i := 10) rfl (by kernel_rfl) (by kernel_rfl) (by kernel_rfl) (fun _ _ _ h => h) (yi_assign (by kernel_rfl) rfl rfl) (by assumption) ?_
      simp only [Act.put, List.getElem_toArray, List.getElem_cons_succ, List.getElem_cons_zero, List.setIfInBounds_toArray, List.set_cons_zero, List.set_cons_succ]
      refine wpAnyH_done (by kernel_rfl) ?_ _
      refine NoPanic.normal ?_
      go_wp2_with fail
      go_ret2
      exact ⟨rfl, HB.out.trans (HB9.mono (by rw [HQ.out]; omega))⟩
end Go.Proofs.YtahdmhenkjbimaaDoor
