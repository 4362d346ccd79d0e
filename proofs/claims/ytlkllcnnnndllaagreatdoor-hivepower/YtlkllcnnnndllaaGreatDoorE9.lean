/- What hive.seal answers. -/
import Derived.Test.YtlkllcnnnndllaaGreatDoorE8
import Derived.Deep.AppendLies
import Derived.Laws.OwnMore
namespace Go.Proofs.YtlkllcnnnndllaaGreatDoor
open Go.RowKit
set_option linter.unusedVariables false
set_option linter.unusedSimpArgs false
attribute [local go_sem ↓] zero27
attribute [local go_sem ↓] zero75

theorem und75 : ∃ fs, Tryz.prog.underlying 74 = some (.struct fs) := ⟨_, Tryz.underlying74⟩
theorem info75 : (Tryz.prog.info? 74).map (·.size) = some 65 := by kernel_rfl
theorem ev_size {k d c : List UInt8} (h : d.length = 32) (hc : c.length = 32) : (ev k d c).size = 65 := by rw [ev, List.size_toArray]; exact evL_length h hc
theorem ev_one (k d c : List UInt8) : (ev k d c).all (·.oneCell') = true := all_oneCell_toArray (evL_one k d c)
theorem convB (W : World) (b : Nat) (l : List UInt8) (c : Nat) (h : W.rangeAt b 0 (l.map vb)) : (convert 111 9 (.slice (some ⟨b, 0, none⟩) l.length c)).run Tryz.prog W = .ok (.string (M.bs l)) W :=
  run_convert_bytes_back (P := Tryz.prog) _ 111 9 5 ⟨b, 0, none⟩ c l Tryz.underlying111 Tryz.underlying5 Tryz.underlying9 (fun j hj => by
    have e : (⟨b, 0, none⟩ : Addr).add j = ⟨b, 0 + j, none⟩ := Addr.add_mid b 0 j
    rw [e]
    exact h j _ (by simp [hj]))
theorem info_partsV {o : Option TypeInfo} {z : Option Value} {s b : Nat} (h : o.map (fun i => (i.zero, i.size, i.bytes)) = some (z, s, b)) : ∃ i, o = some i ∧ i.zero = z ∧ i.size = s ∧ i.bytes = b := by
  cases o with
  | none => simp at h
  | some i => simp at h; exact ⟨i, rfl, h.1, h.2.1, h.2.2⟩
theorem range_setRow {W : World} {b o g : Nat} {cs : List Value} {D : Array Value} (h : W.rangeAt b o cs) (hne : b ≠ g) : (W.setRow g D).rangeAt b o cs := fun j v hv => by
  rw [← h j v hv]
  refine World.cell?_of_block (w := W) ?_
  show (W.heap.modify g _)[b]? = _
  rw [Array.getElem?_modify, if_neg (fun e => hne e.symm)]
theorem und9s : Tryz.prog.underlying 27 = some (.slice 9) := Tryz.underlying27

set_option maxRecDepth 8000 in
set_option maxHeartbeats 4000000 in
theorem seal_at (d kind : List UInt8) (PL : List (List UInt8)) (sb off c : Nat) (w : World) (hG : GW w) (hd : d.length = 32) (hp0 : 0 < PL.length) (hp3 : PL.length ≤ 3) (hk : kind.length ≤ 640) (hpl : ∀ t ∈ PL, t.length ≤ 640)
    (hsb : sb < w.heap.size) (hv : ∀ i t, PL[i]? = some t → w.cell? ⟨sb, off + i, none⟩ = some (.string (M.bs t))) :
    Calls Tryz.prog 52 #[.agg (dg d), .string (M.bs kind), .slice (some ⟨sb, off, none⟩) PL.length c] w fun e w' => e = .returned (.tuple #[.agg (ev kind d (S.sha (M.rowB (kind :: PL)))), .string (M.bs (V.sealB (kind :: PL)))]) ∧ Below w.heap.size w w' := by
  have hrl : (M.rowB (kind :: PL)).length ≤ 4000 := by
    have := rowB_le (kind :: PL) 640 (fun t ht => by rcases List.mem_cons.1 ht with rfl | h; exact hk; exact hpl t h)
    simp only [List.length_cons] at this
    have : (PL.length + 1) * (640 + 9) ≤ 4 * 649 := Nat.mul_le_mul (by omega) (Nat.le_refl _)
    omega
  obtain ⟨i0, hi0, hz0, hz1, hz2⟩ := info_partsV (show (Tryz.prog.info? 9).map (fun i => (i.zero, i.size, i.bytes)) = some (some (.string ⟨#[]⟩), 1, 16) by kernel_rfl)
  have hsq : V.sealB (kind :: PL) = S.sha (M.rowB (kind :: PL)) ++ M.rowB (kind :: PL) := rfl
  obtain ⟨R, hR⟩ : ∃ R, R = M.rowB (kind :: PL) := ⟨_, rfl⟩
  rw [hsq, ← hR]
  rw [← hR] at hrl
  obtain ⟨CK, hCK⟩ : ∃ CK, CK = S.sha R := ⟨_, rfl⟩
  have hck : CK.length = 32 := by rw [hCK]; exact S.sha_length _
  rw [← hCK]
  have HB73 : Hid (∀ w, (Instr.build 72 #[(0, .string (M.bs kind)), (1, .agg (dg d))]).run Tryz.prog w = .ok (.agg (nmv kind d)) w) := build73 kind d hd
  have HB75 : Hid (∀ w, (Instr.build 74 #[(0, .agg (nmv kind d)), (1, .agg (dg CK))]).run Tryz.prog w = .ok (.agg (ev kind d CK)) w) := build75 kind d CK hd hck
  have hes := ev_size (k := kind) hd hck
  have he0 := ev_size (k := []) zd_length zd_length
  have hz32 := zero32_size
  have hDs : (dg CK).size = 32 := by rw [dg_size, hck]
  have hD1 := dg_one CK
  have hiD : (Tryz.prog.info? 39).map (·.size) = some (d.map vb).length := by rw [info27, List.length_map, hd]
  have hiC : (Tryz.prog.info? 39).map (·.size) = some (CK.map vb).length := by rw [info27, List.length_map, hck]
  obtain ⟨fs5, hum5⟩ := und75
  have HST : Hid (∀ W : World, (W.alloc (.cells zero32 39)).heap[W.heap.size]? = some (.cells zero32 39 (0, 0))) := hst32
  -- the worlds
  obtain ⟨W0, hW0⟩ : ∃ W0, W0 = (w.alloc (.cells (dg d) 39)).alloc (.cells (ev [] V.zd V.zd) 74) := ⟨_, rfl⟩
  have h0s : W0.heap.size = w.heap.size + 1 + 1 := by rw [hW0]; simp
  have hB0 : Below w.heap.size w W0 := by rw [hW0]; exact ((Below.refl _ w).alloc (Nat.le_refl _) _).alloc (by simp) _
  have hG0 : GW W0 := hG.below hB0 hG.z
  have hW0n : W0.heap[w.heap.size]? = some (.cells (dg d) 39 (0, 0)) := by rw [hW0, Below.heap_alloc _ _ _ (by simp)]; exact heap_alloc_new _ _
  have hW0e : W0.heap[w.heap.size + 1]? = some (.cells (ev [] V.zd V.zd) 74 (0, 0)) := by rw [hW0]; exact new2 _ _ _
  have HE : Hid (∀ W, GB W0 W → Below w.heap.size w W ∧ W.heap[w.heap.size + 1]? = some (.cells (ev [] V.zd V.zd) 74 (0, 0)) ∧ W.rangeAt w.heap.size 0 (d.map vb)) := fun W hW =>
    ⟨hB0.trans (hW.b.mono (by omega)), by rw [hW.b.block _ (by omega)]; exact hW0e, range_part (C := dg d) (T := 39) (by rw [hW.b.block _ (by omega)]; exact hW0n) [] (d.map vb) [] 0 (by simp [dg]) rfl⟩
  have OWN : Hid ((W0.alloc (.cells #[.string (M.bs kind)] 9)).ownsRow (w.heap.size + 1 + 1) 9 1 (.slice (some ⟨w.heap.size + 1 + 1, 0, none⟩) 1 1) 1 [.string (M.bs kind)]) := by
    have h := World.ownsRow_lit (base := w.heap.size + 1 + 1) (e := 9) (size := 1) W0 #[.string (M.bs kind)] 1 (by omega) (by decide) (by simp)
    rw [h0s] at h
    exact h
  have NEWS : Hid (∀ j u, (PL.map encS)[j]? = some u → (W0.alloc (.cells #[.string (M.bs kind)] 9)).cell? ((⟨sb, off, none⟩ : Addr).add j) = some u) := fun j u hu => by
    rw [Addr.add_mid]
    rw [List.getElem?_map] at hu
    cases hp : PL[j]? with
    | none => rw [hp] at hu; simp at hu
    | some t =>
      rw [hp] at hu
      simp only [Option.map_some, Option.some.injEq] at hu
      subst hu
      have hB1 : Below w.heap.size w (W0.alloc (.cells #[.string (M.bs kind)] 9)) := hB0.alloc (by omega) _
      rw [hB1.cell (p := ⟨sb, off + j, none⟩) hsb]
      exact hv j t hp
  have hn1 : ∀ u ∈ PL.map encS, u.oneCell' = true := fun u hu => by obtain ⟨t, _, rfl⟩ := List.mem_map.1 hu; rfl
  have CRW : Hid (∀ (W : World) g cap, GB W0 W → W.ownsRow (w.heap.size + 1 + 1) 9 1 (.slice (some ⟨g, 0, none⟩) (1 + PL.length) cap) (1 + PL.length) ([.string (M.bs kind)] ++ PL.map encS) → Calls Tryz.prog 68 #[.slice (some ⟨g, 0, none⟩) (1 + PL.length) cap] W fun e w' => e = .returned (.string (M.bs R)) ∧ GB W0 w') := fun W g cap hW hown => by
    have hown' : W.ownsRow (w.heap.size + 1 + 1) 9 1 (.slice (some ⟨g, 0, none⟩) (1 + PL.length) cap) (kind :: PL).length ((kind :: PL).map encS) := by
      rw [List.length_cons, Nat.add_comm PL.length 1]
      exact hown
    refine (row_any _ (kind :: PL) W (strs_of_owns hown') (by rw [← hR]; omega) (by simp; omega)).mono ?_
    rintro e w' ⟨rfl, hb⟩
    exact ⟨by rw [hR], hW.step hb⟩
  have CO : Hid (∀ W T, GB W0 W → Calls Tryz.prog 18 #[.slice (some ⟨W.heap.size, 0, none⟩) 1 1] (W.alloc (.cells #[.string (M.bs R)] T)) fun e w' => e = .returned (.agg (dg CK)) ∧ GB W0 w') := fun W T hW => by
    refine (Of_g R T (GB.refl hW.g) (by omega)).mono ?_
    rintro e w' ⟨rfl, hg⟩
    exact ⟨by rw [hCK], hW.step hg.b⟩
  have HGA : Hid (∀ w', (W0.alloc (.cells #[.string (M.bs kind)] 9)).grownBy w' (some (w.heap.size + 1 + 1)) → GB W0 w') := fun w' hg => by
    have hB : Below (w.heap.size + 1 + 1) W0 (W0.alloc (.cells #[.string (M.bs kind)] 9)) := (Below.refl _ _).alloc (by omega) _
    have hB2 : Below (w.heap.size + 1 + 1) W0 w' := hB.grown hg (by simp; omega) (fun k hk => by cases hk; omega)
    exact ⟨hG0.below hB2 (by have := hG0.z; omega), by rw [h0s]; exact hB2⟩
  have HFIN : Hid (Ending.returned (.tuple #[.agg (ev kind d CK), .string (M.bs CK ++ M.bs R)]) = .returned (.tuple #[.agg (ev kind d CK), .string (M.bs (CK ++ R))])) := by show _ = _; rw [bs_append]
  have HCV : Hid (∀ (W : World) b, W.rangeAt b 0 (CK.map vb) → (convert 111 9 (.slice (some ⟨b, 0, none⟩) 32 32)).run Tryz.prog W = .ok (.string (M.bs CK)) W) := fun W b h => by
    have := convB W b CK 32 h
    rwa [hck] at this
  have HNO : Hid (¬ (9223372036854775807 < (M.bs CK).size + (M.bs R).size)) := by show ¬ _; rw [M.bs_size, M.bs_size]; omega
  have hPn : (PL.map encS).length = PL.length * 1 := by simp
  have HRK : Hid (∀ W4 : World, GB W0 W4 → (W4.alloc (.cells (dg CK) 39)).rangeAt W4.heap.size 0 (CK.map vb)) := fun W4 h => range_part (C := dg CK) (T := 39) (heap_alloc_new _ _) [] (CK.map vb) [] 0 (by simp [dg]) rfl
  clear hR hCK hsq hG hB0 hv hpl hG0 hW0n hW0e
  subst hW0
  go_enter Tryz.func52, Tryz.ntmps52
  go_wp2_with (first
    | (at_builtin; (refine wpList_append_lies _ rfl _ _ 27 rfl (w.heap.size + 1 + 1) 9 i0 (.string ⟨#[]⟩) 1 16 und9s hi0 hz0 hz1 hz2 rfl (by decide) _ 1 _ rfl OWN.out ⟨sb, off, none⟩ PL.length c (PL.map encS) rfl hPn NEWS.out hn1 hp0 (by unfold maxLen; omega) (by omega) (by simp) (w.heap.size + 1 + 1 + 1) (by simp) ?_); clear OWN NEWS; intro g cap' w2 hown2 hgrow2 hat2 hlt2; have HG2 := HGA.out _ hgrow2; clear HGA hgrow2 hat2)
    | (go_at_call 68; refine (CRW.out _ _ _ HG2 hown2).mono ?_; clear CRW hown2 HG2; rintro e w3 ⟨rfl, HG3⟩)
    | (go_at_call 18; refine (CO.out _ _ HG3).mono ?_; clear CO HG3; rintro e w4 ⟨rfl, HG4⟩)
    | (refine wpList_store_row rfl 39 _ _ rfl w4.heap.size (dg CK) rfl rfl 39 zero32 (HST.out w4) (by rw [hDs]; exact info27) (by rw [hz32, hDs]) hD1 ?_; clear HST; rw [World.setRow_alloc_new]))
  have HG5 := HG4.alloc (.cells (dg CK) 39)
  obtain ⟨q1, q2, q3⟩ := HE.out _ HG5
  have q4 := HRK.out _ HG4
  have HN : Hid ((w4.alloc (.cells (dg CK) 39)).drew.heap[w.heap.size + 1]? = some (.cells (ev [] V.zd V.zd) 74 (0, 0))) := q2
  have HF : Hid (Below w.heap.size w (w4.alloc (.cells (dg CK) 39)).drew) := q1.drew
  have HR0 : (w4.alloc (.cells (dg CK) 39)).drew.rangeAt w.heap.size 0 (d.map vb) ∧ (w4.alloc (.cells (dg CK) 39)).drew.rangeAt w4.heap.size 0 (CK.map vb) := ⟨q3, q4⟩
  have h4s : w.heap.size + 1 + 1 ≤ w4.heap.size := by have := HG4.b.size; simp at this; omega
  have HR1 : ((w4.alloc (.cells (dg CK) 39)).drew.setRow (w.heap.size + 1) (ev kind d CK)).rangeAt w.heap.size 0 (d.map vb) ∧ ((w4.alloc (.cells (dg CK) 39)).drew.setRow (w.heap.size + 1) (ev kind d CK)).rangeAt w4.heap.size 0 (CK.map vb) := ⟨range_setRow q3 (by omega), range_setRow q4 (by omega)⟩
  clear HG4 HG5 q1 q2 q3 q4 HRK HE
  refine wp_region_noPanic ?_
  refine wp_region_held_drew (S := (fun W => W.rangeAt w.heap.size 0 (d.map vb) ∧ W.rangeAt w4.heap.size 0 (CK.map vb))) (by kernel_rfl) (HR0) (fun hHeld => ?_)
  refine wpAnyH_take (i := 0) rfl (by kernel_rfl) (by kernel_rfl) (by kernel_rfl) (fun _ _ _ h => h) (yi_move (by kernel_rfl) rfl rfl) (by assumption) ?_
  simp only [Act.put, List.getElem_toArray, List.getElem_cons_succ, List.getElem_cons_zero, List.setIfInBounds_toArray, List.set_cons_zero, List.set_cons_succ]
  refine wpAnyH_take (i := 1) (v := .agg (List.toArray (d.map vb))) rfl (by kernel_rfl) (by kernel_rfl) (by kernel_rfl) (fun _ _ _ h => h) (yieldsIf_load_mid (by kernel_rfl) _ (.tmp 3) (by kernel_rfl) w.heap.size 0 (by kernel_rfl) (d.map vb) _ (fun W hW => hW.1) und27 rfl hiD) (by assumption) ?_
  simp only [Act.put, List.getElem_toArray, List.getElem_cons_succ, List.getElem_cons_zero, List.setIfInBounds_toArray, List.set_cons_zero, List.set_cons_succ]
  refine wpAnyH_take (i := 2) (v := .agg (nmv kind d)) rfl (by kernel_rfl) (by kernel_rfl) (by kernel_rfl) (fun _ _ _ h => h) (yi_build (by kernel_rfl) rfl _ (by rfl) (fun w => HB73.out w)) (by assumption) ?_
  simp only [Act.put, List.getElem_toArray, List.getElem_cons_succ, List.getElem_cons_zero, List.setIfInBounds_toArray, List.set_cons_zero, List.set_cons_succ]
  refine wpAnyH_take (i := 3) (v := .agg (List.toArray (CK.map vb))) rfl (by kernel_rfl) (by kernel_rfl) (by kernel_rfl) (fun _ _ _ h => h) (yieldsIf_load_mid (by kernel_rfl) _ (.tmp 9) (by kernel_rfl) w4.heap.size 0 (by kernel_rfl) (CK.map vb) _ (fun W hW => hW.2) und27 rfl hiC) (by assumption) ?_
  simp only [Act.put, List.getElem_toArray, List.getElem_cons_succ, List.getElem_cons_zero, List.setIfInBounds_toArray, List.set_cons_zero, List.set_cons_succ]
  refine wpAnyH_take (i := 4) (v := .agg (ev kind d CK)) rfl (by kernel_rfl) (by kernel_rfl) (by kernel_rfl) (fun _ _ _ h => h) (yi_build (by kernel_rfl) rfl _ (by rfl) (fun w => HB75.out w)) (by assumption) ?_
  simp only [Act.put, List.getElem_toArray, List.getElem_cons_succ, List.getElem_cons_zero, List.setIfInBounds_toArray, List.set_cons_zero, List.set_cons_succ]
  refine wpAnyH_take (i := 5) (v := ?_) rfl (by kernel_rfl) (by kernel_rfl) (by kernel_rfl) (fun _ _ _ h => h) (Or.inl ⟨by kernel_rfl, ?_⟩) (by assumption) ?_
  rotate_left
  · (intro w hSw; (try dsimp only at hSw); go_simp; (try with_reducible rfl))
  simp only [Act.put, List.getElem_toArray, List.getElem_cons_succ, List.getElem_cons_zero, List.setIfInBounds_toArray, List.set_cons_zero, List.set_cons_succ]
  refine wpAnyH_take (i := 6) (v := ?_) rfl (by kernel_rfl) (by kernel_rfl) (by kernel_rfl) (fun _ _ _ h => h) (Or.inl ⟨by kernel_rfl, ?_⟩) (by assumption) ?_
  rotate_left
  · (intro w hSw; have hcv := HCV.out w _ hSw.2; go_simp; (try with_reducible rfl))
  simp only [Act.put, List.getElem_toArray, List.getElem_cons_succ, List.getElem_cons_zero, List.setIfInBounds_toArray, List.set_cons_zero, List.set_cons_succ]
  refine wpAnyH_take (i := 7) rfl (by kernel_rfl) (by kernel_rfl) (by kernel_rfl) (fun _ _ _ h => h) (yi_move (by kernel_rfl) rfl rfl) (by assumption) ?_
  simp only [Act.put, List.getElem_toArray, List.getElem_cons_succ, List.getElem_cons_zero, List.setIfInBounds_toArray, List.set_cons_zero, List.set_cons_succ]
  refine wpAnyH_take (i := 8) (v := ?_) rfl (by kernel_rfl) (by kernel_rfl) (by kernel_rfl) (fun _ _ _ h => h) (Or.inl ⟨by kernel_rfl, ?_⟩) (by assumption) ?_
  rotate_left
  · (intro w hSw; have hno := HNO.out; go_simp; (try with_reducible rfl))
  simp only [Act.put, List.getElem_toArray, List.getElem_cons_succ, List.getElem_cons_zero, List.setIfInBounds_toArray, List.set_cons_zero, List.set_cons_succ]
  refine wpAnyH_ready (rs := [9]) (by kernel_rfl) (by simp) ?_
  refine AllReadyH.cons (o := _) rfl (fun K hK => ?_) AllReadyH.nil
  refine stepv_store_row rfl 74 _ _ rfl (w.heap.size + 1) (ev kind d CK) (by rfl) (by rfl) 74 (ev [] V.zd V.zd) HN.out (by rw [hes]; exact info75) (by rw [he0, hes]) (ev_one _ _ _) (hK.out _ _ HR1 (fun hHeld => ?_))
  clear hK K
  (try simp only [Act.put, List.getElem_toArray, List.getElem_cons_succ, List.getElem_cons_zero, List.setIfInBounds_toArray, List.set_cons_zero, List.set_cons_succ])
  refine wpAnyH_take (i := 10) rfl (by kernel_rfl) (by kernel_rfl) (by kernel_rfl) (fun _ _ _ h => h) (yi_assign (by kernel_rfl) rfl rfl) (by assumption) ?_
  simp only [Act.put, List.getElem_toArray, List.getElem_cons_succ, List.getElem_cons_zero, List.setIfInBounds_toArray, List.set_cons_zero, List.set_cons_succ]
  refine wpAnyH_done (by kernel_rfl) ?_ _
  refine NoPanic.normal ?_
  go_wp2_with fail
  (try simp only [Exit.inBlock, Exit.then])
  refine bodyPost_ret (results2_rowV rfl _ _ _ 74 (ev kind d CK) (0, 0) _ rfl (setRow_heap _ _ _ _ _ _ HN.out) hum5 rfl (by rw [hes]; exact info75)) rfl ?_
  exact ⟨HFIN.out, below_setRow HF.out (by omega) _⟩

end Go.Proofs.YtlkllcnnnndllaaGreatDoor
