/- What the reference's Decode answers from its loop on. -/
import Derived.Test.YtahdmhenkjbimaaDoorKd1
import Derived.Deep.AppendLies
import Derived.Deep.RegionLaw
namespace Go.Proofs.YtahdmhenkjbimaaDoor
open Go.RowKit
set_option linter.unusedVariables false
set_option linter.unusedSimpArgs false

theorem cut_at (D : List (List UInt8)) (hD : ∀ d ∈ D, d.length = 32) (k : Nat) (d : List UInt8) (h : D[k]? = some d) : (D.flatten.drop (32 * k)).take 32 = d := by
  induction D generalizing k with
  | nil => simp at h
  | cons x D ih =>
    have hx := hD x (by simp)
    cases k with
    | zero =>
      simp only [List.getElem?_cons_zero, Option.some.injEq] at h
      subst h
      rw [Nat.mul_zero, List.drop_zero, List.flatten_cons, List.take_append_of_le_length (by omega), List.take_of_length_le (by omega)]
    | succ k =>
      rw [List.getElem?_cons_succ] at h
      rw [List.flatten_cons, show 32 * (k + 1) = x.length + 32 * k by omega, List.drop_append, List.drop_of_length_le (by omega), List.nil_append, Nat.add_sub_cancel_left]
      exact ih (fun d hd => hD d (by simp [hd])) k h
def rdPost (w : World) (a : List UInt8) (n : Int) (D : List (List UInt8)) (q : Bool) (e : Ending) (w' : World) : Prop := (∃ pa pc, e = .returned (if q = true then .tuple #[.agg (mv a n pa D.length pc), .int .i64 0] else .tuple #[.agg zero34, .int .i64 3]) ∧ Dgs w'.heap.size w' pa D) ∧ Below w.heap.size w w'
set_option maxRecDepth 8000 in
set_option maxHeartbeats 2000000 in
theorem rdec_go (s : List UInt8) (w : World) (hs : s.length ≤ 140737488355328) (a b : List UInt8) (D : List (List UInt8)) (n : Int) (hR : M.readRow s 3 = some ([a, b, D.flatten], [])) (hbl : b.length ≤ 140737488355328) (hN : M.readNum b = some (n, [])) (ha : a.length = 32) (hD : ∀ d ∈ D, d.length = 32) (hDn : D.length ≤ 4398046511104) :
    Calls Tryd.prog 9 #[.string (M.bs s)] w fun e w' => rdPost w a n D (goodB n D.length) e w' := by
  have hfl := dgs_flat D hD
  obtain ⟨q, hq⟩ : ∃ q, goodB n D.length = q := ⟨_, rfl⟩
  rw [hq]
  obtain ⟨hf1, hf2⟩ := fold_mv a ha n
  have hz := zero34_size
  have h1 : zero34.all (·.oneCell') = true := mv_one _ _ _ _ _
  obtain ⟨fs, hum⟩ := und27m
  have hzz : ∀ W, (zeroValue 26).run Tryd.prog W = .ok (.agg zero34) W := zero27m
  obtain ⟨hm0, hw0⟩ := rd_base zero34 w
  have HM0 : Hid (((w.alloc (.cells zero34 26)).alloc (.cells zero34 26)).heap[w.heap.size + 1]? = some (.cells zero34 26 (0, 0))) := hm0
  have HH : Hid (∀ W, Bl (((w.alloc (.cells zero34 26)).alloc (.cells zero34 26)).setRow (w.heap.size + 1) zero34) W → W.heap[w.heap.size]? = some (.cells zero34 26 (0, 0)) ∧ W.heap[w.heap.size + 1]? = some (.cells zero34 26 (0, 0)) ∧ Below w.heap.size w W) := hw0
  have H0 : Bl (((w.alloc (.cells zero34 26)).alloc (.cells zero34 26)).setRow (w.heap.size + 1) zero34) (((w.alloc (.cells zero34 26)).alloc (.cells zero34 26)).setRow (w.heap.size + 1) zero34) := Below.refl _ _
  clear hm0 hw0
  obtain ⟨DA, hDA⟩ : ∃ DA, DA = dg a := ⟨_, rfl⟩
  rw [← hDA] at hf1 hf2
  have hDs : DA.size = 32 := by rw [hDA, dg_size, ha]
  have CF : Hid (∀ W1 W, Bl W1 W → Calls Tryd.prog 32 #[.string (M.bs a)] W fun e w' => e = .returned (.agg DA) ∧ Bl W1 w') := fun W1 W hW => by
    rw [hDA]
    refine (rDigest_at a ha W).mono ?_
    rintro e w' ⟨rfl, hb⟩
    exact ⟨rfl, hW.step hb⟩
  clear hDA
  obtain ⟨F, hF⟩ : ∃ F, F = Array.foldl (fun (cs : Array Value) (x : Value × Nat) => cs.setIfInBounds x.snd x.fst) zero34 DA.zipIdx 0 32 := ⟨_, rfl⟩
  rw [← hF] at hf1 hf2
  have hF' := hF.symm
  clear hF
  obtain ⟨E, hE⟩ : ∃ E, E = mv a n none 0 0 := ⟨_, rfl⟩
  rw [← hE] at hf2
  have hEs : E.size = 34 := by rw [hE]; exact mv_size _ _ _ _ _ ha
  have hE1 : E.all (·.oneCell') = true := by rw [hE]; exact mv_one _ _ _ _ _
  have HE : Hid (E = mv a n none 0 0) := hE
  clear hE
  generalize hZZ : zero34 = Z at *
  have HZZ : Hid (zero34 = Z) := hZZ
  clear hZZ
  have HST : Hid (∀ W : World, (W.alloc (.cells Z 26)).heap[W.heap.size]? = some (.cells Z 26 (0, 0))) := fun W => heap_alloc_new W _
  have HXT : Hid (∀ k d, D[k]? = some d → (M.bs D.flatten).extract (32 * k) (32 * k + 32) = M.bs d) := fun k d h => by rw [extract64_bs, cut_at D hD k d h]
  have HD : Hid (∀ d ∈ D, d.length = 32) := hD
  have CR : Hid (∀ W, Bl (((w.alloc (.cells Z 26)).alloc (.cells Z 26)).setRow (w.heap.size + 1) Z) W → Calls Tryd.prog 30 #[.string (M.bs s), .int .i64 3] W fun e w' => ∃ sa sc, e = .returned (.tuple #[.slice sa 3 sc, .string ⟨#[]⟩, .bool true]) ∧ Strs w'.heap.size w' (.slice sa 3 sc) [a, b, D.flatten] ∧ Bl (((w.alloc (.cells Z 26)).alloc (.cells Z 26)).setRow (w.heap.size + 1) Z) w') := fun W hW => rdRow_yes s hs [a, b, D.flatten] [] hR hW
  have CN : Hid (∀ W1 W, Bl W1 W → Calls Tryd.prog 31 #[.string (M.bs b)] W fun e w' => e = .returned (.tuple #[.int .i64 n, .string ⟨#[]⟩, .bool true]) ∧ Bl W1 w') := fun W1 W hW => by
    have := rdNum b hbl hW
    rw [hN] at this
    exact this
  have hne := bs_nil
  have hza := M.bs_size a
  have hzc := M.bs_size D.flatten
  have ha1 : ((a.length : Int) != 32) = false := by simp; omega
  have hm2 : Int.tmod (D.flatten.length : Int) 32 = 0 := by rw [Int.tmod_eq_emod_of_nonneg (by omega)]; omega
  clear hs hR hN hD
  generalize D.flatten = FL at *
  go_enter Tryd.func9, Tryd.ntmps9
  go_wp2_with (first
    | (go_at_call 30; refine (CR.out _ H0).mono ?_; clear CR H0; rintro e w2 ⟨sa, sc, rfl, HS2, HB2⟩; obtain ⟨sb, off, e1, hsb, hc0⟩ := strs_at HS2 0 a rfl; obtain ⟨sb1, off1, e2, _, hc1⟩ := strs_at HS2 1 b rfl; obtain ⟨sb2, off2, e3, _, hc2⟩ := strs_at HS2 2 FL rfl; subst e1; simp only [Option.some.injEq, Addr.mk.injEq, and_true] at e2 e3; obtain ⟨rfl, rfl⟩ := e2; obtain ⟨rfl, rfl⟩ := e3; rw [Nat.add_zero] at hc0; clear HS2)
    | (go_at_call 31; refine (CN.out w2 _ (Below.refl _ _)).mono ?_; clear CN; rintro e w3 ⟨rfl, HB3⟩; have hc0' := (Below.cell HB3 (p := ⟨sb, off, none⟩) hsb).trans hc0; clear hc0 hc1)
    | (go_at_call 32; refine (CF.out w2 _ HB3).mono ?_; clear CF HB3 hc0'; rintro e w4 ⟨rfl, HB4⟩)
    | (refine wpList_store_row rfl 26 _ _ rfl (w.heap.size + 1) Z rfl rfl 26 Z HM0.out (by rw [hz]; exact info27m) rfl h1 ?_; clear HM0)
    | (refine wpList_store_row rfl 26 _ _ rfl w4.heap.size E rfl rfl 26 Z (HST.out w4) (by rw [hEs]; exact info27m) (by rw [hz, hEs]) hE1 ?_; clear HST; rw [World.setRow_alloc_new]))
  have hc24 := (Below.cell HB4 (p := ⟨sb, off + 2, none⟩) hsb).trans hc2
  have hs24 := Below.size HB4
  obtain ⟨hr4, hn4, hB4⟩ := HH.out _ (Below.trans HB2 (Below.mono HB4 (Below.size HB2)))
  have h10 : (w4.alloc (.cells E 26)).heap.size = w4.heap.size + 1 := by simp
  have hlt4 : w.heap.size + 1 < w4.heap.size := (Array.getElem?_eq_some_iff.1 hn4).1
  have hm5 : (w4.alloc (.cells E 26)).heap[w4.heap.size]? = some (.cells (mv a n none 0 0) 26 (0, 0)) := by rw [← HE.out]; exact heap_alloc_new _ _
  have hr5 : (w4.alloc (.cells E 26)).heap[w.heap.size]? = some (.cells Z 26 (0, 0)) := by rw [Below.heap_alloc _ _ _ (by omega)]; exact hr4
  have hn5 : (w4.alloc (.cells E 26)).heap[w.heap.size + 1]? = some (.cells Z 26 (0, 0)) := by rw [Below.heap_alloc _ _ _ (by omega)]; exact hn4
  have hB5 : Below w.heap.size w (w4.alloc (.cells E 26)) := hB4.alloc (by omega) _
  have hc5 : (w4.alloc (.cells E 26)).cell? ⟨sb, off + 2, none⟩ = some (.string (M.bs FL)) := by
    rw [((Below.refl w4.heap.size w4).alloc (Nat.le_refl _) (.cells E 26)).cell (p := ⟨sb, off + 2, none⟩) (by show sb < _; omega)]; exact hc24
  have hsm4 : sb < w4.heap.size := by omega
  clear hc2 hc24 HB2 HB4 hr4 hn4 hB4 hs24 hsb HE hf1 hf2 hF' hDs hEs hE1 HH hzz
  generalize w4.alloc (.cells E 26) = w5 at *
  generalize hr : w.heap.size = r at *
  generalize hmb : w4.heap.size = mb at *
  have HM5 : Hid (w5.heap[mb]? = some (.cells (mv a n none 0 0) 26 (0, 0))) := hm5
  have HR5 : Hid (w5.heap[r]? = some (.cells Z 26 (0, 0))) := hr5
  have HO5 : Hid (w5.heap[r + 1]? = some (.cells Z 26 (0, 0))) := hn5
  have HBW : Hid (Below r w w5) := hB5
  have HC5 : Hid (w5.cell? ⟨sb, off + 2, none⟩ = some (.string (M.bs FL))) := hc5
  have HN1 : Hid (w.heap.size = r) := hr
  clear hm5 hr5 hn5 hB5 hc5 hr hmb
  obtain ⟨N5, hN5⟩ : ∃ N5, N5 = w5.heap.size := ⟨_, rfl⟩
  rw [← hN5] at h10
  have HN5 : Hid (N5 = w5.heap.size) := hN5
  clear hN5
  go_loopw [10] (fun u9 wr => ∃ (k cap : Nat) (pa : Option Addr), k ≤ D.length ∧ u9 = .int .i64 ((32 * k : Nat) : Int) ∧ wr.heap[mb]? = some (.cells (mv a n pa k cap) 26 (0, 0)) ∧ wr.ownsRow N5 23 32 (.slice pa k cap) k (flatD (D.take k)) ∧ Off mb w5 wr) (fun u9 _ => 32 * D.length - (intOf u9).toNat)
  case atStart => exact ⟨0, 0, none, Nat.zero_le _, rfl, HM5.out, ⟨rfl, Or.inl ⟨rfl, rfl⟩⟩, Off.refl _ _⟩
  case round =>
    obtain ⟨k, cap, pa, hk, rfl, hm, hown, hoff⟩ := hrel
    have HM : Hid (wr.heap[mb]? = some (.cells (mv a n pa k cap) 26 (0, 0))) := hm
    have HOW : Hid (wr.ownsRow N5 23 32 (.slice pa k cap) k (flatD (D.take k))) := hown
    have HOF : Hid (Off mb w5 wr) := hoff
    have hwr : N5 ≤ wr.heap.size := by rw [HN5.out]; exact hoff.size
    have hc : wr.cell? ⟨sb, off + 2, none⟩ = some (.string (M.bs FL)) := by rw [HOF.out.cell (p := ⟨sb, off + 2, none⟩) (by show sb < _; have := HN5.out; omega) (by show sb ≠ _; omega)]; exact HC5.out
    clear hm hown hoff HM5
    obtain ⟨p, hp⟩ : ∃ p, p = 32 * k := ⟨_, rfl⟩
    rw [← hp]
    by_cases hlt : k < D.length
    · obtain ⟨d, hd⟩ : ∃ d, D[k]? = some d := ⟨D[k], List.getElem?_eq_getElem hlt⟩
      have hdl := HD.out d (List.mem_of_getElem? hd)
      have hxt := HXT.out k d hd
      rw [← hp] at hxt
      have HTK : Hid (D.take (k + 1) = D.take k ++ [d]) := by
        show _ = _
        rw [List.take_add_one, hd]; rfl
      have hk0 : (0 : Int) ≤ (p : Int) := by omega
      have hk1 : (p : Int) < (FL.length : Int) := by omega
      have hk2 : (p : Int) + 32 ≤ 32 * (D.length : Int) := by omega
      have hk3 : (p : Int) ≤ (p : Int) + 32 := by omega
      have hk4 : (0 : Int) ≤ (p : Int) + 32 := by omega
      have hw32 : IntKind.i64.wrap ((p : Int) + 32) = (p : Int) + 32 := by rw [IntKind.wrap_i64]; omega
      have ht32 : ((p : Int) + 32).toNat = p + 32 := by omega
      have HP : Hid (p + 32 = 32 * (k + 1)) := by show _ = _; omega
      have HPP : Hid (p = 32 * k) := hp
      have hcm : wr.cell? ⟨mb, 33, none⟩ = some (.slice pa k cap) := by rw [cell_of_row _ _ 33 _ _ _ HM.out]; exact mv_33 _ _ _ _ _ ha
      have hfm : wr.frozen? ⟨mb, 33, none⟩ = false := by simp [World.frozen?, HM.out]
      clear hd hp
      have hmw : mb < wr.heap.size := by omega
      have CO : Hid (∀ W, Below wr.heap.size wr W → Calls Tryd.prog 32 #[.string (M.bs d)] W fun e w' => e = .returned (.agg (dg d)) ∧ Below wr.heap.size wr w') := fun W hW => by
        refine (rDigest_at d hdl W).mono ?_
        rintro e w' ⟨rfl, hg⟩
        exact ⟨rfl, hW.trans (hg.mono hW.size)⟩
      have OWN : Hid (∀ W o, Below wr.heap.size wr W → (W.alloc o).ownsRow N5 23 32 (.slice pa k cap) k (flatD (D.take k))) := fun W o hW => World.ownsRow.alloc (ownsRow_belowN HOW.out hW) o
      have HFD : Hid (∀ Y : Array Value, Y.size = 32 → Array.foldl (fun (cs : Array Value) (x : Value × Nat) => cs.setIfInBounds x.snd x.fst) Y (dg d).zipIdx 0 32 = dg d) := fun Y hY => fold_dg d hdl Y hY
      have hz27 : ∀ W, (zeroValue 23).run Tryd.prog W = .ok (.agg zero32) W := zero27
      have hDs := dg_size d
      rw [hdl] at hDs
      have hnl2 : (d.map vb).length = 32 := by rw [List.length_map, hdl]
      have hn1 : ∀ u ∈ d.map vb, u.oneCell' = true := fun u hu => by obtain ⟨x, _, rfl⟩ := List.mem_map.1 hu; rfl
      obtain ⟨DD, hDD⟩ : ∃ DD, DD = dg d := ⟨_, rfl⟩
      have hDl : DD.toList = d.map vb := by rw [hDD]; rfl
      rw [← hDD] at HFD hDs CO
      clear hDD
      obtain ⟨i0, hi, hz0, hz1, hz2⟩ := info_parts (show (Tryd.prog.info? 23).map (fun i => (i.zero, i.size, i.bytes)) = some (some (.agg zero32), 32, 32) by kernel_rfl)
      have hZ2 : (Value.agg zero32).cells.size = 32 := zero32_size
      generalize zero32 = Z2 at *
      have NEWS : Hid (∀ (W : World) Ty (Y : Array Value), Y.size = 32 → ∀ j u, (d.map vb)[j]? = some u → (W.alloc (.cells (Array.foldl (fun (cs : Array Value) (x : Value × Nat) => cs.setIfInBounds x.snd x.fst) Y DD.zipIdx 0 32) Ty)).cell? ((⟨W.heap.size, 0, none⟩ : Addr).add j) = some u) := fun W Ty Y hY j u hu => by
        rw [← hDl] at hu
        rw [HFD.out Y hY]
        exact World.news_of_block (heap_alloc_new W _) j u hu
      have HNB : Hid (some mb ≠ (Value.slice pa k cap).ownBlock) := fun h => by
        have := (HOW.out.lt mb h.symm).1
        omega
      have AP : Hid (∀ (W w8 : World) (o : Obj), Below wr.heap.size wr W → (W.alloc o).grownBy w8 (Value.slice pa k cap).ownBlock → w8.heap[mb]? = some (.cells (mv a n pa k cap) 26 (0, 0)) ∧ Off mb w5 w8) := fun W w8 o hW hg => by
        have hWs := hW.size
        have e0 : (W.alloc o).heap.size = W.heap.size + 1 := by simp
        have hsz8 := hg.size
        refine ⟨by rw [hg.block mb (by omega) HNB.out, Below.heap_alloc _ _ _ (by omega), hW.block mb hmw]; exact HM.out, ?_⟩
        refine ⟨hg.os.trans ((hW.alloc (by omega) o).os.trans HOF.out.os), hg.tape.trans ((hW.alloc (by omega) o).tape.trans HOF.out.tape), hg.output.trans ((hW.alloc (by omega) o).output.trans HOF.out.output), by have := HN5.out; omega, fun i hi hne => ?_⟩
        have hi5 : i < N5 := by rw [HN5.out]; exact hi
        rw [hg.block i (by omega) (fun h => by have := (HOW.out.lt i h.symm).1; omega), Below.heap_alloc _ _ _ (by omega), hW.block i (by omega)]
        exact HOF.out.block i hi hne
      have A33 : Hid (∀ w8 : World, w8.heap[mb]? = some (.cells (mv a n pa k cap) 26 (0, 0)) → w8.cell? ⟨mb, 33, none⟩ = some (.slice pa k cap) ∧ w8.frozen? ⟨mb, 33, none⟩ = false) := fun w8 h => ⟨by rw [cell_of_row _ _ 33 _ _ _ h]; exact mv_33 _ _ _ _ _ ha, by simp [World.frozen?, h]⟩
      have hb0 : Below wr.heap.size wr wr.drew := (Below.refl _ _).drew
      have hcell33 : Hid (∀ W, Below wr.heap.size wr W → W.cell? ⟨mb, 33, none⟩ = some (.slice pa k cap) ∧ W.frozen? ⟨mb, 33, none⟩ = false) := fun W hW => ⟨by rw [hW.cell (p := ⟨mb, 33, none⟩) hmw]; exact hcm, by rw [World.frozen?_of_block (w := wr) (hW.block mb hmw)]; exact hfm⟩
      have hal : ∀ o, (wr.alloc o).cell? ⟨mb, 33, none⟩ = some (.slice pa k cap) := fun o => (hcell33.out _ ((Below.refl _ wr).alloc (Nat.le_refl _) o)).1
      have hsbw : sb < wr.heap.size := by omega
      have hal2 : ∀ o, (wr.alloc o).cell? ⟨sb, off + 2, none⟩ = some (.string (M.bs FL)) := fun o => (((Below.refl _ wr).alloc (Nat.le_refl _) o).cell (p := ⟨sb, off + 2, none⟩) hsbw).trans hc
      go_wp2_with fail
      go_region_law (first
        | (go_simp; go_at_call 32; refine (CO.out wr.drew hb0).mono ?_; rintro e w' ⟨rfl, HS⟩; obtain ⟨c1, c2⟩ := hcell33.out _ HS; have c5 := fun o => (hcell33.out _ (HS.alloc HS.size o)).1; dsimp only)
        | (refine step_append_lies _ (by rfl) _ _ 24 (by rfl) N5 23 i0 (.agg Z2) 32 32 Tryd.underlying24 hi hz0 hz1 hz2 hZ2 (by decide) _ k _ (by rfl) (OWN.out w' _ HS) ⟨w'.heap.size, 0, none⟩ 1 1 (d.map vb) (by rfl) hnl2 (NEWS.out w' _ _ (by rfl)) hn1 (by decide) (by unfold maxLen; omega) (by omega) (by have := HS.size; simp; omega) (w'.heap.size + 1) (by simp) ?_; intro g cap' w8 hown8 hgrow8 hat8 hlt8; obtain ⟨m8, o8⟩ := AP.out _ _ _ HS hgrow8; obtain ⟨c3, c4⟩ := A33.out _ m8))
      all_goals
        have HM8 : Hid ((w8.setCell ⟨mb, 33, none⟩ (.slice (some ⟨g, 0, none⟩) (k + 1) cap')).heap[mb]? = some (.cells (mv a n (some ⟨g, 0, none⟩) (k + 1) cap') 26 (0, 0))) := by
          show _ = _
          rw [heap_setCell_row m8, mv_set33 _ _ _ _ _ _ _ _ ha]
        have HO8 : Hid ((w8.setCell ⟨mb, 33, none⟩ (.slice (some ⟨g, 0, none⟩) (k + 1) cap')).ownsRow N5 23 32 (.slice (some ⟨g, 0, none⟩) (k + 1) cap') (k + 1) (flatD (D.take (k + 1)))) := by
          refine ownsRow_off (mb := mb) ?_ ((Off.refl mb w8).setCell 33 _) (by omega)
          rw [HTK.out, flatD_append, flatD_one]; exact hown8
        have HF8 : Hid (Off mb w5 (w8.setCell ⟨mb, 33, none⟩ (.slice (some ⟨g, 0, none⟩) (k + 1) cap'))) := o8.setCell 33 _
        clear m8 o8 c1 c2 c3 c4 c5 hat8 hown8 hgrow8
        go_wp2_with fail
        go_roundw
        case rel => exact ⟨k + 1, cap', some ⟨g, 0, none⟩, by omega, by rw [← HP.out]; go_num, HM8.out, HO8.out, HF8.out⟩
        case measure => simp [intOf]; omega
    · obtain rfl : k = D.length := by omega
      have hk1 : ¬ (p : Int) < 32 * (D.length : Int) := by omega
      have hk2 : ¬ (p : Int) < (FL.length : Int) := by omega
      have hsm := mv_size a n pa D.length cap ha
      have h1m := mv_one a n pa D.length cap
      have hN5' := HN5.out
      have hmw : mb < wr.heap.size := by omega
      have HR8 : wr.heap[r]? = some (.cells Z 26 (0, 0)) := by rw [HOF.out.block r (by omega) (by omega)]; exact HR5.out
      have HO8 : wr.heap[r + 1]? = some (.cells Z 26 (0, 0)) := by rw [HOF.out.block (r + 1) (by omega) (by omega)]; exact HO5.out
      have HBA : Below r w wr := HBW.out.trans (HOF.out.below (by omega) (by omega))
      have HOW9 := HOW.out
      rw [List.take_length] at HOW9
      have CG : Hid (∀ W, Below wr.heap.size wr W → Calls Tryd.prog 22 #[.agg (mv a n pa D.length cap)] W fun e w' => e = .returned (.bool q) ∧ (w'.heap[mb]? = some (.cells (mv a n pa D.length cap) 26 (0, 0)) ∧ w'.heap[r]? = some (.cells Z 26 (0, 0)) ∧ w'.heap[r + 1]? = some (.cells Z 26 (0, 0)) ∧ Below r w w' ∧ ∀ C, Dgs (w'.setRow r C).heap.size (w'.setRow r C) pa D)) := fun W hW => by
        rw [← hq]
        refine (rGood_at a n pa D.length cap W ha).mono ?_
        rintro e w' ⟨rfl, hb⟩
        have hB := hW.trans (hb.mono hW.size)
        refine ⟨rfl, by rw [hB.block mb hmw]; exact HM.out, by rw [hB.block r (by omega)]; exact HR8, by rw [hB.block (r + 1) (by omega)]; exact HO8, HBA.trans (hB.mono (by omega)), fun C => ?_⟩
        exact dgs_of_owns (ownsRow_off (ownsRow_belowN HOW9 hB) ((Off.refl r w').setRow C) (by omega)) rfl HD.out
      have HMr : Hid (wr.heap[mb]? = some (.cells (mv a n pa D.length cap) 26 (0, 0))) := HM.out
      obtain ⟨C, hC⟩ : ∃ C, mv a n pa D.length cap = C := ⟨_, rfl⟩
      rw [hC] at CG HMr hsm h1m
      have HCC : Hid (mv a n pa D.length cap = C) := hC
      clear hC HM HOW HOW9 HR8 HO8 HBA HOF HBW HXT HC5 HN5 HR5 HO5 hN5' hq hp HD
      have hb0 : Below wr.heap.size wr wr := Below.refl _ _
      cases q with
      | true =>
        go_wp2_with (first
          | (go_at_call 22; refine (CG.out _ hb0).mono ?_; clear CG hb0; rintro e w9 ⟨rfl, hm9, hr9, hn9, hb9, hd9⟩; have HM9 : Hid _ := hm9; have HR9 : Hid _ := hr9; have HB9 : Hid _ := hb9; have HD9 : Hid _ := hd9; clear hm9 hr9 hn9 hb9 hd9)
          | (refine wpList_load_row rfl 26 _ rfl mb rfl 26 C (0, 0) _ HMr.out hum rfl (by rw [hsm]; exact info27m) ?_; clear HMr)
          | (refine wpList_load_row rfl 26 _ rfl mb rfl 26 C (0, 0) _ HM9.out hum rfl (by rw [hsm]; exact info27m) ?_; clear HM9)
          | (refine wpList_store_row rfl 26 _ _ rfl r C rfl rfl 26 Z HR9.out (by rw [hsm]; exact info27m) (by rw [hz, hsm]) h1m ?_))
        (try simp only [Exit.inBlock, Exit.then])
        refine bodyPost_ret (results2_row rfl _ _ _ 26 C (0, 0) _ rfl (setRow_heap _ _ _ _ _ _ HR9.out) hum rfl (by rw [hsm]; exact info27m)) rfl ?_
        unfold rdPost
        refine ⟨⟨pa, cap, ?_, HD9.out C⟩, ?_⟩
        · rw [if_pos rfl, HCC.out]; rfl
        · rw [HN1.out]; exact below_setRow HB9.out (Nat.le_refl _) _
      | false =>
        go_wp2_with (first
          | (go_at_call 22; refine (CG.out _ hb0).mono ?_; clear CG hb0; rintro e w9 ⟨rfl, hm9, hr9, hn9, hb9, hd9⟩; have HO9 : Hid _ := hn9; have HR9 : Hid _ := hr9; have HB9 : Hid _ := hb9; have HD9 : Hid _ := hd9; clear hm9 hr9 hn9 hb9 hd9)
          | (refine wpList_load_row rfl 26 _ rfl mb rfl 26 C (0, 0) _ HMr.out hum rfl (by rw [hsm]; exact info27m) ?_; clear HMr)
          | (refine wpList_load_row rfl 26 _ rfl (r + 1) rfl 26 Z (0, 0) _ HO9.out hum rfl (by rw [hz]; exact info27m) ?_; clear HO9)
          | (refine wpList_store_row rfl 26 _ _ rfl r Z rfl rfl 26 Z HR9.out (by rw [hz]; exact info27m) rfl h1 ?_))
        (try simp only [Exit.inBlock, Exit.then])
        refine bodyPost_ret (results2_row rfl _ _ _ 26 Z (0, 0) _ rfl (setRow_heap _ _ _ _ _ _ HR9.out) hum rfl (by rw [hz]; exact info27m)) rfl ?_
        unfold rdPost
        refine ⟨⟨pa, cap, ?_, HD9.out Z⟩, ?_⟩
        · rw [if_neg (by decide), HZZ.out]; rfl
        · rw [HN1.out]; exact below_setRow HB9.out (Nat.le_refl _) _
end Go.Proofs.YtahdmhenkjbimaaDoor
