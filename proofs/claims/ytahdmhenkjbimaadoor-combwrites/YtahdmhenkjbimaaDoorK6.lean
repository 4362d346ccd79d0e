/- What comb.digests answers. -/
import Derived.Test.YtahdmhenkjbimaaDoorK3
import Derived.Lib.ConvBytes
import Derived.Laws.AppendOwn
namespace Go.Proofs.YtahdmhenkjbimaaDoor
open Go.RowKit
set_option linter.unusedVariables false
set_option linter.unusedSimpArgs false

theorem conv_to (d : List UInt8) (W : World) : ∃ cap W', (convert 9 43 (.string (M.bs d))).run Tryd.prog W = .ok (.slice (some ⟨W.heap.size, 0, none⟩) d.length cap) W' ∧ d.length ≤ cap ∧ Below W.heap.size W W' ∧ W'.rangeAt W.heap.size 0 (d.map vb) ∧ W'.heap.size = W.heap.size + 1 := by
  refine ⟨_, _, by rw [Lib.run_convert_string_bytes (P := Tryd.prog) W 9 43 5 (M.bs d) Tryd.underlying9 Tryd.underlying43 Tryd.underlying5, M.bs_size], grownCap_ge _ _ _ _, ?_, ?_, Lib.bytesWorld_size _ _ _⟩
  · have hA : Below W.heap.size W (W.drew.alloc (.cells (Lib.bytesCells W 5 (M.bs d)) 5)) := (Below.refl _ W).drew.alloc (Nat.le_refl _) _
    refine ⟨hA.os, hA.tape, hA.output, by rw [Lib.bytesWorld_size]; omega, fun i hi => Lib.bytesWorld_at_old _ _ _ _ hi⟩
  · intro j v hv
    have hj : j < d.length := by have := (List.getElem?_eq_some_iff.1 hv).1; simpa using this
    rw [Nat.zero_add, Lib.bytesWorld_cell _ _ _ _ (by rw [M.bs_size]; exact hj), M.bs_toList]
    rw [List.getElem?_map, List.getElem?_eq_getElem hj] at hv
    obtain rfl := Option.some.inj hv
    rw [List.getD_eq_getElem?_getD, List.getElem?_eq_getElem hj]; rfl

theorem run_arr (W : World) (a : Option Addr) (cap : Nat) : (Instr.arrayAt 23 (.slice a 32 cap)).run Tryd.prog W = .ok (.pointer a) W := by
  simp [Instr.arrayAt, run_underlying und27]
set_option maxRecDepth 8000 in
set_option maxHeartbeats 2000000 in
theorem digests_at (D : List (List UInt8)) (hD : ∀ d ∈ D, d.length = 32) (hn : D.length ≤ 8) (w : World) :
    Calls Tryd.prog 29 #[.string (M.bs D.flatten)] w fun e w' => ∃ a c, e = .returned (.slice a D.length c) ∧ Dgs w'.heap.size w' a D ∧ (∀ b off, a = some ⟨b, off, none⟩ → w.heap.size ≤ b) ∧ Below w.heap.size w w' := by
  have HD : Hid (∀ d ∈ D, d.length = 32) := hD
  clear hD
  obtain ⟨B, hB⟩ : ∃ B, B = w.heap.size := ⟨_, rfl⟩
  have HBw : Hid (w.heap.size = B) := hB.symm
  have HB0 : Hid (Below B w w) := Below.refl _ _
  rw [← hB]
  clear hB
  go_enter Tryd.func29, Tryd.ntmps29
  go_wp2_with fail
  go_loopw [0, 3] (fun u0 u3 wr => ∃ (k cap : Nat) (a : Option Addr), k ≤ D.length ∧ u0 = .string (M.bs (D.drop k).flatten) ∧ u3 = .slice a k cap ∧ wr.ownsRow B 23 32 (.slice a k cap) k (flatD (D.take k)) ∧ Below B w wr) (fun u0 _ _ => strLen u0)
  case atStart => exact ⟨0, 0, none, Nat.zero_le _, rfl, rfl, ⟨rfl, Or.inl ⟨rfl, rfl⟩⟩, HB0.out⟩
  case round =>
    obtain ⟨k, cap, a, hk, rfl, rfl, hown, hbe⟩ := hrel
    have HOW : Hid (wr.ownsRow B 23 32 (.slice a k cap) k (flatD (D.take k))) := hown
    have HBE : Hid (Below B w wr) := hbe
    have hwr : B ≤ wr.heap.size := by have := hbe.size; have := HBw.out; omega
    clear hown hbe HB0
    by_cases hlt : k < D.length
    · obtain ⟨d, hd⟩ : ∃ d, D[k]? = some d := ⟨D[k], List.getElem?_eq_getElem hlt⟩
      have hdl := HD.out d (List.mem_of_getElem? hd)
      have hdr : (D.drop k).flatten = d ++ (D.drop (k + 1)).flatten := by
        rw [List.drop_eq_getElem_cons hlt, List.flatten_cons]
        congr 1
        rw [List.getElem?_eq_getElem hlt] at hd
        exact Option.some.inj hd
      obtain ⟨R, hR⟩ : ∃ R, R = (D.drop (k + 1)).flatten := ⟨_, rfl⟩
      rw [← hR] at hdr
      have HRR : Hid (R = (D.drop (k + 1)).flatten) := hR
      have hRl : R.length ≤ 256 := by
        have h := dgs_flat (D.drop (k + 1)) (fun d hd => HD.out d (List.mem_of_mem_drop hd))
        rw [hR, h, List.length_drop]; omega
      clear hR
      rw [hdr]
      have HTK : Hid (D.take (k + 1) = D.take k ++ [d]) := by
        show _ = _
        rw [List.take_add_one, hd]; rfl
      have hz := M.bs_size (d ++ R)
      rw [List.length_append, hdl] at hz
      have hzR := M.bs_size R
      have hne := bs_ne (d ++ R) (by rw [List.length_append]; omega)
      have har := run_arr
      have hx1 : (M.bs (d ++ R)).extract 0 32 = M.bs d := by rw [take_bs, List.take_append_of_le_length (by omega), List.take_of_length_le (by omega)]
      have hx2 : (M.bs (d ++ R)).extract 32 (32 + R.length) = M.bs R := by
        have := drop_bs (d ++ R) 32
        rw [hz] at this
        rw [this, List.drop_append_of_le_length (by omega), List.drop_of_length_le (by omega)]; rfl
      have hz1 := M.bs_size d
      obtain ⟨cc, W1, hcv, hcc, hB1, hr1, hs1⟩ := conv_to d wr
      rw [hdl] at hcv hcc
      have HR1 : Hid (W1.rangeAt wr.heap.size 0 (d.map vb)) := hr1
      have HB1 : Hid (Below wr.heap.size wr W1) := hB1
      have hi : (Tryd.prog.info? 23).map (·.size) = some (d.map vb).length := by rw [info27, List.length_map, hdl]
      obtain ⟨i0, hi0, hz0, hz1', hz2⟩ := info_parts (show (Tryd.prog.info? 23).map (fun i => (i.zero, i.size, i.bytes)) = some (some (.agg zero32), 32, 32) by kernel_rfl)
      have hZ2 : (Value.agg zero32).cells.size = 32 := zero32_size
      have hz27 : ∀ W, (zeroValue 23).run Tryd.prog W = .ok (.agg zero32) W := zero27
      have hnl2 : (d.map vb).length = 32 := by rw [List.length_map, hdl]
      have hn1 : ∀ u ∈ d.map vb, u.oneCell' = true := fun u hu => by obtain ⟨x, _, rfl⟩ := List.mem_map.1 hu; rfl
      obtain ⟨DA, hDA⟩ : ∃ DA, List.toArray (d.map vb) = DA := ⟨_, rfl⟩
      have HDA : Hid (List.toArray (d.map vb) = DA) := hDA
      have hDs : DA.size = 32 := by rw [← hDA, List.size_toArray, List.length_map, hdl]
      have NEWS : Hid (∀ (Y : Array Value), Y.size = 32 → ∀ j u, (d.map vb)[j]? = some u → (W1.alloc (.cells (Array.foldl (fun (cs : Array Value) (x : Value × Nat) => cs.setIfInBounds x.snd x.fst) Y DA.zipIdx 0 32) 23)).cell? ((⟨W1.heap.size, 0, none⟩ : Addr).add j) = some u) := fun Y hY j u hu => by
        have e := fold_dg d hdl Y hY
        unfold dg at e
        rw [hDA] at e
        rw [e]
        exact World.news_of_block (heap_alloc_new W1 _) j u (by rw [← hDA]; simpa using hu)
      have OWN : Hid (∀ o, (W1.alloc o).ownsRow B 23 32 (.slice a k cap) k (flatD (D.take k))) := fun o => World.ownsRow.alloc (ownsRow_belowN HOW.out hB1) o
      have HLT : Hid (∀ q, (Value.slice a k cap).ownBlock = some q → B ≤ q) := fun q hq => (HOW.out.lt q hq).1
      have HBA : Hid (∀ o, Below B w (W1.alloc o)) := fun o => (HBE.out.trans (hB1.mono hwr)).alloc (by omega) o
      have hBW1 : B ≤ W1.heap.size := by omega
      clear hr1 hB1 hd hdr hDA hs1
      generalize zero32 = Z2 at *
      go_wp2_with (first
        | (refine wpList_load_mid rfl 23 _ rfl wr.heap.size 0 rfl (d.map vb) _ HR1.out und27 rfl hi ?_; rw [HDA.out])
        | (at_builtin; refine wpList_append_lies _ rfl _ _ 24 rfl B 23 i0 (.agg Z2) 32 32 Tryd.underlying24 hi0 hz0 hz1' hz2 hZ2 (by decide) _ k _ rfl (OWN.out _) ⟨W1.heap.size, 0, none⟩ 1 1 (d.map vb) rfl hnl2 (NEWS.out _ (by rfl)) hn1 (by decide) (by unfold maxLen; omega) (by omega) (by simp; omega) (W1.heap.size + 1) (by simp) ?_; intro g cap' w9 hown9 hgrow9 hat9 hlt9))
      have HO9 : Hid (w9.ownsRow B 23 32 (.slice (some ⟨g, 0, none⟩) (k + 1) cap') (k + 1) (flatD (D.take (k + 1)))) := by rw [HTK.out, flatD_append, flatD_one]; exact hown9
      have HB9 : Hid (Below B w w9) := (HBA.out _).grown hgrow9 (by simp; omega) (fun q hq => HLT.out q hq)
      clear hown9 hgrow9 hat9
      go_wp2_with fail
      go_roundw
      case rel => exact ⟨k + 1, cap', some ⟨g, 0, none⟩, by omega, by rw [← HRR.out], rfl, HO9.out, HB9.out⟩
      case measure => first | (simp [strLen, hz, hzR]; done) | (simp [strLen, hz, hzR]; omega)
    · obtain rfl : k = D.length := by omega
      have e0 : (D.drop D.length).flatten = [] := by simp
      rw [e0]
      have hne := bs_nil
      have HOF := HOW.out
      rw [List.take_length] at HOF
      have HDG : Hid (Dgs wr.heap.size wr a D) := dgs_of_owns HOF rfl HD.out
      have HUP : Hid (∀ b off, a = some ⟨b, off, none⟩ → B ≤ b) := fun b off e => by
        subst e
        exact (HOF.lt b rfl).1
      clear HOF e0
      go_wp2_with fail
      go_ret
      exact ⟨a, cap, rfl, HDG.out, HUP.out, HBE.out⟩
end Go.Proofs.YtahdmhenkjbimaaDoor
