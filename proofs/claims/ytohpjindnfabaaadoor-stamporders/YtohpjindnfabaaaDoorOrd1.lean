/- What the reference's Less and Hex answer. -/
import Derived.Test.YtohpjindnfabaaaDoorS15
import Derived.Test.YtohpjindnfabaaaDoorRegT
import Derived.Deep.AppendLies
namespace Go.Proofs.YtohpjindnfabaaaDoor
open Go.RowKit
set_option linter.unusedVariables false

set_option maxHeartbeats 1600000 in
theorem rLess_at (a b : List UInt8) (ha : a.length = 32) (hb : b.length = 32) (w : World) :
    Calls Tryd.prog 18 #[.agg (dg a), .agg (dg b)] w fun e w' => e = .returned (.bool (ltB a b)) ∧ Below w.heap.size w w' := by
  have hA : Hid (∀ k, k < 32 → (dg a)[k]? = some (vb (S.by8 a k))) := fun k hk => dg_at a k (by omega)
  have hB : Hid (∀ k, k < 32 → (dg b)[k]? = some (vb (S.by8 b k))) := fun k hk => dg_at b k (by omega)
  have hsA : (dg a).size = 32 := by rw [dg_size, ha]
  have hsB : (dg b).size = 32 := by rw [dg_size, hb]
  generalize dg a = A at *
  generalize dg b = B at *
  obtain ⟨q, hq⟩ : ∃ q, q = ltB a b := ⟨_, rfl⟩
  rw [← hq]
  have HQ : Hid (q = ltB a b) := hq
  clear hq
  go_enter Tryd.func18, Tryd.ntmps18
  go_wp2_with fail
  go_loopw [5] (fun u5 wr => ∃ (k : Nat), k ≤ 32 ∧ u5 = .int .i64 k ∧ Below (w.heap.size + 2) ((w.alloc (.cells A 27)).alloc (.cells B 27)) wr ∧ ∀ j, j < k → S.by8 a j = S.by8 b j) (fun u5 _ => 32 - (intOf u5).toNat)
  case atStart => exact ⟨0, by omega, rfl, Below.refl _ _, fun j hj => by omega⟩
  case round =>
    obtain ⟨k, hk, rfl, hBl, hj⟩ := hrel
    have HJ : Hid (∀ j, j < k → S.by8 a j = S.by8 b j) := hj
    have HBl : Hid (Below (w.heap.size + 2) ((w.alloc (.cells A 27)).alloc (.cells B 27)) wr) := hBl
    clear hj hBl
    have HBw : Hid (Below w.heap.size w ((w.alloc (.cells A 27)).alloc (.cells B 27))) := ((Below.refl _ w).alloc (Nat.le_refl _) _).alloc (by simp) _
    by_cases hlt : k < 32
    · have cA : wr.cell? ⟨w.heap.size, k, none⟩ = some (vb (S.by8 a k)) := by
        rw [HBl.out.cell (p := ⟨w.heap.size, k, none⟩) (show w.heap.size < w.heap.size + 2 by omega), cell_of_row _ _ k A _ (0, 0) (by rw [Below.heap_alloc _ _ _ (by simp)]; exact heap_alloc_new _ _)]
        exact hA.out k hlt
      have cB : wr.cell? ⟨w.heap.size + 1, k, none⟩ = some (vb (S.by8 b k)) := by
        rw [HBl.out.cell (p := ⟨w.heap.size + 1, k, none⟩) (show w.heap.size + 1 < w.heap.size + 2 by omega), cell_of_row _ _ k B _ (0, 0) (by
          have := heap_alloc_new (w.alloc (.cells A 27)) (.cells B 27)
          rwa [show (w.alloc (.cells A 27)).heap.size = w.heap.size + 1 by simp] at this)]
        exact hB.out k hlt
      have i0 : (0 : Int) ≤ (k : Int) := by omega
      have j0 : (k : Int) < 32 := by omega
      have HE := ltB_at a b k (by omega) (by omega) HJ.out
      have HE2 : Hid (S.by8 a k ≠ S.by8 b k → ltB a b = decide ((S.by8 a k).toNat < (S.by8 b k).toNat)) := HE
      have HN : Hid (S.by8 a k = S.by8 b k ↔ (S.by8 a k).toNat = (S.by8 b k).toNat) := UInt8.toNat_inj.symm
      clear HE
      have HS : Hid (∀ j, j < k + 1 → S.by8 a k = S.by8 b k → S.by8 a j = S.by8 b j) := fun j hj he => by
        by_cases h : j = k
        · subst h; exact he
        · exact HJ.out j (by omega)
      generalize S.by8 a k = x at *
      generalize S.by8 b k = y at *
      by_cases hxy : x.toNat = y.toNat
      · have hxI : ((x.toNat : Int) == (y.toNat : Int)) = true := by simp [hxy]
        have hxI2 : ((x.toNat : Int) != (y.toNat : Int)) = false := by simp [hxy]
        go_wp2_with fail
        go_quiet (fail)
        go_wp2_with fail
        go_roundw
        case rel => exact ⟨k + 1, by omega, by go_num, below_drewN HBl.out _, fun j hj => HS.out j hj (HN.out.2 hxy)⟩
        case measure => simp [intOf]; omega
      · have hxI : ((x.toNat : Int) == (y.toNat : Int)) = false := by simp; omega
        have hxI2 : ((x.toNat : Int) != (y.toNat : Int)) = true := by simp; omega
        have hql : decide (x.toNat < y.toNat) = q := by
          rw [HQ.out, HE2.out (fun e => hxy (HN.out.1 e))]
        clear HQ
        go_wp2_with fail
        go_quiet (fail)
        go_wp2_with fail
        go_quiet (fail)
        go_wp2_with fail
        go_ret
        exact ⟨by rw [← hql]; rfl, HBw.out.trans ((below_drewN (below_drewN HBl.out _) _).mono (by omega))⟩
    · have hdf : decide ((k : Int) < 32) = false := by simp; omega
      have hqf : q = false := by
        rw [HQ.out, eq_by8 (by omega) (fun j hj => HJ.out j (by omega)), ltB_self]
      subst hqf
      go_wp2_with fail
      go_ret
      exact ⟨rfl, HBw.out.trans (HBl.out.mono (by omega))⟩

/-- the first k digits' values -/
def hexV (d : List UInt8) (k : Nat) : List Value := ((hexB d).take (2 * k)).map vb
theorem hexV_succ (d : List UInt8) (k : Nat) (h : k < 32) : hexV d (k + 1) = hexV d k ++ [vb (hexd ((S.by8 d k).toNat / 16)), vb (hexd ((S.by8 d k).toNat % 16))] := by
  unfold hexV
  rw [show 2 * (k + 1) = 2 * k + 1 + 1 by omega, List.take_add_one, List.take_add_one, hexB_at d (2 * k) (by omega), hexB_at d (2 * k + 1) (by omega)]
  simp only [Option.toList_some, List.map_append, List.map_cons, List.map_nil, List.append_assoc, List.cons_append, List.nil_append]
  unfold hexAt
  rw [if_pos (by omega), if_neg (by omega), show 2 * k / 2 = k by omega, show (2 * k + 1) / 2 = k by omega]
theorem hexV_length (d : List UInt8) (k : Nat) (h : k ≤ 32) : (hexV d k).length = 2 * k := by simp [hexV, hexB_length]; omega

set_option maxRecDepth 8000 in
set_option maxHeartbeats 1600000 in
theorem rHex_at (d : List UInt8) (hd : d.length = 32) (w : World) :
    Calls Tryd.prog 16 #[.agg (dg d)] w fun e w' => e = .returned (.string (M.bs (hexB d))) ∧ Below w.heap.size w w' := by
  have hA : Hid (∀ k, k < 32 → (dg d)[k]? = some (vb (S.by8 d k))) := fun k hk => dg_at d k (by omega)
  generalize dg d = A at *
  have hB1 : Below w.heap.size w (w.alloc (.cells A 27)) := (Below.refl _ w).alloc (Nat.le_refl _) _
  have h10 : (w.alloc (.cells A 27)).heap.size = w.heap.size + 1 := by simp
  have hN1 : (w.alloc (.cells A 27)).heap[w.heap.size]? = some (.cells A 27 (0, 0)) := heap_alloc_new _ _
  have hO1 : ((w.alloc (.cells A 27)).alloc (.cells #[] 5)).ownsRow (w.heap.size + 1) 5 1 (.slice (some ⟨w.heap.size + 1, 0, none⟩) 0 0) 0 [] := by
    have := World.ownsRow_made (base := w.heap.size + 1) (e := 5) (size := 1) (w.alloc (.cells A 27)) #[] 0 (by rw [h10]; omega) (by simp [maxLen]) rfl
    rw [h10] at this; exact this
  have HO1 : Hid (((w.alloc (.cells A 27)).alloc (.cells #[] 5)).ownsRow (w.heap.size + 1) 5 1 (.slice (some ⟨w.heap.size + 1, 0, none⟩) 0 0) 0 (hexV d 0)) := by
    show World.ownsRow _ _ _ _ _ _ _
    rw [show hexV d 0 = [] by simp [hexV]]; exact hO1
  have HB1 : Hid (Below (w.heap.size + 1) (w.alloc (.cells A 27)) ((w.alloc (.cells A 27)).alloc (.cells #[] 5))) := (Below.refl _ _).alloc (by rw [h10]; omega) _
  have HN1 : Hid ((w.alloc (.cells A 27)).heap[w.heap.size]? = some (.cells A 27 (0, 0))) := hN1
  have HBW : Hid (Below w.heap.size w (w.alloc (.cells A 27))) := hB1
  have H10 : Hid ((w.alloc (.cells A 27)).heap.size = w.heap.size + 1) := h10
  have hds := digS_at
  unfold digS at hds
  have HDS : Hid (∀ n, n < 16 → ∀ (k : IntKind) (W : World), (Instr.index 9 (.string ⟨#[48, 49, 50, 51, 52, 53, 54, 55, 56, 57, 97, 98, 99, 100, 101, 102]⟩) (.int k (n : Nat))).run Tryd.prog W = .ok (vb (hexd n)) W) := hds
  clear hds hB1 h10 hN1 hO1
  go_enter Tryd.func16, Tryd.ntmps16
  go_wp2_with fail
  go_loopw [3, 4] (fun u3 u4 wr => ∃ k : Nat, k ≤ 32 ∧ u4 = .int .i64 k ∧ wr.ownsRow (w.heap.size + 1) 5 1 u3 (2 * k) (hexV d k) ∧ Below (w.heap.size + 1) (w.alloc (.cells A 27)) wr) (fun _ u4 _ => 32 - (intOf u4).toNat)
  case atStart => exact ⟨0, by omega, rfl, HO1.out, HB1.out⟩
  case round =>
    obtain ⟨k, hk, rfl, hown, hbe⟩ := hrel
    clear HO1 HB1
    have HOW : Hid (wr.ownsRow (w.heap.size + 1) 5 1 u3 (2 * k) (hexV d k)) := hown
    have HBE : Hid (Below (w.heap.size + 1) (w.alloc (.cells A 27)) wr) := hbe
    have hsz : w.heap.size + 1 ≤ wr.heap.size := by have := hbe.size; rw [H10.out] at this; exact this
    clear hown hbe
    by_cases hlt : k < 32
    · obtain ⟨x, hxe⟩ : ∃ x, x = S.by8 d k := ⟨_, rfl⟩
      have cA : wr.cell? ⟨w.heap.size, k, none⟩ = some (vb x) := by
        rw [HBE.out.cell (p := ⟨w.heap.size, k, none⟩) (show w.heap.size < w.heap.size + 1 by omega), cell_of_row _ _ k A _ _ HN1.out, hxe]; exact hA.out k hlt
      have HV := hexV_succ d k hlt
      rw [← hxe] at HV
      have HVS : Hid (hexV d (k + 1) = hexV d k ++ [vb (hexd (x.toNat / 16)), vb (hexd (x.toNat % 16))]) := HV
      clear hxe HV
      have hx8 := x.toNat_lt
      have d1 := HDS.out (x.toNat / 16) (by omega)
      have d2 := HDS.out (x.toNat % 16) (by omega)
      have e1 : Int.tdiv (x.toNat : Int) 16 = ((x.toNat / 16 : Nat) : Int) := by rw [Int.tdiv_eq_ediv_of_nonneg (by omega)]; omega
      have e2 : Int.tmod (x.toNat : Int) 16 = ((x.toNat % 16 : Nat) : Int) := by rw [Int.tmod_eq_emod_of_nonneg (by omega)]; omega
      have hk0 : (0 : Int) ≤ (k : Int) := by omega
      have hk1 : (k : Int) < 32 := by omega
      have e3 : IntKind.u8.wrap (((x.toNat / 16 : Nat) : Int)) = ((x.toNat / 16 : Nat) : Int) := by rw [IntKind.wrap_u8]; omega
      have e4 : IntKind.u8.wrap (((x.toNat % 16 : Nat) : Int)) = ((x.toNat % 16 : Nat) : Int) := by rw [IntKind.wrap_u8]; omega
      obtain ⟨m1, hm1⟩ : ∃ m, m = x.toNat / 16 := ⟨_, rfl⟩
      obtain ⟨m2, hm2⟩ : ∃ m, m = x.toNat % 16 := ⟨_, rfl⟩
      rw [← hm1] at d1 e1 e3 HVS
      rw [← hm2] at d2 e2 e4 HVS
      clear hm1 hm2
      obtain ⟨i0, hi, hz0, hz1, hz2⟩ := info_parts (show (Tryd.prog.info? 5).map (fun i => (i.zero, i.size, i.bytes)) = some (some (.int .u8 0), 1, 1) by kernel_rfl)
      obtain ⟨y1, hy1⟩ : ∃ y, y = hexd m1 := ⟨_, rfl⟩
      obtain ⟨y2, hy2⟩ : ∃ y, y = hexd m2 := ⟨_, rfl⟩
      rw [← hy1] at d1 HVS
      rw [← hy2] at d2 HVS
      clear hy1 hy2
      have hwb : w.heap.size < wr.heap.size := by omega
      have OWN : Hid (((wr.alloc (.cells #[vb y1, vb y2] 5)).drew).ownsRow (w.heap.size + 1) 5 1 u3 (2 * k) (hexV d k)) := World.ownsRow.alloc (w := wr) HOW.out _
      have NEWS : Hid (∀ j u, [vb y1, vb y2][j]? = some u → ((wr.alloc (.cells #[vb y1, vb y2] 5)).drew).cell? ((⟨wr.heap.size, 0, none⟩ : Addr).add j) = some u) := World.news_of_block (cs := #[vb y1, vb y2]) (heap_alloc_new wr _)
      have HLT : Hid (∀ q, u3.ownBlock = some q → w.heap.size + 1 ≤ q) := fun q hq => (HOW.out.lt q hq).1
      have KP : Hid (∀ W, Below wr.heap.size wr W → W.cell? ⟨w.heap.size, k, none⟩ = some (vb x)) := fun W hW => by rw [hW.cell (p := ⟨w.heap.size, k, none⟩) hwb]; exact cA
      have hb0 : Below wr.heap.size wr wr.drew := (Below.refl _ _).drew
      have hb1 : Below wr.heap.size wr ((wr.alloc (.cells #[vb y1, vb y2] 5)).drew) := ((Below.refl _ wr).alloc (Nat.le_refl _) _).drew
      have KG : Hid (∀ W, ((wr.alloc (.cells #[vb y1, vb y2] 5)).drew).grownBy W u3.ownBlock → W.cell? ⟨w.heap.size, k, none⟩ = some (vb x)) := fun W hg => by
        rw [hg.cell_far ⟨w.heap.size, k, none⟩ (by show w.heap.size < (wr.heap.push _).size; simp; omega) (fun h => by have := HLT.out w.heap.size h.symm; omega)]
        exact KP.out _ hb1
      go_wp2_with fail
      go_region_held3 (fun W => W.cell? ⟨w.heap.size, k, none⟩ = some (vb x))
        (first | exact KG.out _ hgrow9 | exact KP.out _ hb0 | exact KP.out _ hb1)
        ((refine step_append_lies _ (by rfl) _ _ 40 (by rfl) (w.heap.size + 1) 5 i0 (.int .u8 0) 1 1 Tryd.underlying40 hi hz0 hz1 hz2 rfl (by decide) _ (2 * k) _ (by rfl) OWN.out ⟨wr.heap.size, 0, none⟩ 2 2 [vb y1, vb y2] (by rfl) rfl NEWS.out (fun u hu => by simp at hu; rcases hu with rfl | rfl <;> rfl) (by decide) (by unfold maxLen; omega) (by omega) (by show w.heap.size + 1 ≤ (wr.heap.push _).size; simp; omega) (wr.heap.size + 1) (by show (wr.heap.push _).size = _; simp) ?_; intro g cap' w9 hown9 hgrow9 hat9 hlt9))
      all_goals
        have HO9 : Hid (w9.ownsRow (w.heap.size + 1) 5 1 (.slice (some ⟨g, 0, none⟩) (2 * k + 2) cap') (2 * (k + 1)) (hexV d (k + 1))) := by
          show World.ownsRow _ _ _ _ _ _ _
          rw [HVS.out]; exact hown9
        have HB9 : Hid (Below (w.heap.size + 1) (w.alloc (.cells A 27)) w9) := (HBE.out.trans (hb1.mono hsz)).grown hgrow9 (by show w.heap.size + 1 ≤ (wr.heap.push _).size; simp; omega) (fun q hq => HLT.out q hq)
        clear hown9 hgrow9 hat9 hb0 hb1
        go_wp2_with fail
        go_roundw
        case rel => exact ⟨k + 1, by omega, by go_num, HO9.out, HB9.out⟩
        case measure => simp [intOf]; omega
    · have hk32 : k = 32 := by omega
      subst hk32
      have hdf : decide ((32 : Int) < 32) = false := by simp
      have hcv : ∃ g cap, u3 = .slice (some ⟨g, 0, none⟩) 64 cap ∧ (convert 40 9 u3).run Tryd.prog wr = .ok (.string (M.bs (hexB d))) wr := by
        obtain ⟨h0, ⟨_, h2⟩ | ⟨g, cap, cur, h1, h2, h3, h4, h5, h6, h7⟩⟩ := HOW.out
        · omega
        · refine ⟨g, cap, h1, ?_⟩
          rw [h1]
          have hl := hexB_length d
          have hfull : hexV d 32 = (hexB d).map vb := by unfold hexV; rw [List.take_of_length_le (by omega)]
          have := run_convert_bytes_back (P := Tryd.prog) wr 40 9 5 ⟨g, 0, none⟩ cap (hexB d) Tryd.underlying40 Tryd.underlying5 Tryd.underlying9 (fun j hj => by
            rw [Addr.add_mid, Nat.zero_add, Lib.cell_of_heap h3]
            have h8 : (cur.toList.take (2 * 32 * 1))[j]? = (hexV d 32)[j]? := by rw [h7]
            rw [List.getElem?_take_of_lt (by omega), hfull, List.getElem?_map, List.getElem?_eq_getElem hj] at h8
            rw [Array.getElem?_toList] at h8
            simpa [vb] using h8)
          rw [hl] at this
          exact this
      obtain ⟨g, cap, rfl, hcv⟩ := hcv
      clear HOW HDS hA
      go_wp2_with fail
      go_ret
      exact ⟨rfl, HBW.out.trans (HBE.out.mono (by omega))⟩
end Go.Proofs.YtohpjindnfabaaaDoor
