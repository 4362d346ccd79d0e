/- What stamp.Row and stamp.Less answer. -/
import Derived.Test.YtfbjakhanjbaeaaDoorS11
namespace Go.Proofs.YtfbjakhanjbaeaaDoor
open Go.RowKit
set_option linter.unusedVariables false
attribute [local go_sem ↓] zero27

theorem TX.one {W : World} {sb : Nat} {t : List UInt8} (h1 : sb < W.heap.size) (h2 : W.cell? ⟨sb, 0, none⟩ = some (.string (M.bs t))) : TX W (some ⟨sb, 0, none⟩) [t] := fun i u hu => by
  rcases i with _ | i
  · simp at hu; subst hu; exact ⟨sb, 0, rfl, h1, h2⟩
  · simp at hu
theorem Of_one (t : List UInt8) (sb cap : Nat) (W : World) (hG : GW W) (h1 : sb < W.heap.size) (h2 : W.cell? ⟨sb, 0, none⟩ = some (.string (M.bs t))) (hlen : t.length ≤ 576460752303423488) :
    Calls Tryd.prog 24 #[.slice (some ⟨sb, 0, none⟩) 1 cap] W fun e w' => e = .returned (.agg (dg (S.sha t))) ∧ Below W.heap.size W w' := by
  have := Of_at [t] (some ⟨sb, 0, none⟩) cap W hG (TX.one h1 h2) (by simpa using hlen) (by simp)
  simpa using this

theorem Row_at (l : List (List UInt8)) (v : Value) (w : World) (hG : Hid (GW w)) (hv : Hid (Strs w.heap.size w v l)) (hlen : (M.rowB l).length ≤ 140737488355328) (hl : l.length ≤ 140737488355328) :
    Calls Tryd.prog 26 #[v] w fun e w' => e = .returned (.agg (dg (S.sha (M.rowB l)))) ∧ Below w.heap.size w w' := by
  have hz := hG.out.z
  have HB1 : Hid (Below w.heap.size w (w.alloc (.cells zero32 24))) := (Below.refl _ w).alloc (Nat.le_refl _) _
  have H10 : Hid ((w.alloc (.cells zero32 24)).heap.size = w.heap.size + 1) := by show _ = _; simp
  have HR0 : Hid ((w.alloc (.cells zero32 24)).heap[w.heap.size]? = some (.cells zero32 24 (0, 0))) := heap_alloc_new _ _
  have HC : Hid (Calls Tryd.prog 41 #[v] (w.alloc (.cells zero32 24)) fun e w' => e = .returned (.string (M.bs (M.rowB l))) ∧ Below (w.heap.size + 1) (w.alloc (.cells zero32 24)) w') := by
    have := row_any v l (w.alloc (.cells zero32 24)) (hv.out.below HB1.out (by rw [H10.out]; omega)) hlen hl
    rwa [H10.out] at this
  go_enter Tryd.func26, Tryd.ntmps26
  go_wp2_with (first
    | (go_at_call 41; refine HC.out.mono ?_; clear HC hv; rintro e w1 ⟨rfl, g1⟩)
    | (go_at_call 24; refine (Of_one (M.rowB l) _ _ _ ((hG.out.below (HB1.out.trans (g1.mono (by omega))) hz).below ((Below.refl _ w1).alloc (Nat.le_refl _) _) (by have := g1.size; have := H10.out; omega)) (by simp) (by simp) (by omega)).mono ?_; rintro e w3 ⟨rfl, g4⟩)
    | refine wpList_store_row rfl 24 _ _ rfl w.heap.size _ rfl rfl 24 zero32 (by rw [g4.block _ (by have := g1.size; have := H10.out; simp; omega), Below.heap_alloc _ _ _ (by have := g1.size; have := H10.out; omega), g1.block _ (by omega)]; exact HR0.out) (by rw [dg_size, S.sha_length]; exact info27) (by rw [dg_size, S.sha_length]; exact zero32_size) (dg_one _) ?_)
  have hsz1 : w.heap.size + 1 ≤ w1.heap.size := by have := g1.size; have := H10.out; omega
  have hf : w3.heap[w.heap.size]? = some (.cells zero32 24 (0, 0)) := by
    rw [g4.block _ (by simp; omega), Below.heap_alloc _ _ _ (by omega), g1.block _ (by omega)]; exact HR0.out
  (try simp only [Exit.inBlock, Exit.then])
  refine bodyPost_ret (results_cell_row rfl _ _ _ 24 _ (0, 0) _ rfl (setRow_heap _ _ _ _ _ _ hf) und27 rfl (by rw [dg_size, S.sha_length]; exact info27)) rfl ?_
  refine ⟨rfl, below_setRow ?_ (Nat.le_refl _) _⟩
  exact HB1.out.trans ((g1.mono (by omega)).trans (((Below.refl w.heap.size w1).alloc (by omega) _).trans (g4.mono (by simp; omega))))

/-- the order of bytes -/
def ltB : List UInt8 → List UInt8 → Bool
  | x :: a, y :: b => if x = y then ltB a b else decide (x.toNat < y.toNat)
  | _, _ => false
theorem ltB_at : ∀ (a b : List UInt8) (k : Nat), a.length = b.length → k < a.length → (∀ j, j < k → S.by8 a j = S.by8 b j) → S.by8 a k ≠ S.by8 b k → ltB a b = decide ((S.by8 a k).toNat < (S.by8 b k).toNat)
  | [], _, k, _, h, _, _ => by simp at h
  | _ :: _, [], k, h, _, _, _ => by simp at h
  | x :: a, y :: b, 0, _, _, _, hne => by
    have : x ≠ y := by simpa [S.by8] using hne
    simp [ltB, this, S.by8]
  | x :: a, y :: b, k + 1, hl, hk, hj, hne => by
    have h0 : x = y := by simpa [S.by8] using hj 0 (by omega)
    have ih := ltB_at a b k (by simpa using hl) (by simpa using hk) (fun j h => by have := hj (j + 1) (by omega); simpa [S.by8] using this) (by simpa [S.by8] using hne)
    simp only [ltB, h0, if_true]
    rw [ih]
    simp [S.by8]
theorem ltB_self : ∀ a : List UInt8, ltB a a = false
  | [] => rfl
  | x :: a => by simp [ltB, ltB_self a]
theorem eq_by8 {a b : List UInt8} (hl : a.length = b.length) (h : ∀ j, j < a.length → S.by8 a j = S.by8 b j) : a = b := by
  apply List.ext_getElem hl
  intro i h1 h2
  have := h i h1
  simpa [S.by8, List.getD_eq_getElem?_getD, List.getElem?_eq_getElem h1, List.getElem?_eq_getElem h2] using this
theorem dg_at (d : List UInt8) (k : Nat) (h : k < d.length) : (dg d)[k]? = some (vb (S.by8 d k)) := by
  unfold dg
  rw [List.getElem?_toArray, List.getElem?_map, List.getElem?_eq_getElem h]
  simp [S.by8, h]

set_option maxHeartbeats 1600000 in
theorem Less_at (a b : List UInt8) (ha : a.length = 32) (hb : b.length = 32) (w : World) :
    Calls Tryd.prog 25 #[.agg (dg a), .agg (dg b)] w fun e w' => e = .returned (.bool (ltB a b)) ∧ Below w.heap.size w w' := by
  have hA : Hid (∀ k, k < 32 → (dg a)[k]? = some (vb (S.by8 a k))) := fun k hk => dg_at a k (by omega)
  have hB : Hid (∀ k, k < 32 → (dg b)[k]? = some (vb (S.by8 b k))) := fun k hk => dg_at b k (by omega)
  have hsA : (dg a).size = 32 := by rw [dg_size, ha]
  have hsB : (dg b).size = 32 := by rw [dg_size, hb]
  generalize dg a = A at *
  generalize dg b = B at *
  obtain ⟨q, hq⟩ : ∃ q, q = ltB a b := ⟨_, rfl⟩
  rw [← hq]
  have HQ : Hid (q = ltB a b) := hq
  clear hq
  go_enter Tryd.func25, Tryd.ntmps25
  go_wp2_with fail
  go_loopw [5, 6] (fun u5 u6 wr => ∃ (k : Nat), k ≤ 32 ∧ u6 = .int .i64 k ∧ Below (w.heap.size + 2) ((w.alloc (.cells A 24)).alloc (.cells B 24)) wr ∧ ∀ j, j < k → S.by8 a j = S.by8 b j) (fun _ u6 _ => 32 - (intOf u6).toNat)
  case atStart => exact ⟨0, by omega, rfl, Below.refl _ _, fun j hj => by omega⟩
  case round =>
    obtain ⟨k, hk, rfl, hBl, hj⟩ := hrel
    have HJ : Hid (∀ j, j < k → S.by8 a j = S.by8 b j) := hj
    have HBl : Hid (Below (w.heap.size + 2) ((w.alloc (.cells A 24)).alloc (.cells B 24)) wr) := hBl
    clear hj hBl
    have HBw : Hid (Below w.heap.size w ((w.alloc (.cells A 24)).alloc (.cells B 24))) := ((Below.refl _ w).alloc (Nat.le_refl _) _).alloc (by simp) _
    by_cases hlt : k < 32
    · have cA : wr.cell? ⟨w.heap.size, k, none⟩ = some (vb (S.by8 a k)) := by
        rw [HBl.out.cell (p := ⟨w.heap.size, k, none⟩) (show w.heap.size < w.heap.size + 2 by omega), cell_of_row _ _ k A _ (0, 0) (by rw [Below.heap_alloc _ _ _ (by simp)]; exact heap_alloc_new _ _)]
        exact hA.out k hlt
      have cB : wr.cell? ⟨w.heap.size + 1, k, none⟩ = some (vb (S.by8 b k)) := by
        rw [HBl.out.cell (p := ⟨w.heap.size + 1, k, none⟩) (show w.heap.size + 1 < w.heap.size + 2 by omega), cell_of_row _ _ k B _ (0, 0) (by
          have := heap_alloc_new (w.alloc (.cells A 24)) (.cells B 24)
          rwa [show (w.alloc (.cells A 24)).heap.size = w.heap.size + 1 by simp] at this)]
        exact hB.out k hlt
      have i0 : (0 : Int) ≤ (k : Int) := by omega
      have j0 : (k : Int) < 32 := by omega
      have HE := ltB_at a b k (by omega) (by omega) HJ.out
      have HE2 : Hid (S.by8 a k ≠ S.by8 b k → ltB a b = decide ((S.by8 a k).toNat < (S.by8 b k).toNat)) := HE
      have HN : Hid (S.by8 a k = S.by8 b k ↔ (S.by8 a k).toNat = (S.by8 b k).toNat) := UInt8.toNat_inj.symm
      clear HE
      have HS : Hid (∀ j, j < k + 1 → S.by8 a k = S.by8 b k → S.by8 a j = S.by8 b j) := fun j hj he => by
        by_cases h : j = k
        · subst h; exact he
        · exact HJ.out j (by omega)
      generalize S.by8 a k = x at *
      generalize S.by8 b k = y at *
      by_cases hxy : x.toNat = y.toNat
      · have hxI : ((x.toNat : Int) == (y.toNat : Int)) = true := by simp [hxy]
        have hxI2 : ((x.toNat : Int) != (y.toNat : Int)) = false := by simp [hxy]
        go_wp2_with fail
        go_quiet (fail)
        go_wp2_with fail
        go_roundw
        case rel => exact ⟨k + 1, by omega, by go_num, below_drewN HBl.out _, fun j hj => HS.out j hj (HN.out.2 hxy)⟩
        case measure => simp [intOf]; omega
      · have hxI : ((x.toNat : Int) == (y.toNat : Int)) = false := by simp; omega
        have hxI2 : ((x.toNat : Int) != (y.toNat : Int)) = true := by simp; omega
        have hql : decide (x.toNat < y.toNat) = q := by
          rw [HQ.out, HE2.out (fun e => hxy (HN.out.1 e))]
        clear HQ
        go_wp2_with fail
        go_quiet (fail)
        go_wp2_with fail
        go_quiet (fail)
        go_wp2_with fail
        go_ret
        exact ⟨by rw [← hql]; rfl, HBw.out.trans ((below_drewN (below_drewN HBl.out _) _).mono (by omega))⟩
    · have hdf : decide ((k : Int) < 32) = false := by simp; omega
      have hqf : q = false := by
        rw [HQ.out, eq_by8 (by omega) (fun j hj => HJ.out j (by omega)), ltB_self]
      subst hqf
      go_wp2_with fail
      go_ret
      exact ⟨rfl, HBw.out.trans (HBl.out.mono (by omega))⟩
end Go.Proofs.YtfbjakhanjbaeaaDoor
