/- The texts Y5c ShF Y5g Y5h as one. -/
import Derived.Test.YtlkllcnnnndllaaGreatDoorN12
import Derived.Sort.Grow
import Derived.Shelf.SlSortCmp.WholeK
import Derived.Test.YtlkllcnnnndllaaGreatDoorProg
import Derived.Lib.OwnBridge
import Derived.Test.YtlkllcnnnndllaaGreatDoorN18
import Derived.Deep.AppendLies
/- For HivePower: the order of digests, with the world that it leaves; Keys' sort. -/
namespace Go.Proofs.YtlkllcnnnndllaaGreatDoor
open Go.RowKit Go.Maps Go.Sort
set_option linter.unusedVariables false
set_option linter.unusedSimpArgs false

/-- w', but for draws and new blocks, is w -/
def Gn (w w' : World) : Prop := ∃ (q : Nat) (os : Array Obj), w' = grow (w.drewN q) os
theorem grow_none (w : World) : grow w #[] = w := by simp [grow]
theorem drewN_grow (w : World) (os : Array Obj) : ∀ n, (grow w os).drewN n = grow (w.drewN n) os
  | 0 => rfl
  | n + 1 => by
    have h1 : (grow w os).drewN (n + 1) = ((grow w os).drewN n).drewN 1 := by rw [World.drewN_drewN]
    have h2 : w.drewN (n + 1) = (w.drewN n).drewN 1 := by rw [World.drewN_drewN]
    rw [h1, drewN_grow w os n, h2]
    rfl
theorem Gn.refl (w : World) : Gn w w := ⟨0, #[], by rw [grow_none]; rfl⟩
theorem Gn.alloc {w w' : World} (h : Gn w w') (o : Obj) : Gn w (w'.alloc o) := by
  obtain ⟨q, os, rfl⟩ := h
  exact ⟨q, os ++ #[o], by rw [alloc_eq_grow, grow_grow]⟩
theorem Gn.drewN {w w' : World} (h : Gn w w') (n : Nat) : Gn w (w'.drewN n) := by
  obtain ⟨q, os, rfl⟩ := h
  exact ⟨q + n, os, by rw [drewN_grow, World.drewN_drewN]⟩
theorem Gn.trans {w w' w'' : World} (h : Gn w w') (k : Gn w' w'') : Gn w w'' := by
  obtain ⟨q, os, rfl⟩ := h
  obtain ⟨p, os', rfl⟩ := k
  exact ⟨q + p, os ++ os', by rw [drewN_grow, World.drewN_drewN, grow_grow]⟩
theorem Gn.below {w w' : World} (h : Gn w w') : Below w.heap.size w w' := by
  obtain ⟨q, os, rfl⟩ := h
  have hb := below_drewN (Below.refl w.heap.size w) q
  refine ⟨hb.os, hb.tape, hb.output, ?_, fun k hk => ?_⟩
  · show w.heap.size ≤ ((w.drewN q).heap ++ os).size
    have := hb.size
    rw [Array.size_append]; omega
  · show ((w.drewN q).heap ++ os)[k]? = _
    rw [Array.getElem?_append_left (by have := hb.size; omega)]
    exact hb.block k hk
set_option maxHeartbeats 1600000 in
theorem Less_gn (a b : List UInt8) (ha : a.length = 32) (hb : b.length = 32) (w : World) :
    Calls Tryz.prog 63 #[.agg (dg a), .agg (dg b)] w fun e w' => e = .returned (.bool (ltB a b)) ∧ Gn w w' := by
  have hA : Hid (∀ k, k < 32 → (dg a)[k]? = some (vb (S.by8 a k))) := fun k hk => dg_at a k (by omega)
  have hB : Hid (∀ k, k < 32 → (dg b)[k]? = some (vb (S.by8 b k))) := fun k hk => dg_at b k (by omega)
  have hsA : (dg a).size = 32 := by rw [dg_size, ha]
  have hsB : (dg b).size = 32 := by rw [dg_size, hb]
  generalize dg a = A at *
  generalize dg b = B at *
  obtain ⟨q, hq⟩ : ∃ q, q = ltB a b := ⟨_, rfl⟩
  rw [← hq]
  have HQ : Hid (q = ltB a b) := hq
  clear hq
  go_enter Tryz.func63, Tryz.ntmps63
  go_wp2_with fail
  go_loopw [5, 6] (fun u5 u6 wr => ∃ (k : Nat), k ≤ 32 ∧ u6 = .int .i64 k ∧ (∃ n, wr = ((w.alloc (.cells A 39)).alloc (.cells B 39)).drewN n) ∧ ∀ j, j < k → S.by8 a j = S.by8 b j) (fun _ u6 _ => 32 - (intOf u6).toNat)
  case atStart => exact ⟨0, by omega, rfl, ⟨0, rfl⟩, fun j hj => by omega⟩
  case round =>
    obtain ⟨k, hk, rfl, ⟨n, hwr⟩, hj⟩ := hrel
    have HWR : Hid (wr = ((w.alloc (.cells A 39)).alloc (.cells B 39)).drewN n) := hwr
    have hBl : Below (w.heap.size + 2) ((w.alloc (.cells A 39)).alloc (.cells B 39)) wr := by rw [hwr]; exact below_drewN (Below.refl _ _) n
    clear hwr
    have HJ : Hid (∀ j, j < k → S.by8 a j = S.by8 b j) := hj
    have HBl : Hid (Below (w.heap.size + 2) ((w.alloc (.cells A 39)).alloc (.cells B 39)) wr) := hBl
    clear hj hBl
    have HGN : Hid (∀ q, Gn w (wr.drewN q)) := fun q => by rw [HWR.out]; exact ((((Gn.refl w).alloc _).alloc _).drewN n).drewN q
    by_cases hlt : k < 32
    · have cA : wr.cell? ⟨w.heap.size, k, none⟩ = some (vb (S.by8 a k)) := by
        rw [HBl.out.cell (p := ⟨w.heap.size, k, none⟩) (show w.heap.size < w.heap.size + 2 by omega), cell_of_row _ _ k A _ (0, 0) (by rw [Below.heap_alloc _ _ _ (by simp)]; exact heap_alloc_new _ _)]
        exact hA.out k hlt
      have cB : wr.cell? ⟨w.heap.size + 1, k, none⟩ = some (vb (S.by8 b k)) := by
        rw [HBl.out.cell (p := ⟨w.heap.size + 1, k, none⟩) (show w.heap.size + 1 < w.heap.size + 2 by omega), cell_of_row _ _ k B _ (0, 0) (by
          have := heap_alloc_new (w.alloc (.cells A 39)) (.cells B 39)
          rwa [show (w.alloc (.cells A 39)).heap.size = w.heap.size + 1 by simp] at this)]
        exact hB.out k hlt
      have i0 : (0 : Int) ≤ (k : Int) := by omega
      have j0 : (k : Int) < 32 := by omega
      have HE := ltB_at a b k (by omega) (by omega) HJ.out
      have HE2 : Hid (S.by8 a k ≠ S.by8 b k → ltB a b = decide ((S.by8 a k).toNat < (S.by8 b k).toNat)) := HE
      have HN : Hid (S.by8 a k = S.by8 b k ↔ (S.by8 a k).toNat = (S.by8 b k).toNat) := UInt8.toNat_inj.symm
      clear HE
      have HS : Hid (∀ j, j < k + 1 → S.by8 a k = S.by8 b k → S.by8 a j = S.by8 b j) := fun j hj he => by
        by_cases h : j = k
        · subst h; exact he
        · exact HJ.out j (by omega)
      generalize S.by8 a k = x at *
      generalize S.by8 b k = y at *
      by_cases hxy : x.toNat = y.toNat
      · have hxI : ((x.toNat : Int) == (y.toNat : Int)) = true := by simp [hxy]
        have hxI2 : ((x.toNat : Int) != (y.toNat : Int)) = false := by simp [hxy]
        go_wp2_with fail
        go_quiet (fail)
        go_wp2_with fail
        go_roundw
        case rel => exact ⟨k + 1, by omega, by go_num, ⟨_, by rw [HWR.out, World.drewN_drewN]⟩, fun j hj => HS.out j hj (HN.out.2 hxy)⟩
        case measure => simp [intOf]; omega
      · have hxI : ((x.toNat : Int) == (y.toNat : Int)) = false := by simp; omega
        have hxI2 : ((x.toNat : Int) != (y.toNat : Int)) = true := by simp; omega
        have hql : decide (x.toNat < y.toNat) = q := by
          rw [HQ.out, HE2.out (fun e => hxy (HN.out.1 e))]
        clear HQ
        go_wp2_with fail
        go_quiet (fail)
        go_wp2_with fail
        go_quiet (fail)
        go_wp2_with fail
        go_ret
        exact ⟨by rw [← hql]; rfl, (HGN.out _).drewN _⟩
    · have hdf : decide ((k : Int) < 32) = false := by simp; omega
      have hqf : q = false := by
        rw [HQ.out, eq_by8 (by omega) (fun j hj => HJ.out j (by omega)), ltB_self]
      subst hqf
      go_wp2_with fail
      go_ret
      exact ⟨rfl, HGN.out 0⟩

def ordI (a b : List UInt8) : Int := if ltB a b then -1 else if ltB b a then 1 else 0
set_option maxHeartbeats 1600000 in
theorem order_gn (a b : List UInt8) (ha : a.length = 32) (hb : b.length = 32) (W : World) :
    Calls Tryz.prog 45 #[.agg (dg a), .agg (dg b)] W fun e w' => e = .returned (.int .i64 (ordI a b)) ∧ Gn W w' := by
  have hsA : (dg a).size = 32 := by rw [dg_size, ha]
  have hsB : (dg b).size = 32 := by rw [dg_size, hb]
  have G0 : Gn W ((W.alloc (.cells (dg a) 39)).alloc (.cells (dg b) 39)) := ((Gn.refl W).alloc _).alloc _
  have H0 : Hid (∀ w', Gn ((W.alloc (.cells (dg a) 39)).alloc (.cells (dg b) 39)) w' → w'.heap[W.heap.size]? = some (.cells (dg a) 39 (0, 0)) ∧ w'.heap[W.heap.size + 1]? = some (.cells (dg b) 39 (0, 0))) := fun w' h => by
    have hh := h.below
    refine ⟨by rw [hh.block _ (by simp; omega), Below.heap_alloc _ _ _ (by simp)]; exact heap_alloc_new _ _, by rw [hh.block _ (by simp)]; exact new2 _ _ _⟩
  have HT : Hid (∀ w', Gn ((W.alloc (.cells (dg a) 39)).alloc (.cells (dg b) 39)) w' → Gn W w') := fun w' h => G0.trans h
  have C1 : Hid (∀ w', Gn ((W.alloc (.cells (dg a) 39)).alloc (.cells (dg b) 39)) w' → Calls Tryz.prog 63 #[.agg (dg a), .agg (dg b)] w' fun e w'' => e = .returned (.bool (ltB a b)) ∧ Gn ((W.alloc (.cells (dg a) 39)).alloc (.cells (dg b) 39)) w'') := fun w' h => by
    refine (Less_gn a b ha hb w').mono ?_
    rintro e w'' ⟨rfl, g⟩; exact ⟨rfl, h.trans g⟩
  have C2 : Hid (∀ w', Gn ((W.alloc (.cells (dg a) 39)).alloc (.cells (dg b) 39)) w' → Calls Tryz.prog 63 #[.agg (dg b), .agg (dg a)] w' fun e w'' => e = .returned (.bool (ltB b a)) ∧ Gn ((W.alloc (.cells (dg a) 39)).alloc (.cells (dg b) 39)) w'') := fun w' h => by
    refine (Less_gn b a hb ha w').mono ?_
    rintro e w'' ⟨rfl, g⟩; exact ⟨rfl, h.trans g⟩
  have LX : Gn ((W.alloc (.cells (dg a) 39)).alloc (.cells (dg b) 39)) ((W.alloc (.cells (dg a) 39)).alloc (.cells (dg b) 39)) := Gn.refl _
  have HO : Hid (∀ p q, ltB a b = p → ltB b a = q → ordI a b = if p then -1 else if q then 1 else 0) := fun p q h1 h2 => by unfold ordI; rw [h1, h2]
  obtain ⟨p, hp⟩ : ∃ p, ltB a b = p := ⟨_, rfl⟩
  obtain ⟨q, hq⟩ : ∃ q, ltB b a = q := ⟨_, rfl⟩
  have HO2 := HO.out p q hp hq
  rw [hp] at C1
  rw [hq] at C2
  rw [HO2]
  clear HO HO2 hp hq G0
  have LY := LX
  generalize dg a = A at *
  generalize dg b = B at *
  cases p
  · cases q
    all_goals
      go_enter Tryz.func45, Tryz.ntmps45
      go_wp2_with (first
        | (refine wpList_load_row rfl 39 _ rfl W.heap.size rfl 39 A (0, 0) _ (H0.out _ LX).1 und27 rfl (by rw [hsA]; exact info27) ?_)
        | (refine wpList_load_row rfl 39 _ rfl (W.heap.size + 1) rfl 39 B (0, 0) _ (H0.out _ LX).2 und27 rfl (by rw [hsB]; exact info27) ?_)
        | (go_at_call 63; refine (C1.out _ LX).mono ?_; clear C1 LX; rintro e w1 ⟨rfl, LX⟩)
        | (go_at_call 63; refine (C2.out _ LX).mono ?_; clear C2 LX; rintro e w2 ⟨rfl, LX⟩))
      go_ret
      exact ⟨rfl, HT.out _ LX⟩
  · go_enter Tryz.func45, Tryz.ntmps45
    go_wp2_with (first
      | (refine wpList_load_row rfl 39 _ rfl W.heap.size rfl 39 A (0, 0) _ (H0.out _ LX).1 und27 rfl (by rw [hsA]; exact info27) ?_)
      | (refine wpList_load_row rfl 39 _ rfl (W.heap.size + 1) rfl 39 B (0, 0) _ (H0.out _ LX).2 und27 rfl (by rw [hsB]; exact info27) ?_)
      | (go_at_call 63; refine (C1.out _ LX).mono ?_; clear C1 LX; rintro e w1 ⟨rfl, LX⟩))
    go_ret
    exact ⟨rfl, HT.out _ LX⟩
end Go.Proofs.YtlkllcnnnndllaaGreatDoor

/- The library's contract for slices.SortFunc at api.Digest, laid at this program. -/
namespace Go.Proofs
open Go.Shelf
def Tryz.sortD_ren : Go.Shelf.Ren := ⟨fun | 6 => 44 | 15 => 62 | 14 => 61 | 28 => 82 | 29 => 72 | 20 => 74 | 21 => 75 | 22 => 76 | 23 => 77 | 24 => 78 | 25 => 79 | 26 => 80 | 27 => 81 | 46 => 91 | 47 => 92 | 48 => 93 | 49 => 94 | 50 => 95 | 57 => 101 | n => n, fun | 22 => 55 | 24 => 39 | 25 => 98 | 3 => 3 | 39 => 37 | 0 => 0 | 53 => 113 | 55 => 131 | 4 => 4 | 46 => 137 | 45 => 136 | 50 => 109 | 5 => 5 | 9 => 9 | 66 => 161 | 70 => 165 | 76 => 171 | 77 => 172 | n => n, fun n => n⟩
theorem Tryz.sortD : Go.Proofs.SlLaysF0.n6 Tryz.prog Tryz.sortD_ren := {
  mixed := by kernel_rfl
  f6 := ⟨ "slices.SortFunc[[]apiary/api.Digest,apiary/api.Digest]", by decide, Tryz.func44.trans (congrArg some (by kernel_rfl))⟩
  f14 := ⟨ "slices.pdqsortCmpFunc[apiary/api.Digest]", by decide, Tryz.func61.trans (congrArg some (by kernel_rfl))⟩
  f15 := Tryz.func62.trans (congrArg some (by kernel_rfl))
  f20 := ⟨ "slices.insertionSortCmpFunc[apiary/api.Digest]", by decide, Tryz.func74.trans (congrArg some (by kernel_rfl))⟩
  f21 := ⟨ "slices.heapSortCmpFunc[apiary/api.Digest]", by decide, Tryz.func75.trans (congrArg some (by kernel_rfl))⟩
  f22 := ⟨ "slices.breakPatternsCmpFunc[apiary/api.Digest]", by decide, Tryz.func76.trans (congrArg some (by kernel_rfl))⟩
  f23 := ⟨ "slices.choosePivotCmpFunc[apiary/api.Digest]", by decide, Tryz.func77.trans (congrArg some (by kernel_rfl))⟩
  f24 := ⟨ "slices.reverseRangeCmpFunc[apiary/api.Digest]", by decide, Tryz.func78.trans (congrArg some (by kernel_rfl))⟩
  f25 := ⟨ "slices.partialInsertionSortCmpFunc[apiary/api.Digest]", by decide, Tryz.func79.trans (congrArg some (by kernel_rfl))⟩
  f26 := ⟨ "slices.partitionEqualCmpFunc[apiary/api.Digest]", by decide, Tryz.func80.trans (congrArg some (by kernel_rfl))⟩
  f27 := ⟨ "slices.partitionCmpFunc[apiary/api.Digest]", by decide, Tryz.func81.trans (congrArg some (by kernel_rfl))⟩
  f28 := Tryz.func82.trans (congrArg some (by kernel_rfl))
  f29 := Tryz.func72.trans (congrArg some (by kernel_rfl))
  f46 := ⟨ "slices.siftDownCmpFunc[apiary/api.Digest]", by decide, Tryz.func91.trans (congrArg some (by kernel_rfl))⟩
  f47 := Tryz.func92.trans (congrArg some (by kernel_rfl))
  f48 := Tryz.func93.trans (congrArg some (by kernel_rfl))
  f49 := ⟨ "slices.medianAdjacentCmpFunc[apiary/api.Digest]", by decide, Tryz.func94.trans (congrArg some (by kernel_rfl))⟩
  f50 := ⟨ "slices.medianCmpFunc[apiary/api.Digest]", by decide, Tryz.func95.trans (congrArg some (by kernel_rfl))⟩
  f57 := ⟨ "slices.order2CmpFunc[apiary/api.Digest]", by decide, Tryz.func101.trans (congrArg some (by kernel_rfl))⟩
  t0 := Tryz.underlying0
  a0 := Tryz.isAgg0
  z0 := Tryz.sizeOf0
  v0 := Tryz.zeroValue0
  t3 := Tryz.underlying3
  a3 := Tryz.isAgg3
  z3 := Tryz.sizeOf3
  v3 := Tryz.zeroValue3
  t4 := Tryz.underlying4
  a4 := Tryz.isAgg4
  z4 := Tryz.sizeOf4
  v4 := Tryz.zeroValue4
  t5 := Tryz.underlying5
  a5 := Tryz.isAgg5
  z5 := Tryz.sizeOf5
  v5 := Tryz.zeroValue5
  t9 := Tryz.underlying9
  a9 := Tryz.isAgg9
  z9 := Tryz.sizeOf9
  v9 := Tryz.zeroValue9
  t22 := Tryz.underlying55
  a22 := Tryz.isAgg55
  z22 := Tryz.sizeOf55
  v22 := Tryz.zeroValue55
  t25 := Tryz.underlying98
  a25 := Tryz.isAgg98
  z25 := Tryz.sizeOf98
  v25 := Tryz.zeroValue98
  t39 := Tryz.underlying37
  a39 := Tryz.isAgg37
  z39 := Tryz.sizeOf37
  v39 := Tryz.zeroValue37
  t45 := Tryz.underlying136
  a45 := Tryz.isAgg136
  z45 := Tryz.sizeOf136
  v45 := Tryz.zeroValue136
  t46 := Tryz.underlying137
  a46 := Tryz.isAgg137
  z46 := Tryz.sizeOf137
  v46 := Tryz.zeroValue137
  t50 := Tryz.underlying109
  a50 := Tryz.isAgg109
  z50 := Tryz.sizeOf109
  v50 := Tryz.zeroValue109
  t53 := Tryz.underlying113
  a53 := Tryz.isAgg113
  z53 := Tryz.sizeOf113
  v53 := Tryz.zeroValue113
  t55 := Tryz.underlying131
  a55 := Tryz.isAgg131
  z55 := Tryz.sizeOf131
  v55 := Tryz.zeroValue131
  t66 := Tryz.underlying161
  a66 := Tryz.isAgg161
  z66 := Tryz.sizeOf161
  v66 := Tryz.zeroValue161
  t70 := Tryz.underlying165
  a70 := Tryz.isAgg165
  z70 := Tryz.sizeOf165
  v70 := Tryz.zeroValue165
  t76 := Tryz.underlying171
  a76 := Tryz.isAgg171
  z76 := Tryz.sizeOf171
  v76 := Tryz.zeroValue171
  t77 := Tryz.underlying172
  a77 := Tryz.isAgg172
  z77 := Tryz.sizeOf172
  v77 := Tryz.zeroValue172
}
end Go.Proofs

/- For HivePower: slices.SortFunc at digests. -/
namespace Go.Proofs.YtlkllcnnnndllaaGreatDoor
open Go.RowKit Go.Maps Go.Sort Go.Shelf
set_option linter.unusedVariables false
set_option linter.unusedSimpArgs false

theorem ltB_tri5 : ∀ a b : List UInt8, a.length = b.length → (a = b ∧ ltB a b = false ∧ ltB b a = false) ∨ (a ≠ b ∧ ltB a b = true ∧ ltB b a = false) ∨ (a ≠ b ∧ ltB a b = false ∧ ltB b a = true)
  | [], [], _ => .inl ⟨rfl, rfl, rfl⟩
  | [], _ :: _, h => by simp at h
  | _ :: _, [], h => by simp at h
  | x :: a, y :: b, h => by
    have ih := ltB_tri5 a b (by simpa using h)
    by_cases hxy : x = y
    · subst hxy
      rcases ih with ⟨rfl, h1, h2⟩ | ⟨h0, h1, h2⟩ | ⟨h0, h1, h2⟩
      · exact Or.inl ⟨rfl, by simp [ltB, h1], by simp [ltB, h1]⟩
      · exact Or.inr (Or.inl ⟨by simp [h0], by simp [ltB, h1], by simp [ltB, h2]⟩)
      · exact Or.inr (Or.inr ⟨by simp [h0], by simp [ltB, h1], by simp [ltB, h2]⟩)
    · have hyx : ¬ y = x := fun e => hxy e.symm
      have hn : x.toNat ≠ y.toNat := fun e => hxy (UInt8.toNat_inj.1 e)
      by_cases hl : x.toNat < y.toNat
      · exact Or.inr (Or.inl ⟨by simp [hxy], by simp only [ltB, if_neg hxy]; simpa using hl, by simp only [ltB, if_neg hyx]; simp; omega⟩)
      · exact Or.inr (Or.inr ⟨by simp [hxy], by simp only [ltB, if_neg hxy]; simp; omega, by simp only [ltB, if_neg hyx]; simp; omega⟩)
theorem ltB_trans5 : ∀ a b c : List UInt8, ltB a b = true → ltB b c = true → ltB a c = true
  | [], _, _, h, _ => by simp [ltB] at h
  | _ :: _, [], _, h, _ => by simp [ltB] at h
  | _ :: _, _ :: _, [], _, h => by simp [ltB] at h
  | x :: a, y :: b, z :: c, h1, h2 => by
    simp only [ltB] at h1 h2 ⊢
    by_cases hxy : x = y
    · subst hxy
      by_cases hxz : x = z
      · subst hxz
        rw [if_pos rfl] at h1 h2 ⊢
        exact ltB_trans5 a b c h1 h2
      · rw [if_neg hxz] at h2 ⊢; exact h2
    · rw [if_neg hxy] at h1
      by_cases hyz : y = z
      · subst hyz
        rw [if_neg hxy]; exact h1
      · rw [if_neg hyz] at h2
        simp only [decide_eq_true_eq] at h1 h2
        have hxz : ¬ x = z := fun e => by subst e; omega
        rw [if_neg hxz]
        simp only [decide_eq_true_eq]
        omega
/-- a digest -/
abbrev Dg := { d : List UInt8 // d.length = 32 }
@[reducible] def dgI : Inhabited Dg := ⟨⟨V.zd, zd_length⟩⟩
def encD (d : Dg) : List Value := d.1.map vb
def cfD (x y : Dg) : Int := ordI x.1 y.1
theorem ltD (x y : Dg) : ltOf cfD x y = ltB x.1 y.1 := by
  unfold ltOf cfD ordI
  cases h : ltB x.1 y.1 with
  | true => simp
  | false => cases h2 : ltB y.1 x.1 <;> simp
theorem swoD : SWO (ltOf cfD) where
  irrefl x := by rw [ltD]; exact ltB_self _
  trans x y z h1 h2 := by rw [ltD] at *; exact ltB_trans5 _ _ _ h1 h2
  ntrans x y z h1 h2 := by
    rw [ltD] at *
    cases h3 : ltB x.1 z.1 with
    | false => rfl
    | true =>
      exfalso
      rcases ltB_tri5 x.1 y.1 (by rw [x.2, y.2]) with ⟨e, _⟩ | ⟨_, h4, _⟩ | ⟨_, _, h4⟩
      · rw [e, h2] at h3; cases h3
      · rw [h1] at h4; cases h4
      · have := ltB_trans5 _ _ _ h4 h3
        rw [h2] at this; cases this
theorem cmpD [Inhabited Dg] (blk off size : Nat) (w : World) : CmpLays Tryz.prog 45 #[] encD 32 cfD blk off size w := fun m os dk hs x y => by
  have := order_gn x.1 y.1 x.2 y.2 (sortWorldK encD 32 w blk off m dk os)
  exact this
theorem sort_dg [Inhabited Dg] (g cap : Nat) (L : List Dg) (W : World) (hH : HoldsK encD 32 W g 0 L.toArray) (hg : g < W.heap.size) (hl : L.length < 4611686018427387904) :
    Calls Tryz.prog 44 #[.slice (some ⟨g, 0, none⟩) L.length cap, fnOrd] W fun e w' => e = .returned (.tuple #[]) ∧ ∃ (d' : Array Dg) (n : Nat) (os : Array Obj), d'.toList.Perm L ∧ w' = sortWorldK encD 32 W g 0 n d' os := by
  have eg : ∀ args w, (callFunc 45 args).run Tryz.prog w = .ok (.enter 45 args) w := enters_of Tryz.func45 (by kernel_rfl) rfl
  have hcon := AnyQ.slices_SortFunc Tryz.sortD 32 Tryz.isAgg39 Tryz.sizeOf39 encD (fun x => by simp [encD, x.2]) (fun x v hv => all_vb v hv) cfD swoD 45 #[] g 0 cap L.toArray W eg (cmpD g 0 _ W) hH hg (by simpa using hl)
  have hcon' : Calls Tryz.prog 44 #[.slice (some ⟨g, 0, none⟩) L.length cap, fnOrd] W _ := hcon
  refine hcon'.mono ?_
  rintro e w' ⟨rfl, d', n, os, hp, _, rfl⟩
  refine ⟨rfl, d', n, os, ?_, rfl⟩
  obtain ⟨h1, _, h3⟩ := hp
  have e1 : d'.extract 0 L.toArray.size = d' := by rw [← h1]; simp
  have e2 : L.toArray.extract 0 L.toArray.size = L.toArray := by simp
  rw [e1, e2] at h3
  simpa using h3
end Go.Proofs.YtlkllcnnnndllaaGreatDoor

/- For HivePower: Keys. -/
namespace Go.Proofs.YtlkllcnnnndllaaGreatDoor
open Go.RowKit Go.Maps Go.Sort Go.Shelf
set_option linter.unusedVariables false
set_option linter.unusedSimpArgs false

/-- the keys of the records among entries -/
def kL (es : List V.En) : List (List UInt8) := (es.filter (fun e => decide (e.kind = V.kr))).map (·.dig)
theorem kL_yes {es : List V.En} {k : Nat} {e : V.En} (he : es[k]? = some e) (h : e.kind = V.kr) : kL (es.take (k + 1)) = kL (es.take k) ++ [e.dig] := by
  unfold kL; rw [List.take_add_one, he]; simp [h]
theorem kL_no {es : List V.En} {k : Nat} {e : V.En} (he : es[k]? = some e) (h : e.kind ≠ V.kr) : kL (es.take (k + 1)) = kL (es.take k) := by
  unfold kL; rw [List.take_add_one, he]; simp [h]
theorem kL_le (es : List V.En) (k : Nat) : (kL (es.take k)).length ≤ k := by
  unfold kL
  rw [List.length_map]
  exact Nat.le_trans (List.length_filter_le _ _) (List.length_take_le _ _)
theorem kL_32 {es : List V.En} (h : All32 es) : ∀ d ∈ kL es, d.length = 32 := fun d hd => by
  unfold kL at hd
  obtain ⟨e, he, rfl⟩ := List.mem_map.1 hd
  obtain ⟨i, hi⟩ := List.mem_iff_getElem?.1 (List.mem_filter.1 he).1
  exact (h i e hi).d
/-- digests' cells in a row -/
def flD (L : List (List UInt8)) : List Value := L.flatMap (fun d => d.map vb)
theorem flD_len : ∀ {L : List (List UInt8)}, (∀ d ∈ L, d.length = 32) → (flD L).length = L.length * 32
  | [], _ => rfl
  | d :: r, h => by
    have hr := flD_len (L := r) (fun x hx => h x (List.mem_cons_of_mem _ hx))
    have hd := h d (List.mem_cons_self ..)
    unfold flD at hr ⊢
    rw [List.flatMap_cons, List.length_append, List.length_map, hd, hr, List.length_cons]; omega
theorem flD_at : ∀ {L : List (List UInt8)} (_ : ∀ d ∈ L, d.length = 32) {i : Nat} {d : List UInt8}, L[i]? = some d → ∃ a z, flD L = a ++ (d.map vb ++ z) ∧ a.length = i * 32
  | [], _, i, d, h => by simp at h
  | x :: r, hA, i, d, h => by
    cases i with
    | zero =>
      simp at h; subst h
      exact ⟨[], flD r, rfl, rfl⟩
    | succ i =>
      have h' : r[i]? = some d := by simpa using h
      obtain ⟨a, z, h1, h2⟩ := flD_at (L := r) (fun y hy => hA y (List.mem_cons_of_mem _ hy)) h'
      refine ⟨x.map vb ++ a, z, ?_, by rw [List.length_append, List.length_map, hA x (List.mem_cons_self ..), h2]; omega⟩
      unfold flD at h1 ⊢
      rw [List.flatMap_cons, h1, List.append_assoc]
/-- digests with their lengths -/
def mkD (L : List (List UInt8)) : List Dg := L.filterMap (fun d => if h : d.length = 32 then some ⟨d, h⟩ else none)
def valD (D : List Dg) : List (List UInt8) := D.map Subtype.val
theorem valD_len (D : List Dg) : (valD D).length = D.length := List.length_map ..
theorem valD_32 (D : List Dg) : ∀ d ∈ valD D, d.length = 32 := fun d hd => by obtain ⟨x, _, rfl⟩ := List.mem_map.1 hd; exact x.2
theorem mkD_val : ∀ {L : List (List UInt8)}, (∀ d ∈ L, d.length = 32) → valD (mkD L) = L
  | [], _ => rfl
  | d :: r, h => by
    have hd := h d (List.mem_cons_self ..)
    have hr := mkD_val (L := r) (fun x hx => h x (List.mem_cons_of_mem _ hx))
    unfold valD mkD at hr ⊢
    rw [List.filterMap_cons, dif_pos hd, List.map_cons, hr]
theorem flat_eq [Inhabited Dg] (D : List Dg) : flatK encD 32 D.toArray = (flD (valD D)).toArray := by
  have h32 : ∀ d ∈ valD D, d.length = 32 := valD_32 D
  have hl := flD_len h32
  rw [valD_len] at hl
  apply Array.ext (by simp [hl])
  intro t h1 h2
  have ht : t < D.length * 32 := by simpa using h1
  have hq : t / 32 < D.length := by omega
  obtain ⟨a, z, e1, e2⟩ := flD_at h32 (i := t / 32) (d := (D[t / 32]).1) (by unfold valD; rw [List.getElem?_map, List.getElem?_eq_getElem hq]; rfl)
  have g1 := get_flatK encD 32 D.toArray t (by simpa using ht)
  rw [getElem!_pos (flatK encD 32 D.toArray) t h1] at g1
  rw [g1]
  have hD : D.toArray[t / 32]! = D[t / 32] := by rw [getElem!_pos _ _ (by simpa using hq)]; simp
  rw [hD]
  have hlen : ((D[t / 32]).1.map vb).length = 32 := by rw [List.length_map]; exact (D[t / 32]).2
  have hr : t % 32 < ((D[t / 32]).1.map vb).length := by rw [hlen]; exact Nat.mod_lt _ (by decide)
  show ((D[t / 32]).1.map vb)[t % 32]! = _
  rw [getElem!_pos ((D[t / 32]).1.map vb) (t % 32) hr]
  have e3 : (flD (valD D))[t]? = some (((D[t / 32]).1.map vb)[t % 32]) := by
    rw [e1, List.getElem?_append_right (by omega), e2, List.getElem?_append_left (by rw [hlen]; omega), show t - t / 32 * 32 = t % 32 by omega, List.getElem?_eq_getElem hr]
  have h2' : t < (flD (valD D)).length := by simpa using h2
  rw [List.getElem?_eq_getElem h2'] at e3
  simpa using (Option.some.inj e3).symm
/-- a block of cells in groups of 32 -/
def B32 (W : World) (g : Nat) : Prop := ∃ cur T cap, W.heap[g]? = some (.cells cur T (0, 0)) ∧ cap ≤ maxLen ∧ cur.size = cap * 32
theorem b32_sorted [Inhabited Dg] {W : World} {g n cap : Nat} {cur : Array Value} {e : TypeId} {d : Array Dg} {os : Array Obj} (hb : W.heap[g]? = some (.cells cur e (0, 0))) (hc : cap ≤ maxLen) (hs : cur.size = cap * 32) : B32 (sortWorldK encD 32 W g 0 n d os) g := by
  have hg : g < W.heap.size := lt_of_heap hb
  refine ⟨putCells id 0 (flatK encD 32 d) cur, e, cap, ?_, hc, by simp [putCells, hs]⟩
  show ((putRow id (Sort.ahead W n) g 0 (flatK encD 32 d)).heap ++ os)[g]? = _
  have hs2 : g < (putRow id (Sort.ahead W n) g 0 (flatK encD 32 d)).heap.size := by simpa [putRow, mapBlock, Sort.ahead] using hg
  rw [Array.getElem?_append_left hs2]
  show ((Sort.ahead W n).heap.modify g (onCells _))[g]? = _
  rw [Array.getElem?_modify, if_pos rfl]
  show (W.heap[g]?).map _ = _
  rw [hb]; rfl
/-- keys in memory -/
def KS (W : World) (B : Nat) (a : Option Addr) (D : List (List UInt8)) : Prop := ∀ (i : Nat) (d : List UInt8), D[i]? = some d → ∃ g, a = some ⟨g, 0, none⟩ ∧ B ≤ g ∧ g < W.heap.size ∧ W.rangeAt g (i * 32) (d.map vb) ∧ B32 W g
theorem holds_own [Inhabited Dg] {W : World} {g : Nat} {cur : Array Value} {e : TypeId} (D : List Dg) (hb : W.heap[g]? = some (.cells cur e (0, 0))) (ht : cur.toList.take (D.length * 32) = flD (valD D)) : HoldsK encD 32 W g 0 D.toArray := by
  intro j hj
  have h32 : ∀ d ∈ valD D, d.length = 32 := valD_32 D
  have hj' : j < D.length * 32 := by simpa using hj
  have hl := flD_len h32
  rw [valD_len] at hl
  refine ⟨?_, frozen_row hb _⟩
  rw [cell_of_row _ _ _ _ _ _ hb]
  have e1 : (flatK encD 32 D.toArray)[j]! = (flD (valD D))[j]'(by omega) := by
    rw [flat_eq, getElem!_pos _ _ (by simp; omega)]; simp
  rw [id, e1]
  have e2 : (cur.toList.take (D.length * 32))[j]? = cur.toList[j]? := by rw [List.getElem?_take, if_pos hj']
  rw [ht, List.getElem?_eq_getElem (by omega)] at e2
  rw [Nat.zero_add, ← Array.getElem?_toList]
  exact e2.symm
theorem ks_holds [Inhabited Dg] {W : World} {g B : Nat} (D : List Dg) (hB : B ≤ g) (hg : g < W.heap.size) (hbk : B32 W g) (h : HoldsK encD 32 W g 0 D.toArray) : KS W B (some ⟨g, 0, none⟩) (valD D) := fun i d hd => by
  have h32 : ∀ d ∈ valD D, d.length = 32 := valD_32 D
  refine ⟨g, rfl, hB, hg, fun j v hv => ?_, hbk⟩
  have hl := flD_len h32
  rw [valD_len] at hl
  have hi : i < D.length := by have := (List.getElem?_eq_some_iff.1 hd).1; rw [valD_len] at this; exact this
  have hdl : d.length = 32 := h32 d (List.mem_of_getElem? hd)
  have hj : j < 32 := by have := (List.getElem?_eq_some_iff.1 hv).1; rw [List.length_map, hdl] at this; exact this
  obtain ⟨a, z, e1, e2⟩ := flD_at h32 hd
  have hlt : i * 32 + j < D.length * 32 := by omega
  have := (h (i * 32 + j) (by simpa using hlt)).1
  rw [Nat.zero_add] at this
  rw [this]
  have e3 : (flatK encD 32 D.toArray)[i * 32 + j]! = (flD (valD D))[i * 32 + j]'(by omega) := by
    rw [flat_eq, getElem!_pos _ _ (by simp; omega)]; simp
  rw [id, e3]
  have e4 : (flD (valD D))[i * 32 + j]? = some v := by
    rw [e1, List.getElem?_append_right (by omega), e2, Nat.add_sub_cancel_left, List.getElem?_append_left (by rw [List.length_map, hdl]; exact hj)]
    exact hv
  rw [List.getElem?_eq_getElem (by omega)] at e4
  exact e4
theorem below_sorted [Inhabited Dg] {B : Nat} {W w : World} {g n : Nat} {d : Array Dg} {os : Array Obj} (h : Below B W w) (hg : B ≤ g) (hBW : B ≤ W.heap.size) : Below B W (sortWorldK encD 32 w g 0 n d os) := by
  have hp : Below B W (putRow id (Sort.ahead w n) g 0 (flatK encD 32 d)) := Lib.below_putRow h hg
  unfold sortWorldK putRowK
  refine ⟨hp.os, hp.tape, hp.output, ?_, fun k hk => ?_⟩
  · have := hp.size
    rw [size_grow]; omega
  · show ((putRow id (Sort.ahead w n) g 0 (flatK encD 32 d)).heap ++ os)[k]? = _
    have hs := hp.size
    rw [Array.getElem?_append_left (by omega)]; exact hp.block k hk
theorem owns_ge5 {N n : Nat} {W : World} {e : TypeId} {k : Nat} {v : Value} {xs : List Value} (h : W.ownsRow N e k v n xs) {g : Nat} (hg : v.ownBlock = some g) : N ≤ g ∧ g < W.heap.size := by
  obtain ⟨h0, ⟨h1, _⟩ | ⟨g', cap, cur, h1, h2, h3, h4⟩⟩ := h
  · subst h1; cases hg
  · subst h1
    cases hg
    exact ⟨h2, lt_of_heap h3⟩
theorem own_none {W : World} {base : Nat} {e : TypeId} {size : Nat} : W.ownsRow base e size (.slice none 0 0) 0 [] := ⟨by simp, .inl ⟨rfl, rfl⟩⟩
def KP (w W : World) (b : HB) (h : Hv) (st : H.Sh) (e' : Ending) (w' : World) : Prop := ∃ (a : Option Addr) (c : Nat) (D : List (List UInt8)), e' = .returned (.slice a D.length c) ∧ D.Perm (kL h.es) ∧ KS w' W.heap.size a D ∧ Below W.heap.size W w' ∧ HW w b h st w'
set_option maxRecDepth 8000 in
set_option maxHeartbeats 4000000 in
/-- KEYS: the records' keys, each once -/
theorem Keys_x {w W : World} {b : HB} {h : Hv} {st : H.Sh} (x : HW w b h st W) (hn : h.es.length ≤ 128) :
    Calls Tryz.prog 20 #[.pointer (some ⟨b.hv, 0, none⟩)] W fun e' w' => KP w W b h st e' w' := by
  haveI hDg : Inhabited Dg := dgI
  have k2 := x.c2
  have hsz0 : (svL V.en0).toArray.size = 66 := by rw [List.size_toArray]; exact svL_length zd_length zd_length
  obtain ⟨fs, hum⟩ := und100
  obtain ⟨i0, hi0, hz0, hz1, hz2⟩ := info_partsV (show (Tryz.prog.info? 39).map (fun i => (i.zero, i.size, i.bytes)) = some (some (.agg zero32), 32, 32) by kernel_rfl)
  have hzs : (Value.agg zero32).cells.size = 32 := zero32_size
  have hUD : Tryz.prog.underlying 55 = some (.slice 39) := Tryz.underlying55
  have HST : Hid (∀ W : World, (W.alloc (.cells (svL V.en0).toArray 96)).heap[W.heap.size]? = some (.cells (svL V.en0).toArray 96 (0, 0))) := hst100
  have HX0 : Hid (∀ W', Below W.heap.size W W' → HW w b h st W') := fun W' hb => HX.step x hb
  have HAL : Hid (All32 h.es) := x.e
  have H32 : Hid (∀ k, ∀ d ∈ kL (h.es.take k), d.length = 32) := fun k => kL_32 (fun i e he => x.e i e (by rw [List.getElem?_take] at he; split at he; exact he; cases he))
  have HSO : Hid (∀ {a : Option Addr} {c n : Nat} {L : List (List UInt8)} {W' : World}, (∀ d ∈ L, d.length = 32) → L.length ≤ 128 → n = L.length → W'.ownsRow W.heap.size 39 32 (.slice a n c) n (flD L) → Below W.heap.size W W' → L = kL h.es → Calls Tryz.prog 44 #[.slice a n c, fnOrd] W' fun e w' => e = .returned (.tuple #[]) ∧ KP w W b h st (.returned (.slice a n c)) w') := fun {a c n L W'} h32 hL hnL hown hb hLk => by
    subst hnL
    obtain ⟨_, ⟨hv, h0⟩ | ⟨g, cap, cur, hv, hg, hcur, hcap, hcm, hcs, htk⟩⟩ := hown
    · obtain ⟨rfl, _, rfl⟩ : a = none ∧ L.length = 0 ∧ c = 0 := by simpa using hv
      rw [h0]
      refine (sortNil W').mono ?_
      rintro e w' ⟨rfl, hb'⟩
      have hL0 : L = [] := List.length_eq_zero_iff.1 h0
      have hB' : Below W.heap.size W w' := hb.trans (hb'.mono hb.size)
      exact ⟨rfl, none, 0, [], rfl, by rw [← hLk, hL0], fun i d hd => by simp at hd, hB', HX0.out _ hB'⟩
    · obtain ⟨rfl, _, rfl⟩ : a = some ⟨g, 0, none⟩ ∧ L.length = L.length ∧ c = cap := by simpa using hv
      have hval := mkD_val h32
      have hml : (mkD L).length = L.length := by rw [← valD_len, hval]
      have hH := holds_own (mkD L) hcur (by rw [hml, hval]; exact htk)
      have hgl : g < W'.heap.size := lt_of_heap hcur
      have hs := sort_dg g c (mkD L) W' hH hgl (by omega)
      rw [hml] at hs
      refine hs.mono ?_
      rintro e w' ⟨rfl, d', n, os, hp, rfl⟩
      have hB' : Below W.heap.size W (sortWorldK encD 32 W' g 0 n d' os) := below_sorted hb hg (Nat.le_refl _)
      have hds : d'.size = (mkD L).toArray.size := by have := hp.length_eq; simpa using this
      have hH' : HoldsK encD 32 (sortWorldK encD 32 W' g 0 n d' os) g 0 d' := by
        have hps : (putRowK encD 32 (Sort.ahead W' n) g 0 d').heap.size = W'.heap.size := by simp [putRowK, putRow, mapBlock, Sort.ahead]
        unfold sortWorldK
        refine holdsK_grow _ _ _ _ _ _ _ (by rw [hps]; exact hgl) ?_
        exact holds_putRow id (Sort.ahead W' n) g 0 (flatK encD 32 (mkD L).toArray) (flatK encD 32 d') hH (by simp [hds])
      have hpv : (valD d'.toList).Perm L := by
        have := hp.map Subtype.val
        rw [show (mkD L).map Subtype.val = L from hval] at this
        exact this
      have hlen : L.length = (valD d'.toList).length := hpv.length_eq.symm
      have hgl' : g < (sortWorldK encD 32 W' g 0 n d' os).heap.size := by
        have : (sortWorldK encD 32 W' g 0 n d' os).heap.size = W'.heap.size + os.size := by simp [sortWorldK, putRowK, putRow, mapBlock, Sort.ahead]
        omega
      refine ⟨rfl, some ⟨g, 0, none⟩, c, valD d'.toList, by rw [← hlen], by rw [← hLk]; exact hpv, ks_holds d'.toList hg hgl' (b32_sorted hcur hcm hcs) (by simpa using hH'), hB', HX0.out _ hB'⟩
  have HK0 : Hid (W.ownsRow W.heap.size 39 32 (.slice none 0 0) (kL (h.es.take 0)).length (flD (kL (h.es.take 0)))) := own_none
  have hO32 := zero32_one
  clear x
  go_enter Tryz.func20, Tryz.ntmps20
  go_wp2_with fail
  clear k2
  go_loopw [3, 5, 13] (fun u3 u5 u13 wr => ∃ k : Nat, k ≤ h.es.length ∧ u13 = .int .i64 k ∧ wr.ownsRow W.heap.size 39 32 u3 (kL (h.es.take k)).length (flD (kL (h.es.take k))) ∧ Below W.heap.size W wr) (fun _ _ u13 _ => h.es.length - (intOf u13).toNat)
  case atStart => exact ⟨0, Nat.zero_le _, rfl, HK0.out, Below.refl _ _⟩
  case round =>
    obtain ⟨k, hk, rfl, hown, hbe⟩ := hrel
    clear HK0
    have HOW : Hid (wr.ownsRow W.heap.size 39 32 u3 (kL (h.es.take k)).length (flD (kL (h.es.take k)))) := hown
    have HBE : Hid (Below W.heap.size W wr) := hbe
    have hx := HX0.out _ hbe
    have hsz := hbe.size
    have hkl := kL_le h.es k
    clear hown hbe
    by_cases hlt : k < h.es.length
    · obtain ⟨e, he⟩ : ∃ e, h.es[k]? = some e := ⟨h.es[k], List.getElem?_eq_getElem hlt⟩
      have e32 := hx.e k e he
      have HR : Hid (wr.rangeAt b.sl (k * 66) (svL e)) := hx.rng he
      have hi : (Tryz.prog.info? 96).map (·.size) = some (svL e).length := by rw [info100, svL_length e32.d e32.c]
      have hsz1 : (svL e).toArray.size = 66 := by rw [List.size_toArray]; exact svL_length e32.d e32.c
      have hs1 := svL_all e
      have HKC : Hid ((wr.alloc (.cells (svL e).toArray 96)).cell? ⟨wr.heap.size, 0, none⟩ = some (.string (M.bs e.kind))) := by
        show _ = _
        rw [cell_row (heap_alloc_new _ _)]; rfl
      have HRD : Hid ((wr.alloc (.cells (svL e).toArray 96)).rangeAt wr.heap.size 1 (e.dig.map vb)) := range_part (heap_alloc_new _ _) [.string (M.bs e.kind)] (e.dig.map vb) (e.ck.map vb ++ [.int .i64 (e.used : Int)]) 1 (by simp [svL, evL, nmL]) rfl
      have HB1 : Hid (Below W.heap.size W (wr.alloc (.cells (svL e).toArray 96))) := HBE.out.alloc hsz _
      have HO1 : Hid ((wr.alloc (.cells (svL e).toArray 96)).ownsRow W.heap.size 39 32 u3 (kL (h.es.take k)).length (flD (kL (h.es.take k)))) := World.ownsRow.alloc (w := wr) HOW.out _
      have hkr : (⟨#[114]⟩ : ByteArray) = M.bs V.kr := by rfl
      have hiD : (Tryz.prog.info? 39).map (·.size) = some (e.dig.map vb).length := by rw [List.length_map, e32.d]; exact info27
      have hdl := e32.d
      by_cases hkk : e.kind = V.kr
      · have hq : ((M.bs e.kind).toList == (M.bs V.kr).toList) = true := by
          rw [Lib.toList_data, Lib.toList_data, M.bs_toList, M.bs_toList]
          simpa using hkk
        have HLE : Hid (kL (h.es.take (k + 1)) = kL (h.es.take k) ++ [e.dig]) := kL_yes he hkk
        have HFL : Hid (flD (kL (h.es.take k) ++ [e.dig]) = flD (kL (h.es.take k)) ++ e.dig.map vb) := by show _ = _; simp [flD]
        clear hx he hkk HOW HBE
        generalize svL e = SL at *
        generalize kL (h.es.take k) = LK at *
        go_wp2_with (first
          | (refine wpList_load_mid rfl 96 _ rfl b.sl (k * 66) rfl SL _ HR.out hum rfl hi ?_; clear HR)
          | (refine wpList_store_row rfl 96 _ _ rfl wr.heap.size SL.toArray rfl rfl 96 (svL V.en0).toArray (HST.out wr) (by rw [hsz1]; exact info100) (by rw [hsz0, hsz1]) hs1 ?_; rw [World.setRow_alloc_new]; have k0 := HKC.out; clear HKC)
          | (refine wl_mid (by kernel_rfl) 39 _ rfl wr.heap.size 1 rfl (e.dig.map vb) _ HRD.out und27 rfl hiD ?_; clear HRD)
          | (refine wl_bs33 rfl _ rfl e.dig hdl rfl ?_)
          | (at_builtin; refine wpList_append_lies _ rfl _ _ 55 rfl W.heap.size 39 i0 (.agg zero32) 32 32 hUD hi0 hz0 hz1 hz2 hzs (by decide) u3 LK.length (flD LK) rfl (World.ownsRow.alloc HO1.out _) ⟨_, 0, none⟩ 1 1 (e.dig.map vb) rfl (by simp [hdl]) (fun j u hu => by rw [Addr.add_mid]; exact range_part (C := dg e.dig) (T := 39) (heap_alloc_new _ _) [] (e.dig.map vb) [] 0 (by simp [dg]) rfl j u hu) (fun u hu => all_vb u hu) (by decide) (by unfold maxLen; omega) (by omega) (by simp; omega) _ rfl ?_; intro g cap w2 hown2 hgrow2 hat2 hlt2; have HO2 : Hid (w2.ownsRow W.heap.size 39 32 (.slice (some ⟨g, 0, none⟩) (LK.length + 1) cap) (LK.length + 1) (flD LK ++ e.dig.map vb)) := hown2; have HB2 : Hid (Below W.heap.size W w2) := (HB1.out.alloc (by simp; omega) _).grown hgrow2 (by simp; omega) (fun q hq' => (owns_ge5 HO1.out hq').1); clear hown2 hgrow2 hat2 hlt2))
        go_roundw
        case rel => exact ⟨k + 1, by omega, by go_num, by rw [HLE.out, List.length_append, HFL.out]; exact HO2.out, HB2.out⟩
        case measure => simp [intOf]; omega
      · have hq : ((M.bs e.kind).toList == (M.bs V.kr).toList) = false := by
          rw [Lib.toList_data, Lib.toList_data, M.bs_toList, M.bs_toList]
          simpa using hkk
        have HLE : Hid (kL (h.es.take (k + 1)) = kL (h.es.take k)) := kL_no he hkk
        clear hx he hkk HOW HBE HRD
        generalize svL e = SL at *
        go_wp2_with (first
          | (refine wpList_load_mid rfl 96 _ rfl b.sl (k * 66) rfl SL _ HR.out hum rfl hi ?_; clear HR)
          | (refine wpList_store_row rfl 96 _ _ rfl wr.heap.size SL.toArray rfl rfl 96 (svL V.en0).toArray (HST.out wr) (by rw [hsz1]; exact info100) (by rw [hsz0, hsz1]) hs1 ?_; rw [World.setRow_alloc_new]; have k0 := HKC.out; clear HKC))
        go_roundw
        case rel => exact ⟨k + 1, by omega, by go_num, by rw [HLE.out]; exact HO1.out, HB1.out⟩
        case measure => simp [intOf]; omega
    · obtain rfl : k = h.es.length := by omega
      have HTK : Hid (kL (h.es.take h.es.length) = kL h.es) := by show _ = _; rw [List.take_length]
      have h32 := H32.out h.es.length
      obtain ⟨a5, c5, hu3⟩ : ∃ a c, u3 = .slice a (kL (h.es.take h.es.length)).length c := by
        obtain ⟨_, ⟨hv, h0⟩ | ⟨g, cap, cur, hv, _⟩⟩ := HOW.out
        · exact ⟨none, 0, by rw [hv, h0]⟩
        · exact ⟨_, cap, hv⟩
      subst hu3
      have CS : Hid (Calls Tryz.prog 44 #[.slice a5 (kL (h.es.take h.es.length)).length c5, fnOrd] wr fun e w' => e = .returned (.tuple #[]) ∧ KP w W b h st (.returned (.slice a5 (kL (h.es.take h.es.length)).length c5)) w') := HSO.out h32 (by omega) rfl HOW.out HBE.out HTK.out
      clear hx HOW HBE HSO h32 HTK
      generalize (kL (h.es.take h.es.length)).length = LN at *
      go_wp2_with (go_at_call 44; refine CS.out.mono ?_; clear CS; rintro e' w' ⟨rfl, hy⟩)
      go_ret
      exact hy
end Go.Proofs.YtlkllcnnnndllaaGreatDoor
