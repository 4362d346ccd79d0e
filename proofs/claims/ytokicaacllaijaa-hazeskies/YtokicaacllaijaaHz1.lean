/- A key's marks, a mask; the reference's mark and bit. -/
import Derived.Test.YtokicaacllaijaaHzB
import Derived.BigGuard
namespace Go.Proofs.Ytokicaacllaijaa
open Go.RowKit
set_option linter.unusedVariables false
set_option linter.unusedSimpArgs false
attribute [local go_sem ↓] zeroH zeroD

/-- a key's first i marks, as an array -/
def mkL (k : HZ.D) (i : Nat) : List Value := (List.range 4).map fun j => .int .i64 (if j < i then (k.mk' j : Int) else 0)
theorem mkL_len (k : HZ.D) (i : Nat) : (mkL k i).length = 4 := by simp [mkL]
theorem mkL_at (k : HZ.D) (i : Nat) {j : Nat} (hj : j < 4) : (mkL k i)[j]? = some (.int .i64 (if j < i then (k.mk' j : Int) else 0)) := by
  unfold mkL; rw [List.getElem?_map, List.getElem?_range hj]; rfl
theorem mkL_succ (k : HZ.D) {i : Nat} (hi : i < 4) : (mkL k i).set i (.int .i64 (k.mk' i : Int)) = mkL k (i + 1) := by
  apply List.ext_getElem?
  intro j
  by_cases hj : j < 4
  · rw [List.getElem?_set, mkL_len, mkL_at k _ hj, mkL_at k _ hj]
    by_cases e : i = j
    · subst e; simp [hi]
    · rw [if_neg e]
      by_cases h2 : j < i
      · simp [h2, show j < i + 1 by omega]
      · simp [h2, show ¬ j < i + 1 by omega]
  · rw [List.getElem?_eq_none (by rw [List.length_set, mkL_len]; omega), List.getElem?_eq_none (by rw [mkL_len]; omega)]
theorem mkL_zero (k : HZ.D) : (mkL k 0).toArray = #[.int .i64 0, .int .i64 0, .int .i64 0, .int .i64 0] := by simp [mkL, List.range, List.range.loop]
theorem mkL_one (k : HZ.D) (i : Nat) : ∀ u ∈ mkL k i, u.oneCell' = true := fun u hu => by obtain ⟨x, _, rfl⟩ := List.mem_map.1 hu; rfl
theorem infoInt : (Try.prog.info? 3).map (·.size) = some 1 := by kernel_rfl
theorem und4 : Try.prog.underlying 59 = some (.array 4 3) := by kernel_rfl
theorem info4 (k : HZ.D) (i : Nat) : (Try.prog.info? 59).map (·.size) = some (mkL k i).length := by rw [mkL_len]; kernel_rfl
theorem infoU8 : (Try.prog.info? 5).map (·.size) = some 1 := by kernel_rfl
theorem or64 (a b : Nat) (ha : a < 65536) (hb : b < 65536) : bits .or .i64 (a : Int) (b : Int) = ((a ||| b : Nat) : Int) := by
  have hx : a ||| b < 2 ^ 16 := Nat.or_lt_two_pow (by omega) (by omega)
  show IntKind.i64.wrap ((BitVec.ofInt 64 (a : Int) ||| BitVec.ofInt 64 (b : Int)).toNat : Int) = _
  rw [BitVec.toNat_or]
  have ea : (BitVec.ofInt 64 (a : Int)).toNat = a := by simp; omega
  have eb : (BitVec.ofInt 64 (b : Int)).toNat = b := by simp; omega
  rw [ea, eb, IntKind.wrap_i64]
  omega
theorem shl_or (x y : Nat) (hx : x < 256) (hy : y < 256) : (bits .or .i64 ((x : Int) * 256) (y : Int)).tmod 512 = (((256 * x + y) % 512 : Nat) : Int) := by
  have e1 : (x : Int) * 256 = ((x * 256 : Nat) : Int) := by omega
  rw [e1, or64 _ _ (by omega) (by omega)]
  have e2 : x * 256 ||| y = 256 * x + y := by
    have := Nat.shiftLeft_add_eq_or_of_lt (i := 8) (b := y) (by omega) x
    rw [Nat.shiftLeft_eq] at this
    rw [← this]; omega
  rw [e2]; rfl
theorem bit_val (x j : Nat) : (((x : Int) / 2 ^ j).tmod 2 == 1) = decide (x / 2 ^ j % 2 = 1) := by
  have e : (x : Int) / 2 ^ j = ((x / 2 ^ j : Nat) : Int) := by
    have : ((2 ^ j : Nat) : Int) = (2 : Int) ^ j := by simp
    rw [← this]; rfl
  rw [e]
  generalize x / 2 ^ j = q
  have : (q : Int).tmod 2 = ((q % 2 : Nat) : Int) := rfl
  rw [this]
  by_cases h : q % 2 = 1
  · rw [h]; rfl
  · have h0 : q % 2 = 0 := by omega
    rw [h0]; rfl
theorem msk_val (n : Nat) : ((2 ^ (n % 8) % 256 : Int)) = ((HZ.msk n).toNat : Int) := by
  rw [HZ.msk_nat]
  have h : n % 8 < 8 := Nat.mod_lt _ (by omega)
  have : 2 ^ (n % 8) < 2 ^ 8 := Nat.pow_lt_pow_right (by omega) h
  have e : ((2 ^ (n % 8) : Nat) : Int) = (2 : Int) ^ (n % 8) := by simp
  rw [← e]
  generalize 2 ^ (n % 8) = q at *
  omega
set_option maxRecDepth 8000 in
set_option maxHeartbeats 2000000 in
theorem mask_x (n : Nat) (hn : n < 512) (W : World) : Calls Try.prog 28 #[.int .i64 (n : Int)] W fun e w' => e = .returned (vb (HZ.msk n)) ∧ w' = W := by
  go_enter Try.func28, Try.ntmps28
  go_wp2_with fail
  go_ret
  exact ⟨by unfold vb; rw [← msk_val]; rfl, rfl⟩
set_option maxRecDepth 8000 in
set_option maxHeartbeats 2000000 in
theorem marks_x (k : HZ.D) (W : World) : Calls Try.prog 27 #[.agg (dC k).toArray] W fun e w' => e = .returned (.agg (mkL k 4).toArray) ∧ Bl W w' := by
  have HD : Hid ((W.alloc (.cells (dC k).toArray tD)).heap[W.heap.size]? = some (.cells (dC k).toArray tD (0, 0))) := heap_alloc_new _ _
  obtain ⟨LD, hLD⟩ : ∃ LD, LD = dC k := ⟨_, rfl⟩
  have HLA : Hid (∀ i, i < 32 → LD[i]? = some (vb (k.b i))) := fun i hi => by rw [hLD]; exact dC_at k hi
  have HZ0 : Hid ((mkL k 0).toArray = #[.int .i64 0, .int .i64 0, .int .i64 0, .int .i64 0]) := mkL_zero k
  rw [← hLD]
  rw [← hLD] at HD
  clear hLD
  have HB0 : Hid (∀ Z : Array Value, Bl W (((W.alloc (.cells LD.toArray tD)).alloc (.cells Z 59)).alloc (.cells Z 59))) := fun Z => ((((Bl.refl W).alloc _).alloc _).alloc _)
  have HD0 : Hid (∀ Z : Array Value, (((W.alloc (.cells LD.toArray tD)).alloc (.cells Z 59)).alloc (.cells Z 59)).heap[W.heap.size]? = some (.cells LD.toArray tD (0, 0))) := fun Z => by
    rw [Below.heap_alloc _ _ _ (by simp; omega), Below.heap_alloc _ _ _ (by simp)]; exact HD.out
  have HL0 : Hid (∀ Z : Array Value, (((W.alloc (.cells LD.toArray tD)).alloc (.cells Z 59)).alloc (.cells Z 59)).heap[W.heap.size + 1]? = some (.cells Z 59 (0, 0))) := fun Z => by
    rw [Below.heap_alloc _ _ _ (by simp)]; simpa using heap_alloc_new (W.alloc (.cells LD.toArray tD)) (.cells Z 59)
  have HL2 : Hid (∀ Z : Array Value, (((W.alloc (.cells LD.toArray tD)).alloc (.cells Z 59)).alloc (.cells Z 59)).heap[W.heap.size + 2]? = some (.cells Z 59 (0, 0))) := fun Z => by
    simpa using heap_alloc_new ((W.alloc (.cells LD.toArray tD)).alloc (.cells Z 59)) (.cells Z 59)
  clear HD
  go_enter Try.func27, Try.ntmps27
  go_wp2_with fail
  go_loopw [7] (fun u7 wr => ∃ i : Nat, i ≤ 4 ∧ u7 = .int .i64 (i : Int) ∧ Bl W wr ∧ wr.heap[W.heap.size]? = some (.cells LD.toArray tD (0, 0)) ∧ wr.heap[W.heap.size + 1]? = some (.cells (mkL k 0).toArray 59 (0, 0)) ∧ wr.heap[W.heap.size + 2]? = some (.cells (mkL k i).toArray 59 (0, 0))) (fun u7 _ => 4 - (intOf u7).toNat)
  case atStart => exact ⟨0, by omega, rfl, HB0.out _, HD0.out _, by rw [HZ0.out]; exact HL0.out _, by rw [HZ0.out]; exact HL2.out _⟩
  case round =>
    clear HB0 HD0 HL0 HL2
    obtain ⟨i, hi, rfl, HB, hd, h1, h2⟩ := hrel
    by_cases hlt : i < 4
    · have c1 := cell_of hd (HLA.out (2 * i) (by omega))
      have c2 := cell_of hd (HLA.out (2 * i + 1) (by omega))
      unfold vb at c1 c2
      have HM : Hid (k.mk' i = (256 * (k.b (2 * i)).toNat + (k.b (2 * i + 1)).toNat) % 512) := rfl
      have hx := (k.b (2 * i)).toNat_lt
      have hy := (k.b (2 * i + 1)).toNat_lt
      generalize (k.b (2 * i)).toNat = x at *
      generalize (k.b (2 * i + 1)).toNat = y at *
      have HV : Hid ((bits .or .i64 ((x : Int) * 256) (y : Int)).tmod 512 = (k.mk' i : Int)) := by
        show _ = _
        rw [HM.out]; exact shl_or x y hx hy
      go_wp2_with fail
      go_region
      have HU : Hid (wr.drew.heap[W.heap.size + 1 + 1]? = some (.cells (mkL k i).toArray 59 (0, 0))) := h2
      go_wp2_with (first
        | (refine wl_setU rfl 3 _ _ rfl (W.heap.size + 1 + 1) i (.int .i64 (k.mk' i : Int)) rfl (congrArg (Value.int .i64) HV.out) rfl infoInt (mkL k i) (mkL k (i + 1)) 59 HU.out (by rw [mkL_len]; exact hlt) (mkL_succ k hlt) ?_; intro U hU hO))
      have HB2 : Bl W U := hO.bl HB.drew (by omega)
      go_roundw
      case rel => exact ⟨i + 1, by omega, by go_num, HB2, by rw [hO.block _ (lt_heap hd) (by omega)]; exact hd, by rw [hO.block _ (lt_heap h1) (by omega)]; exact h1, hU⟩
      case measure => simp [intOf]; omega
    · obtain rfl : i = 4 := by omega
      have hr2 : wr.rangeAt (W.heap.size + 1 + 1) 0 (mkL k 4) := range_of h2
      have H1 : Hid (wr.heap[W.heap.size + 1]? = some (.cells (mkL k 0).toArray 59 (0, 0))) := h1
      have HBB : Hid (Bl W wr) := HB
      clear hd h2 h1 HZ0 HB
      go_wp2_with (first
        | (refine wl_midG (by rfl) 59 _ rfl (W.heap.size + 1 + 1) 0 rfl (mkL k 4) _ hr2 und4 rfl (info4 k 4) ?_)
        | (refine wpList_store_row rfl 59 _ _ rfl (W.heap.size + 1) (mkL k 4).toArray rfl rfl 59 (mkL k 0).toArray H1.out (by simpa using info4 k 4) (by simp [mkL_len]) (all_one (mkL_one k 4)) ?_))
      refine bodyPost_ret (results_cell_row rfl _ _ _ 59 (mkL k 4).toArray (0, 0) _ rfl (setRow_heap _ _ _ _ _ _ H1.out) und4 rfl (by simpa using info4 k 4)) rfl ?_
      exact ⟨rfl, (of1_setRow _ _ _).bl HBB.out (by omega)⟩
set_option maxRecDepth 8000 in
set_option maxHeartbeats 2000000 in
theorem mark_x (k : HZ.D) (i : Nat) (hi : i < 4) (W : World) : Calls Try.prog 30 #[.agg (dC k).toArray, .int .i64 (i : Int)] W fun e w' => e = .returned (.int .i64 (k.mk' i : Int)) ∧ Bl W w' := by
  have HD : Hid ((W.alloc (.cells (dC k).toArray tD)).heap[W.heap.size]? = some (.cells (dC k).toArray tD (0, 0))) := heap_alloc_new _ _
  have hd := HD.out
  have c1 := cell_of hd (dC_at k (i := 2 * i) (by omega))
  have c2 := cell_of hd (dC_at k (i := 2 * i + 1) (by omega))
  unfold vb at c1 c2
  have HM : Hid (k.mk' i = (256 * (k.b (2 * i)).toNat + (k.b (2 * i + 1)).toNat) % 512) := rfl
  have hx := (k.b (2 * i)).toNat_lt
  have hy := (k.b (2 * i + 1)).toNat_lt
  generalize (k.b (2 * i)).toNat = x at *
  generalize (k.b (2 * i + 1)).toNat = y at *
  generalize dC k = LD at *
  have HV : Hid ((256 * (x : Int) + (y : Int)).tmod 512 = (k.mk' i : Int)) := by
    show _ = _
    rw [HM.out]
    have : 256 * (x : Int) + (y : Int) = ((256 * x + y : Nat) : Int) := by omega
    rw [this]; rfl
  have HV2 : Hid ((256 * (x : Int) + (y : Int)) % 512 = (k.mk' i : Int)) := by
    show _ = _
    rw [HM.out]; omega
  have HBB : Hid (Bl W (W.alloc (.cells LD.toArray tD)).drew) := ((Bl.refl W).alloc _).drew
  clear hd HD
  go_enter Try.func30, Try.ntmps30
  go_wp2_with fail
  go_region
  go_wp2_with fail
  go_ret
  exact ⟨by rw [← HV2.out]; rfl, HBB.out⟩
set_option maxRecDepth 8000 in
set_option maxHeartbeats 2000000 in
theorem bit_x (h : HZ.H) (n : Nat) (hn : n < 512) (W : World) : Calls Try.prog 29 #[.agg (hC h).toArray, .int .i64 (n : Int)] W fun e w' => e = .returned (.bool (h.bit n)) ∧ Bl W w' := by
  have HD : Hid ((W.alloc (.cells (hC h).toArray tH)).heap[W.heap.size]? = some (.cells (hC h).toArray tH (0, 0))) := heap_alloc_new _ _
  have hd := HD.out
  have c1 := cell_of hd (hC_at h (i := n / 8) (by omega))
  unfold vb at c1
  have HM : Hid (h.bit n = decide ((h.b (n / 8)).toNat / 2 ^ (n % 8) % 2 = 1)) := HZ.bt_div _ _
  have hx := (h.b (n / 8)).toNat_lt
  generalize (h.b (n / 8)).toNat = x at *
  generalize hC h = LD at *
  have HBB : Hid (Bl W (W.alloc (.cells LD.toArray tH))) := ((Bl.refl W).alloc _)
  clear hd HD
  go_enter Try.func29, Try.ntmps29
  go_wp2_with fail
  go_ret
  exact ⟨by rw [HM.out, ← bit_val]; rfl, HBB.out⟩
end Go.Proofs.Ytokicaacllaijaa
