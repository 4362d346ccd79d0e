/- What Good and Above answer. -/
import Derived.Test.YtebmgajijjhinaaKV
namespace Go.Proofs.Ytebmgajijjhinaa
open Go.RowKit Go.Maps
set_option linter.unusedVariables false
set_option linter.unusedSimpArgs false

theorem within_x (n lo hi : Int) (W : World) : Calls Try.prog 69 #[.int .i64 n, .int .i64 lo, .int .i64 hi] W fun e w' => e = .returned (.bool (decide (lo ≤ n) && decide (n ≤ hi))) ∧ Bl W w' := by
  go_enter Try.func69, Try.ntmps69
  by_cases h1 : lo ≤ n
  · by_cases h2 : n ≤ hi
    · go_wp2_with fail
      go_ret
      exact ⟨by simp [h1, h2], Bl.refl _⟩
    · go_wp2_with fail
      go_ret
      exact ⟨by simp [h1, h2], Bl.refl _⟩
  · go_wp2_with fail
    go_ret
    exact ⟨by rw [show decide (lo ≤ n) = false from decide_eq_false (by omega)]; rfl, Bl.refl _⟩
/-- what was boxed lies there still -/
theorem Bl.box {W w' : World} {C : Array Value} {t : TypeId} (h : Bl (W.alloc (.cells C t)) w') : w'.heap[W.heap.size]? = some (.cells C t (0, 0)) := by
  rw [Below.block h _ (by simp)]; exact heap_alloc_new W _
theorem Bl.box1 {W w' : World} {o : Obj} {C : Array Value} {t : TypeId} (h : Bl ((W.alloc (.cells C t)).alloc o) w') : w'.heap[W.heap.size]? = some (.cells C t (0, 0)) := by
  rw [Below.block h _ (by simp; omega), Below.heap_alloc _ _ _ (by simp)]; exact heap_alloc_new W _
theorem cells3 {w : World} {b : Nat} {x y z : Value} {t : TypeId} (h : w.heap[b]? = some (.cells #[x, y, z] t (0, 0))) : w.cell? ⟨b, 0, none⟩ = some x ∧ w.cell? ⟨b, 1, none⟩ = some y ∧ w.cell? ⟨b, 2, none⟩ = some z :=
  ⟨by rw [Lib.cell_of_heap h]; rfl, by rw [Lib.cell_of_heap h]; rfl, by rw [Lib.cell_of_heap h]; rfl⟩
theorem range3 {w : World} {b : Nat} {x y z : Value} {t : TypeId} (h : w.heap[b]? = some (.cells #[x, y, z] t (0, 0))) : w.rangeAt b 0 [x, y, z] := fun j v hv => by rw [Lib.cell_of_heap h, Nat.zero_add]; simpa using hv
theorem undMe : ∃ fs, Try.prog.underlying 54 = some (.struct fs) := ⟨_, Try.underlying54⟩
theorem infoMe : (Try.prog.info? 54).map (·.size) = some 3 := by kernel_rfl
theorem size_alloc1 (W : World) (o : Obj) : (W.alloc o).heap.size = W.heap.size + 1 := by simp
theorem Bl.up {W w' : World} {o : Obj} (h : Bl (W.alloc o) w') : Bl W w' := Bl.step ((Bl.refl W).alloc o) h
theorem good_eq (m : K.Me) : K.good m = (((decide (1 ≤ m.1) && decide (m.1 ≤ 6)) && (decide (0 ≤ m.2.1) && decide (m.2.1 ≤ 1073741824))) && (decide (0 ≤ m.2.2) && decide (m.2.2 ≤ 3))) := by
  rw [Bool.eq_iff_iff, K.good_iff]
  unfold K.Good
  simp only [decide_eq_true_eq, Bool.and_eq_true, and_assoc]
set_option maxRecDepth 8000 in
theorem Good_0 (m : K.Me) (W : World) : Calls Try.prog 55 #[.agg (meV m)] W fun e w' => e = .returned (.bool (K.good m)) ∧ Bl W w' := by
  have HG : Hid (K.good m = (((decide (1 ≤ m.1) && decide (m.1 ≤ 6)) && (decide (0 ≤ m.2.1) && decide (m.2.1 ≤ 1073741824))) && (decide (0 ≤ m.2.2) && decide (m.2.2 ≤ 3)))) := good_eq m
  have C1 : Hid (∀ n lo hi w W, Bl w W → Calls Try.prog 69 #[.int .i64 n, .int .i64 lo, .int .i64 hi] W fun e w' => e = .returned (.bool (decide (lo ≤ n) && decide (n ≤ hi))) ∧ Bl w w') := fun n lo hi w W h => (within_x n lo hi W).mono fun e w' ⟨h1, h2⟩ => ⟨h1, h.step h2⟩
  obtain ⟨n, i, s⟩ := m
  unfold meV
  simp only at HG ⊢
  have HB : Bl (W.alloc (.cells #[.int .i64 n, .int .i64 i, .int .i64 s] 54)) (W.alloc (.cells #[.int .i64 n, .int .i64 i, .int .i64 s] 54)) := Bl.refl _
  obtain ⟨x, hx⟩ : ∃ x, (decide (1 ≤ n) && decide (n ≤ 6)) = x := ⟨_, rfl⟩
  obtain ⟨y, hy⟩ : ∃ x, (decide (0 ≤ i) && decide (i ≤ 1073741824)) = x := ⟨_, rfl⟩
  obtain ⟨z, hz⟩ : ∃ x, (decide (0 ≤ s) && decide (s ≤ 3)) = x := ⟨_, rfl⟩
  have HG2 : Hid (K.good (n, i, s) = (x && y && z)) := by show _ = _; rw [HG.out, hx, hy, hz]
  have C1a : Hid (∀ w W, Bl w W → Calls Try.prog 69 #[.int .i64 n, .int .i64 1, .int .i64 6] W fun e w' => e = .returned (.bool x) ∧ Bl w w') := by rw [← hx]; exact fun w W h => C1.out _ _ _ w W h
  have C1b : Hid (∀ w W, Bl w W → Calls Try.prog 69 #[.int .i64 i, .int .i64 0, .int .i64 1073741824] W fun e w' => e = .returned (.bool y) ∧ Bl w w') := by rw [← hy]; exact fun w W h => C1.out _ _ _ w W h
  have C1c : Hid (∀ w W, Bl w W → Calls Try.prog 69 #[.int .i64 s, .int .i64 0, .int .i64 3] W fun e w' => e = .returned (.bool z) ∧ Bl w w') := by rw [← hz]; exact fun w W h => C1.out _ _ _ w W h
  clear hx hy hz C1 HG
  cases x <;> cases y <;>
  · go_enter Try.func55, Try.ntmps55
    go_wp2_with (first
      | (go_at_call 69; refine (C1a.out _ _ HB).mono ?_; clear HB C1a; rintro e w' ⟨rfl, HB⟩; obtain ⟨k0, k1, k2⟩ := cells3 HB.box)
      | (go_at_call 69; refine (C1b.out _ _ HB).mono ?_; clear HB C1b k0 k1 k2; rintro e w' ⟨rfl, HB⟩; obtain ⟨k0, k1, k2⟩ := cells3 HB.box)
      | (go_at_call 69; refine (C1c.out _ _ HB).mono ?_; clear HB C1c k0 k1 k2; rintro e w' ⟨rfl, HB⟩))
    go_ret
    exact ⟨by rw [HG2.out]; simp, HB.up⟩
theorem Good_x (m : K.Me) (w W : World) (hb : Bl w W) : Calls Try.prog 55 #[.agg (meV m)] W fun e w' => e = .returned (.bool (K.good m)) ∧ Bl w w' := (Good_0 m W).mono fun e w' ⟨h1, h2⟩ => ⟨h1, hb.step h2⟩
theorem higher_x (a b : K.Me) (w W : World) (hb : Bl w W) : Calls Try.prog 59 #[.agg (meV a), .agg (meV b)] W fun e w' => e = .returned (.bool (K.hi a b)) ∧ Bl w w' := by
  have HG : Hid (K.hi a b = (decide (a.2.1 > b.2.1) || (a.2.1 == b.2.1) && decide (a.2.2 > b.2.2))) := by
    show _ = _
    unfold K.hi K.Hi
    rw [Bool.eq_iff_iff]; simp
  have HB : Bl w ((W.alloc (.cells (meV a) 54)).alloc (.cells (meV b) 54)) := (hb.alloc _).alloc _
  clear hb
  obtain ⟨n, i, s⟩ := a
  obtain ⟨n2, i2, s2⟩ := b
  unfold meV at *
  simp only at HG HB ⊢
  by_cases h1 : i > i2
  · go_enter Try.func59, Try.ntmps59
    go_wp2_with fail
    go_ret
    exact ⟨by rw [HG.out]; simp [h1], HB⟩
  · by_cases h2 : i = i2
    · subst h2
      go_enter Try.func59, Try.ntmps59
      go_wp2_with fail
      go_ret
      exact ⟨by rw [HG.out]; simp, HB⟩
    · go_enter Try.func59, Try.ntmps59
      go_wp2_with fail
      go_ret
      exact ⟨by rw [HG.out]; simp [h1, h2], HB⟩
set_option maxRecDepth 8000 in
set_option maxHeartbeats 4000000 in
theorem Above_0 (a b : K.Me) (W : World) : Calls Try.prog 39 #[.agg (meV a), .agg (meV b)] W fun e w' => e = .returned (.bool (K.above a b)) ∧ Bl W w' := by
  have HG : Hid (K.above a b = (K.good a && K.good b && (a.1 == b.1) && K.hi a b)) := K.above_eq a b
  have C1 : Hid (∀ w W, Bl w W → Calls Try.prog 55 #[.agg (meV a)] W fun e w' => e = .returned (.bool (K.good a)) ∧ Bl w w') := fun w W h => Good_x a w W h
  have C2 : Hid (∀ w W, Bl w W → Calls Try.prog 55 #[.agg (meV b)] W fun e w' => e = .returned (.bool (K.good b)) ∧ Bl w w') := fun w W h => Good_x b w W h
  have C3 : Hid (∀ w W, Bl w W → Calls Try.prog 59 #[.agg (meV a), .agg (meV b)] W fun e w' => e = .returned (.bool (K.hi a b)) ∧ Bl w w') := fun w W h => higher_x a b w W h
  have HB : Bl ((W.alloc (.cells (meV a) 54)).alloc (.cells (meV b) 54)) ((W.alloc (.cells (meV a) 54)).alloc (.cells (meV b) 54)) := Bl.refl _
  generalize K.good a = x at *
  generalize K.good b = y at *
  generalize K.hi a b = z at *
  generalize K.above a b = r at *
  obtain ⟨n, i, s⟩ := a
  obtain ⟨n2, i2, s2⟩ := b
  unfold meV at *
  simp only at HG HB C1 C2 C3 ⊢
  obtain ⟨q, hq⟩ : ∃ q, (n == n2) = q := ⟨_, rfl⟩
  have HG2 : Hid (r = (x && y && q && z)) := by show _ = _; rw [HG.out, hq]
  clear HG
  obtain ⟨fs, hum⟩ := undMe
  cases x <;> cases y <;> cases q <;>
  · go_enter Try.func39, Try.ntmps39
    go_wp2_with (first
      | (go_at_call 55; refine (C1.out _ _ HB).mono ?_; clear HB C1; rintro e w' ⟨rfl, HB⟩; obtain ⟨k0, k1, k2⟩ := cells3 HB.box1; have hb2 := HB.box; simp only [size_alloc1] at hb2; obtain ⟨l0, l1, l2⟩ := cells3 hb2; have R1 := range3 HB.box1; have R2 := range3 hb2; clear hb2)
      | (go_at_call 55; refine (C2.out _ _ HB).mono ?_; clear HB C2 k0 k1 k2 l0 l1 l2 R1 R2; rintro e w' ⟨rfl, HB⟩; obtain ⟨k0, k1, k2⟩ := cells3 HB.box1; have hb2 := HB.box; simp only [size_alloc1] at hb2; obtain ⟨l0, l1, l2⟩ := cells3 hb2; have R1 := range3 HB.box1; have R2 := range3 hb2; clear hb2)
      | (refine wpList_load_mid rfl 54 _ rfl W.heap.size 0 rfl [.int .i64 n, .int .i64 i, .int .i64 s] _ R1 hum rfl infoMe ?_)
      | (refine wpList_load_mid rfl 54 _ rfl (W.heap.size + 1) 0 rfl [.int .i64 n2, .int .i64 i2, .int .i64 s2] _ R2 hum rfl infoMe ?_)
      | (go_at_call 59; refine (C3.out _ _ HB).mono ?_; clear HB C3 k0 k1 k2 l0 l1 l2 R1 R2; rintro e w' ⟨rfl, HB⟩))
    go_ret
    exact ⟨by rw [HG2.out]; simp, HB.up.up⟩
theorem Above_x (a b : K.Me) (w W : World) (hb : Bl w W) : Calls Try.prog 39 #[.agg (meV a), .agg (meV b)] W fun e w' => e = .returned (.bool (K.above a b)) ∧ Bl w w' := (Above_0 a b W).mono fun e w' ⟨h1, h2⟩ => ⟨h1, hb.step h2⟩
end Go.Proofs.Ytebmgajijjhinaa
