/- The reference's Good and Above. -/
import Derived.Test.YtgnnlnhhikmneaaKaw
namespace Go.Proofs.Ytgnnlnhhikmneaa
open Go.RowKit Go.Maps
set_option linter.unusedVariables false
set_option linter.unusedSimpArgs false

theorem good_no {m : K.Me} (h : ¬ K.Good m) : K.good m = false := decide_eq_false h
set_option maxRecDepth 8000 in
set_option maxHeartbeats 4000000 in
theorem rGood_0 (m : K.Me) (W : World) : Calls Try.prog 19 #[.agg (meV m)] W fun e w' => e = .returned (.bool (K.good m)) ∧ Bl W w' := by
  obtain ⟨n, i, s⟩ := m
  unfold meV
  simp only
  by_cases h1 : n ≥ 1
  · by_cases h2 : n ≤ 6
    · by_cases h3 : i ≥ 0
      · by_cases h4 : i ≤ 1073741824
        · by_cases h5 : s ≥ 0
          · have HG : Hid (K.good (n, i, s) = decide (s ≤ 3)) := by
              show _ = _
              unfold K.good
              rw [decide_eq_decide]
              exact ⟨fun h => h.2.2.2.2.2, fun h => ⟨h1, h2, h3, h4, h5, h⟩⟩
            go_enter Try.func19, Try.ntmps19
            go_wp2_with fail
            go_ret
            exact ⟨by rw [HG.out]; simp, (Bl.refl W).alloc _⟩
          · have HG : Hid (K.good (n, i, s) = false) := good_no fun h => h5 h.2.2.2.2.1
            go_enter Try.func19, Try.ntmps19
            go_wp2_with fail
            go_ret
            exact ⟨by rw [HG.out]; simp, (Bl.refl W).alloc _⟩
        · have HG : Hid (K.good (n, i, s) = false) := good_no fun h => h4 h.2.2.2.1
          go_enter Try.func19, Try.ntmps19
          go_wp2_with fail
          go_ret
          exact ⟨by rw [HG.out]; simp, (Bl.refl W).alloc _⟩
      · have HG : Hid (K.good (n, i, s) = false) := good_no fun h => h3 h.2.2.1
        go_enter Try.func19, Try.ntmps19
        go_wp2_with fail
        go_ret
        exact ⟨by rw [HG.out]; simp, (Bl.refl W).alloc _⟩
    · have HG : Hid (K.good (n, i, s) = false) := good_no fun h => h2 h.2.1
      go_enter Try.func19, Try.ntmps19
      go_wp2_with fail
      go_ret
      exact ⟨by rw [HG.out]; simp, (Bl.refl W).alloc _⟩
  · have HG : Hid (K.good (n, i, s) = false) := good_no fun h => h1 h.1
    go_enter Try.func19, Try.ntmps19
    go_wp2_with fail
    go_ret
    exact ⟨by rw [HG.out]; simp, (Bl.refl W).alloc _⟩
theorem rGood_x (m : K.Me) (w W : World) (hb : Bl w W) : Calls Try.prog 19 #[.agg (meV m)] W fun e w' => e = .returned (.bool (K.good m)) ∧ Bl w w' := (rGood_0 m W).mono fun e w' ⟨h1, h2⟩ => ⟨h1, hb.step h2⟩
set_option maxRecDepth 8000 in
set_option maxHeartbeats 8000000 in
theorem rAbove_0 (a b : K.Me) (W : World) : Calls Try.prog 21 #[.agg (meV a), .agg (meV b)] W fun e w' => e = .returned (.bool (K.above a b)) ∧ Bl W w' := by
  have HG : Hid (K.above a b = (K.good a && K.good b && (a.1 == b.1) && K.hi a b)) := K.above_eq a b
  have C1 : Hid (∀ w W, Bl w W → Calls Try.prog 19 #[.agg (meV a)] W fun e w' => e = .returned (.bool (K.good a)) ∧ Bl w w') := fun w W h => rGood_x a w W h
  have C2 : Hid (∀ w W, Bl w W → Calls Try.prog 19 #[.agg (meV b)] W fun e w' => e = .returned (.bool (K.good b)) ∧ Bl w w') := fun w W h => rGood_x b w W h
  have HH : Hid (K.hi a b = (decide (a.2.1 > b.2.1) || (a.2.1 == b.2.1) && decide (a.2.2 > b.2.2))) := by
    show _ = _
    unfold K.hi K.Hi
    rw [Bool.eq_iff_iff]; simp
  have HB : Bl ((W.alloc (.cells (meV a) 28)).alloc (.cells (meV b) 28)) ((W.alloc (.cells (meV a) 28)).alloc (.cells (meV b) 28)) := Bl.refl _
  generalize K.good a = x at *
  generalize K.good b = y at *
  generalize K.hi a b = z at *
  generalize K.above a b = r at *
  obtain ⟨n, i, s⟩ := a
  obtain ⟨n2, i2, s2⟩ := b
  unfold meV at *
  simp only at HG HB C1 C2 HH ⊢
  obtain ⟨q, hq⟩ : ∃ q, (n == n2) = q := ⟨_, rfl⟩
  have HG2 : Hid (r = (x && y && q && (decide (i > i2) || (i == i2) && decide (s > s2)))) := by show _ = _; rw [HG.out, hq, HH.out]
  clear HG HH
  obtain ⟨fs, hum⟩ := undMe
  cases x with
  | false =>
    go_enter Try.func21, Try.ntmps21
    go_wp2_with (first
      | go_skip
      | (go_at_call 19; refine (C1.out _ _ HB).mono ?_; clear HB C1; rintro e w' ⟨rfl, HB⟩))
    go_ret
    exact ⟨by rw [HG2.out]; simp, HB.up.up⟩
  | true =>
    cases y with
    | false =>
      go_enter Try.func21, Try.ntmps21
      go_wp2_with (first
        | go_skip
        | (go_at_call 19; refine (C1.out _ _ HB).mono ?_; clear HB C1; rintro e w' ⟨rfl, HB⟩; have hb2 := HB.box; simp only [size_alloc1] at hb2; have R2 := range3 hb2; clear hb2)
        | (go_at_call 19; refine (C2.out _ _ HB).mono ?_; clear HB C2 R2; rintro e w' ⟨rfl, HB⟩)
        | (refine wl_midG rfl 28 _ rfl (W.heap.size + 1) 0 rfl [.int .i64 n2, .int .i64 i2, .int .i64 s2] _ R2 hum rfl infoMe ?_))
      go_ret
      exact ⟨by rw [HG2.out]; simp, HB.up.up⟩
    | true =>
      have hd : i > i2 ∨ (¬ i > i2 ∧ i = i2) ∨ (¬ i > i2 ∧ i ≠ i2) := by omega
      cases q <;> rcases hd with h1 | ⟨h1, rfl⟩ | ⟨h1, h2⟩ <;>
      · go_enter Try.func21, Try.ntmps21
        go_wp2_with (first
          | go_skip
          | (go_at_call 19; refine (C1.out _ _ HB).mono ?_; clear HB C1; rintro e w' ⟨rfl, HB⟩; have hb2 := HB.box; simp only [size_alloc1] at hb2; have R2 := range3 hb2; clear hb2)
          | (go_at_call 19; refine (C2.out _ _ HB).mono ?_; clear HB C2 R2; rintro e w' ⟨rfl, HB⟩; obtain ⟨k0, k1, k2⟩ := cells3 HB.box1; have hb2 := HB.box; simp only [size_alloc1] at hb2; obtain ⟨l0, l1, l2⟩ := cells3 hb2; clear hb2)
          | (refine wl_midG rfl 28 _ rfl (W.heap.size + 1) 0 rfl [.int .i64 n2, .int .i64 _, .int .i64 s2] _ R2 hum rfl infoMe ?_))
        go_ret
        exact ⟨by rw [HG2.out]; simp_all, HB.up.up⟩
theorem rAbove_x (a b : K.Me) (w W : World) (hb : Bl w W) : Calls Try.prog 21 #[.agg (meV a), .agg (meV b)] W fun e w' => e = .returned (.bool (K.above a b)) ∧ Bl w w' := (rAbove_0 a b W).mono fun e w' ⟨h1, h2⟩ => ⟨h1, hb.step h2⟩
end Go.Proofs.Ytgnnlnhhikmneaa
