/- turn, isPresent, isAbsent, those, and what only looks. -/
import Derived.Test.YtebmgajijjhinaaSo4
namespace Go.Proofs.Ytebmgajijjhinaa
open Go.RowKit Go.Maps
set_option linter.unusedVariables false
set_option linter.unusedSimpArgs false

theorem of_i64 {s : SO.Sc} {N : Nat} (x : Num s N) (k : Int) : i64 (SO.of s k).1 := by
  unfold SO.of
  cases h : s.f k with
  | none => exact ⟨by decide, by decide⟩
  | some m =>
    have := (x.ok k m h).1
    have h1 := this.1
    have h2 := this.2.1
    exact ⟨by show _ ≤ m.1; omega, by show m.1 ≤ _; omega⟩
set_option maxRecDepth 8000 in
set_option maxHeartbeats 1000000 in
theorem turn_x {w W : World} {p : Nat} {P : Pl} {B : Nat → Prop} {N : Nat} {s : SO.Sc} (x : S0 w p P B N s W) (hN : N ≤ 100000000000) (k st : Int) (hk : i64 k) :
    Calls Try.prog 18 #[.pointer (some ⟨p, 0, none⟩), .int .i64 k, .int .i64 st] W fun e w' => e = .returned (.tuple #[]) ∧ SX w p B W (N + 1) (SO.turn s k st) w' := by
  have C1 : Hid (Calls Try.prog 20 #[.pointer (some ⟨p, 0, none⟩), .int .i64 k] W fun e w' => e = .returned (.agg (meV (SO.of s k))) ∧ Bl W w') := of_x x k hk
  have C2 : Hid (∀ W' U (b : Nat), Bl W W' → b = W'.heap.size → U = W'.alloc (.cells (meV ((SO.of s k).1, (SO.of s k).2.1, st)) 54) → Calls Try.prog 36 #[.pointer (some ⟨p, 0, none⟩), .slice (some ⟨b, 0, none⟩) 1 1] U fun e w' => e = .returned (.tuple #[]) ∧ SX w p B W (N + 1) (SO.turn s k st) w') := fun W' U b hb hB hU => by
    subst hU hB
    have x1 := (x.grow hb).grow ((Bl.refl W').alloc (.cells (meV ((SO.of s k).1, (SO.of s k).2.1, st)) 54))
    refine (learn_x x1 hN ((SO.of s k).1, (SO.of s k).2.1, st) (of_i64 x.num k) _ 1 (RS.one lyM W' 54 ((SO.of s k).1, (SO.of s k).2.1, st))).mono ?_
    rintro e w' ⟨rfl, h1⟩
    exact ⟨rfl, SX.trans (OS.of_bl (hb.alloc _)) h1⟩
  generalize SO.turn s k st = s' at *
  generalize SO.of s k = m at *
  obtain ⟨n, i, st0⟩ := m
  unfold meV at *
  simp only at *
  clear x
  go_enter Try.func18, Try.ntmps18
  go_wp2_with (first
    | (go_at_call 20; refine C1.out.mono ?_; clear C1; rintro e w1 ⟨rfl, hb⟩; have HB := hidI hb; clear hb)
    | (go_at_call 36; refine (C2.out (w1.alloc (.cells #[.int .i64 n, .int .i64 i, .int .i64 st] 54)) _ (w1.heap.size + 1) (HB.out.alloc _) (by simp) rfl).mono ?_; rintro e w2 ⟨rfl, hs⟩))
  refine bodyPost_end (results_none rfl _ _ _) rfl ?_
  exact ⟨rfl, hs⟩
set_option maxRecDepth 8000 in
theorem isPresent_x {w W : World} {p : Nat} {P : Pl} {B : Nat → Prop} {N : Nat} {s : SO.Sc} (x : S0 w p P B N s W) (k : Int) :
    Calls Try.prog 53 #[.pointer (some ⟨p, 0, none⟩), .int .i64 k] W fun e w' => e = .returned (.bool (SO.isP s k)) ∧ Bl W w' := by
  have c0 := x.c0
  have C1 : Hid (Calls Try.prog 28 #[.pointer (some ⟨P.q, 0, none⟩)] W fun e w' => ∃ a c, e = .returned (.slice a (K.pres s.f).length c) ∧ Bl W w' ∧ Hid (Calls Try.prog 63 #[.slice a (K.pres s.f).length c, .int .i64 k] w' fun e w' => e = .returned (.bool (SO.isP s k)) ∧ Bl W w')) := by
    refine (Present_g x.vt.getC).mono ?_
    rintro e w' ⟨a, c, rfl, h1, h2⟩
    refine ⟨a, c, rfl, h2, Contains_i (K.pres s.f) k a _ c rfl h2 h1 ?_⟩
    have h3 := K.preL_len (K.all s.f) (K.all s.f).length
    rw [K.preL_all] at h3
    have := K.allN_len s.f 6
    unfold K.all at h3
    omega
  generalize SO.isP s k = z at *
  generalize P.q = q at *
  clear x
  go_enter Try.func53, Try.ntmps53
  go_wp2_with (first
    | (go_at_call 28; refine C1.out.mono ?_; clear C1 c0; rintro e w1 ⟨a, c, rfl, h1, C2⟩; clear h1)
    | (go_at_call 63; refine C2.out.mono ?_; clear C2; rintro e w2 ⟨rfl, hb⟩))
  go_ret
  exact ⟨rfl, hb⟩
set_option maxRecDepth 8000 in
theorem isAbsent_x {w W : World} {p : Nat} {P : Pl} {B : Nat → Prop} {N : Nat} {s : SO.Sc} (x : S0 w p P B N s W) (m : K.Me) :
    Calls Try.prog 50 #[.pointer (some ⟨p, 0, none⟩), .agg (meV m)] W fun e w' => e = .returned (.bool (!SO.isP s m.1)) ∧ Bl W w' := by
  have C1 : Hid (Calls Try.prog 53 #[.pointer (some ⟨p, 0, none⟩), .int .i64 m.1] (W.alloc (.cells (meV m) 54)) fun e w' => e = .returned (.bool (SO.isP s m.1)) ∧ Bl W w') := by
    refine (isPresent_x (x.grow ((Bl.refl W).alloc (.cells (meV m) 54))) m.1).mono ?_
    rintro e w' ⟨h1, h2⟩
    exact ⟨h1, h2.up⟩
  obtain ⟨n, i, st⟩ := m
  unfold meV at *
  simp only at *
  generalize SO.isP s n = z at *
  clear x
  go_enter Try.func50, Try.ntmps50
  go_wp2_with (go_at_call 53; refine C1.out.mono ?_; clear C1; rintro e w2 ⟨rfl, hb⟩)
  go_ret
  exact ⟨rfl, hb⟩
set_option maxRecDepth 8000 in
set_option maxHeartbeats 1000000 in
theorem isOverdue_x {w W : World} {p : Nat} {P : Pl} {B : Nat → Prop} {N : Nat} {s : SO.Sc} (x : S0 w p P B N s W) (hN : N ≤ 100000000000) (m : K.Me) (hm : 0 ≤ m.1 ∧ m.1 ≤ 6) :
    Calls Try.prog 17 #[.pointer (some ⟨p, 0, none⟩), .agg (meV m)] W fun e w' => e = .returned (.bool (SO.overdue s m)) ∧ Bl W w' := by
  obtain ⟨n, i, st⟩ := m
  obtain ⟨k, rfl⟩ : ∃ k : Nat, n = k := ⟨n.toNat, by have := hm.1; simp only at this; omega⟩
  have hk : k < 7 := by have := hm.2; simp only at this; omega
  have HO : Hid (SO.overdue s ((k : Int), i, st) = (st == 1 && decide (s.now - s.sn k ≥ 8))) := rfl
  have x1 := x.grow ((Bl.refl W).alloc (.cells #[.int .i64 (k : Int), .int .i64 i, .int .i64 st] 54)).drew
  have c2 := x1.c2
  have cs := x1.cs k hk
  have HB : Hid (Bl W (W.alloc (.cells #[.int .i64 (k : Int), .int .i64 i, .int .i64 st] 54)).drew) := ((Bl.refl W).alloc _).drew
  have b1 := x.num.n1
  have b2 := x.num.n2
  have b3 := x.num.s1 k
  have b4 := x.num.s2 k
  rw [HO.out]
  clear HO x x1
  generalize s.now = t at *
  generalize s.sn k = u at *
  unfold meV at *
  simp only at *
  by_cases h1 : st = 1
  · subst h1
    obtain ⟨z, hz⟩ : ∃ z, decide (t - u ≥ 8) = z := ⟨_, rfl⟩
    rw [hz]
    have hz2 : decide (8 ≤ t - u) = z := hz
    go_enter Try.func17, Try.ntmps17
    go_wp2_with fail
    go_region
    all_goals go_wp2_with fail
    all_goals go_ret
    all_goals exact ⟨by simp [hz2], HB.out⟩
  · have h2 : (st == 1) = false := beq_eq_false_iff_ne.2 h1
    go_enter Try.func17, Try.ntmps17
    go_wp2_with fail
    go_region
    all_goals go_wp2_with fail
    all_goals go_ret
    all_goals exact ⟨by simp [h2], HB.out⟩
end Go.Proofs.Ytebmgajijjhinaa
