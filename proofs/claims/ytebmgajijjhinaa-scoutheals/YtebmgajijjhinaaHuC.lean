/- How rumours are compared: byNode, byTelling, with the world that they leave. -/
import Derived.Test.YtebmgajijjhinaaKn4
import Derived.Test.YtebmgajijjhinaaHuMath
import Derived.Sort.Grow
namespace Go.Proofs.Ytebmgajijjhinaa
open Go.RowKit Go.Maps Go.Sort
set_option linter.unusedVariables false
set_option linter.unusedSimpArgs false

/-- w', but for draws and new blocks, is w -/
def Gn (w w' : World) : Prop := ∃ (q : Nat) (os : Array Obj), w' = grow (w.drewN q) os
theorem grow_none (w : World) : grow w #[] = w := by simp [grow]
theorem drewN_grow (w : World) (os : Array Obj) : ∀ n, (grow w os).drewN n = grow (w.drewN n) os
  | 0 => rfl
  | n + 1 => by
    have h1 : (grow w os).drewN (n + 1) = ((grow w os).drewN n).drewN 1 := by rw [World.drewN_drewN]
    have h2 : w.drewN (n + 1) = (w.drewN n).drewN 1 := by rw [World.drewN_drewN]
    rw [h1, drewN_grow w os n, h2]
    rfl
theorem Gn.refl (w : World) : Gn w w := ⟨0, #[], by rw [grow_none]; rfl⟩
theorem Gn.alloc {w w' : World} (h : Gn w w') (o : Obj) : Gn w (w'.alloc o) := by
  obtain ⟨q, os, rfl⟩ := h
  exact ⟨q, os ++ #[o], by rw [alloc_eq_grow, grow_grow]⟩
theorem Gn.drewN {w w' : World} (h : Gn w w') (n : Nat) : Gn w (w'.drewN n) := by
  obtain ⟨q, os, rfl⟩ := h
  exact ⟨q + n, os, by rw [drewN_grow, World.drewN_drewN]⟩
theorem Gn.trans {w w' w'' : World} (h : Gn w w') (k : Gn w' w'') : Gn w w'' := by
  obtain ⟨q, os, rfl⟩ := h
  obtain ⟨p, os', rfl⟩ := k
  exact ⟨q + p, os ++ os', by rw [drewN_grow, World.drewN_drewN, grow_grow]⟩
theorem Gn.below {w w' : World} (h : Gn w w') : Below w.heap.size w w' := by
  obtain ⟨q, os, rfl⟩ := h
  have hb := (Bl.refl w).drewN q
  refine ⟨hb.os, hb.tape, hb.output, ?_, fun k hk => ?_⟩
  · show w.heap.size ≤ ((w.drewN q).heap ++ os).size
    have := hb.size
    rw [Array.size_append]; omega
  · show ((w.drewN q).heap ++ os)[k]? = _
    rw [Array.getElem?_append_left (by have := hb.size; omega)]
    exact hb.block k hk
/-- a rumour's cells -/
def lyR : Lay HU.Ru := ⟨4, fun r => [.int .i64 r.1.1, .int .i64 r.1.2.1, .int .i64 r.1.2.2, .int .i64 r.2], fun _ => rfl, fun x u hu => by simp at hu; rcases hu with rfl | rfl | rfl | rfl <;> rfl, by decide⟩
def ruV (r : HU.Ru) : Array Value := #[.int .i64 r.1.1, .int .i64 r.1.2.1, .int .i64 r.1.2.2, .int .i64 r.2]
def cmpI (a b : Int) : Int := if a < b then -1 else if b < a then 1 else 0
theorem isNaN_x (a : Int) (W : World) : Calls Try.prog 89 #[.int .i64 a] W fun e w' => e = .returned (.bool false) ∧ w' = W := by
  go_enter Try.func89, Try.ntmps89
  go_wp2_with fail
  go_ret
  exact ⟨by simp, rfl⟩
theorem Compare_x (a b : Int) (W : World) : Calls Try.prog 75 #[.int .i64 a, .int .i64 b] W fun e w' => e = .returned (.int .i64 (cmpI a b)) ∧ w' = W := by
  have C1 : Hid (∀ a W, Calls Try.prog 89 #[.int .i64 a] W fun e w' => e = .returned (.bool false) ∧ w' = W) := isNaN_x
  by_cases h1 : a < b
  · have HC : Hid (cmpI a b = -1) := by show _ = _; unfold cmpI; rw [if_pos h1]
    generalize cmpI a b = r at *
    · skip
      go_enter Try.func75, Try.ntmps75
      go_wp2_with (first
        | go_skip
        | (go_at_call 89; refine (C1.out _ _).mono ?_; rintro e w' ⟨rfl, hw⟩; rw [hw]; clear hw w'))
      go_ret
      exact ⟨by rw [HC.out]; rfl, rfl⟩
  · by_cases h2 : b < a
    · have HC : Hid (cmpI a b = 1) := by show _ = _; unfold cmpI; rw [if_neg h1, if_pos h2]
      have h2' : a > b := h2
      generalize cmpI a b = r at *
      go_enter Try.func75, Try.ntmps75
      go_wp2_with (first
        | go_skip
        | (go_at_call 89; refine (C1.out _ _).mono ?_; rintro e w' ⟨rfl, hw⟩; rw [hw]; clear hw w'))
      go_ret
      exact ⟨by rw [HC.out]; rfl, rfl⟩
    · have HC : Hid (cmpI a b = 0) := by show _ = _; unfold cmpI; rw [if_neg h1, if_neg h2]
      have h2' : ¬ a > b := h2
      generalize cmpI a b = r at *
      go_enter Try.func75, Try.ntmps75
      go_wp2_with (first
        | go_skip
        | (go_at_call 89; refine (C1.out _ _).mono ?_; rintro e w' ⟨rfl, hw⟩; rw [hw]; clear hw w'))
      go_ret
      exact ⟨by rw [HC.out]; rfl, rfl⟩
set_option maxRecDepth 8000 in
theorem Or_x (x y : Int) (c : Nat) (B : Nat) (W : World) (h0 : W.cell? ⟨B, 0, none⟩ = some (.int .i64 x)) (h1 : W.cell? ⟨B, 1, none⟩ = some (.int .i64 y)) :
    Calls Try.prog 74 #[.slice (some ⟨B, 0, none⟩) 2 c] W fun e w' => e = .returned (.int .i64 (if x = 0 then y else x)) ∧ w' = W := by
  by_cases hx : x = 0
  · have HC : Hid ((if x = 0 then y else x) = y) := if_pos hx
    have hxb : (x != 0) = false := by simp [hx]
    generalize (if x = 0 then y else x) = r at *
    clear hx
    by_cases hy : y = 0
    · have hyb : (y != 0) = false := by simp [hy]
      have HY : Hid (y = 0) := hy
      clear hy
      go_enter Try.func74, Try.ntmps74
      go_wp2_with fail
      refine wp_loop_rounds 3 ?_
      rw [rounds_succ]
      go_wp2_with fail
      rw [rounds_succ]
      go_wp2_with fail
      rw [rounds_succ]
      go_wp2_with fail
      go_ret
      exact ⟨by rw [HC.out, HY.out]; rfl, rfl⟩
    · have hyb : (y != 0) = true := by simp [hy]
      go_enter Try.func74, Try.ntmps74
      go_wp2_with fail
      refine wp_loop_rounds 2 ?_
      rw [rounds_succ]
      go_wp2_with fail
      rw [rounds_succ]
      go_wp2_with fail
      go_ret
      exact ⟨by rw [HC.out]; rfl, rfl⟩
  · have HC : Hid ((if x = 0 then y else x) = x) := if_neg hx
    have hxb : (x != 0) = true := by simp [hx]
    generalize (if x = 0 then y else x) = r at *
    go_enter Try.func74, Try.ntmps74
    go_wp2_with fail
    refine wp_loop_rounds 1 ?_
    rw [rounds_succ]
    go_wp2_with fail
    go_ret
    exact ⟨by rw [HC.out]; rfl, rfl⟩
theorem byNode_gn (a b : HU.Ru) (W : World) : Calls Try.prog 76 #[.agg (ruV a), .agg (ruV b)] W fun e w' => e = .returned (.int .i64 (cmpI a.1.1 b.1.1)) ∧ Gn W w' := by
  have C1 : Hid (∀ a b W, Calls Try.prog 75 #[.int .i64 a, .int .i64 b] W fun e w' => e = .returned (.int .i64 (cmpI a b)) ∧ w' = W) := Compare_x
  have HG : Hid (Gn W ((W.alloc (.cells (ruV a) 115)).alloc (.cells (ruV b) 115))) := ((Gn.refl W).alloc _).alloc _
  obtain ⟨⟨n, i, s⟩, q⟩ := a
  obtain ⟨⟨n2, i2, s2⟩, q2⟩ := b
  unfold ruV at *
  simp only at *
  go_enter Try.func76, Try.ntmps76
  go_wp2_with (first
    | (go_at_call 75; refine (C1.out _ _ _).mono ?_; rintro e w' ⟨rfl, hw⟩; rw [hw]; clear hw w'))
  go_ret
  exact ⟨rfl, HG.out⟩
def cmpT (a b : HU.Ru) : Int := if cmpI b.2 a.2 = 0 then cmpI a.1.1 b.1.1 else cmpI b.2 a.2
end Go.Proofs.Ytebmgajijjhinaa
