/- The law's awake answers true. -/
import Derived.Test.YtgnnlnhhikmneaaKn5
import Derived.Great.BuildSlice
namespace Go.Proofs.Ytgnnlnhhikmneaa
open Go.RowKit Go.Maps
set_option linter.unusedVariables false
set_option linter.unusedSimpArgs false

theorem rs_new {α : Type} (E : Lay α) (W : World) (t : TypeId) (l : List α) (C : Array Value) (hC : C = (flG E l).toArray) : RS E (W.alloc (.cells C t)) (some ⟨W.heap.size, 0, none⟩) l := fun i y hy => by
  subst hC
  refine ⟨W.heap.size, 0, rfl, by simp, fun j v hv => ?_⟩
  obtain ⟨a, z, e1, e2⟩ := flG_at E l hy
  rw [Lib.cell_of_heap (heap_alloc_new W _), e1]
  simp only [List.getElem?_toArray, Nat.zero_add]
  have hj := (List.getElem?_eq_some_iff.1 hv).1
  rw [List.getElem?_append_right (by omega), e2, Nat.add_sub_cancel_left, List.getElem?_append_left hj]
  exact hv
def World.size1 (W : World) : Nat := W.heap.size
abbrev mA : K.Me := (2, 0, 0)
abbrev mB : K.Me := (2, 0, 1)
abbrev mC : K.Me := (2, 1, 0)
/-- a member in a block of its own -/
def Bx (W : World) (b : Nat) (m : K.Me) : Prop := W.heap[b]? = some (.cells #[.int .i64 m.1, .int .i64 m.2.1, .int .i64 m.2.2] 28 (0, 0))
theorem Bx.grow {W W' : World} {b : Nat} {m : K.Me} (h : Bx W b m) (hb : Bl W W') : Bx W' b m := by
  unfold Bx at *
  rw [Below.block hb _ (lt_heap h)]; exact h
theorem Bx.new (W : World) (m : K.Me) : Bx (W.alloc (.cells #[.int .i64 m.1, .int .i64 m.2.1, .int .i64 m.2.2] 28)) W.heap.size m := heap_alloc_new W _
theorem Bx.r {W : World} {b : Nat} {m : K.Me} (h : Bx W b m) : W.rangeAt b 0 [.int .i64 m.1, .int .i64 m.2.1, .int .i64 m.2.2] := range3 h
structure A3 (w W : World) : Prop where
  bl : Bl w W
  r0 : Bx W w.heap.size mA
  r1 : Bx W (w.heap.size + 1) mB
  r2 : Bx W (w.heap.size + 2) mC
theorem A3.grow {w W W' : World} (h : A3 w W) (hb : Bl W W') : A3 w W' := ⟨h.bl.step hb, h.r0.grow hb, h.r1.grow hb, h.r2.grow hb⟩
def mV (m : K.Me) : List Value := [.int .i64 m.1, .int .i64 m.2.1, .int .i64 m.2.2]
theorem A3.new (w : World) : A3 w (((w.alloc (.cells #[.int .i64 2, .int .i64 0, .int .i64 0] 28)).alloc (.cells #[.int .i64 2, .int .i64 0, .int .i64 1] 28)).alloc (.cells #[.int .i64 2, .int .i64 1, .int .i64 0] 28)) := by
  refine ⟨(((Bl.refl w).alloc _).alloc _).alloc _, ?_, ?_, ?_⟩
  · exact ((Bx.new w mA).grow (((Bl.refl _).alloc _).alloc _))
  · have := (Bx.new (w.alloc (.cells #[.int .i64 2, .int .i64 0, .int .i64 0] 28)) mB).grow ((Bl.refl _).alloc (.cells #[.int .i64 2, .int .i64 1, .int .i64 0] 28))
    rwa [size_alloc1] at this
  · have := Bx.new ((w.alloc (.cells #[.int .i64 2, .int .i64 0, .int .i64 0] 28)).alloc (.cells #[.int .i64 2, .int .i64 0, .int .i64 1] 28)) mC
    rwa [size_alloc1, size_alloc1] at this
def fv1 : K.Vw := K.mrg K.e0 [mC, mA, mB]
def fv2 : K.Vw := K.mrg K.e0 [mB]
def fv3 : K.Vw := K.mrg fv2 [mA, mC, mC]
theorem i2 : i64 2 := by constructor <;> decide
theorem ok3 (l : List K.Me) (h : ∀ m ∈ l, m.1 = 2) : ∀ m ∈ l, i64 m.1 := fun m hm => by rw [h m hm]; exact i2
theorem gv1 : gv fv1 2 = mC := by decide +kernel
theorem gv3 : gv fv3 2 = mC := by decide +kernel
theorem is1 : (fv1 2).isSome = true := by decide +kernel
theorem is3 : (fv3 2).isSome = true := by decide +kernel
theorem tk3 : K.tak fv2 [mA, mC, mC] = [mC] := by decide +kernel
theorem pr1 : K.pres fv1 = [2] := by decide +kernel
/-- both views, and the members beside them -/
structure AS (w : World) (q1 q2 : Nat) (W : World) : Prop where
  a : A3 w W
  g1 : GetC W (.pointer (some ⟨q1, 0, none⟩)) fv1
  g2 : GetC W (.pointer (some ⟨q2, 0, none⟩)) fv3
theorem AS.grow {w W W' : World} {q1 q2 : Nat} (h : AS w q1 q2 W) (hb : Bl W W') : AS w q1 q2 W' := ⟨h.a.grow hb, h.g1.up hb, h.g2.up hb⟩
structure AT (w : World) (q1 q2 b1 b2 : Nat) (W : World) : Prop where
  s : AS w q1 q2 W
  r3 : Bx W b1 mC
  r4 : Bx W b2 mC
theorem AT.grow {w W W' : World} {q1 q2 b1 b2 : Nat} (h : AT w q1 q2 b1 b2 W) (hb : Bl W W') : AT w q1 q2 b1 b2 W' := ⟨h.s.grow hb, h.r3.grow hb, h.r4.grow hb⟩
set_option maxRecDepth 8000 in
set_option maxHeartbeats 8000000 in
theorem awake_10 (w : World) : Calls Try.prog 8 #[] w fun e w' => e = .returned (.bool true) ∧ Bl w w' := by
  have C1 : Hid (∀ (W : World) (N : Nat), N = W.heap.size → A3 w W → Calls Try.prog 9 #[.slice (some ⟨N, 0, none⟩) 3 3] (W.alloc (.cells #[.int .i64 2, .int .i64 1, .int .i64 0, .int .i64 2, .int .i64 0, .int .i64 0, .int .i64 2, .int .i64 0, .int .i64 1] 28)) fun e w' => ∃ q b, e = .returned (.pointer (some ⟨q, 0, none⟩)) ∧ A3 w w' ∧ GetC w' (.pointer (some ⟨q, 0, none⟩)) fv1) := fun W N hN hA => by
    subst hN
    refine (New_x (W.alloc (.cells #[.int .i64 2, .int .i64 1, .int .i64 0, .int .i64 2, .int .i64 0, .int .i64 0, .int .i64 2, .int .i64 0, .int .i64 1] 28)) [mC, mA, mB] _ 3 (rs_new lyM W _ [mC, mA, mB] _ rfl) (by decide) (ok3 _ (by decide))).mono ?_
    rintro e w' ⟨q, b, rfl, hx⟩
    exact ⟨q, b, rfl, hA.grow (Bl.step ((Bl.refl W).alloc _) hx.bl), hx.getC⟩
  have C2 : Hid (∀ (W : World) (N : Nat), N = W.heap.size → Calls Try.prog 9 #[.slice (some ⟨N, 0, none⟩) 1 1] (W.alloc (.cells #[.int .i64 2, .int .i64 0, .int .i64 1] 28)) fun e w' => ∃ q b, e = .returned (.pointer (some ⟨q, 0, none⟩)) ∧ VT (W.alloc (.cells #[.int .i64 2, .int .i64 0, .int .i64 1] 28)) q b fv2 1 w') := fun W N hN => by
    subst hN
    exact New_x (W.alloc (.cells #[.int .i64 2, .int .i64 0, .int .i64 1] 28)) [mB] _ 1 (rs_new lyM W _ [mB] _ rfl) (by decide) (ok3 _ (by decide))
  have C3 : Hid (∀ (W1 W : World) (N q b : Nat), N = W.heap.size → VT W1 q b fv2 1 W → Calls Try.prog 11 #[.pointer (some ⟨q, 0, none⟩), .slice (some ⟨N, 0, none⟩) 3 3] (W.alloc (.cells #[.int .i64 2, .int .i64 0, .int .i64 0, .int .i64 2, .int .i64 1, .int .i64 0, .int .i64 2, .int .i64 1, .int .i64 0] 28)) fun e w' => ∃ a c, e = .returned (.slice a 1 c) ∧ VT W1 q b fv3 4 w') := fun W1 W N q b hN hx => by
    subst hN
    refine (Merge_x (hx.grow ((Bl.refl W).alloc (.cells #[.int .i64 2, .int .i64 0, .int .i64 0, .int .i64 2, .int .i64 1, .int .i64 0, .int .i64 2, .int .i64 1, .int .i64 0] 28))) [mA, mC, mC] _ 3 (rs_new lyM W _ [mA, mC, mC] _ rfl) (by decide) (by omega) (ok3 _ (by decide))).mono ?_
    rintro e w' ⟨a, c, he, _, h2, _⟩
    rw [tk3] at he
    exact ⟨a, c, he, h2⟩
  have C4 : Hid (∀ q W, GetC W (.pointer (some ⟨q, 0, none⟩)) fv1 → Calls Try.prog 22 #[.pointer (some ⟨q, 0, none⟩), .int .i64 2] W fun e w' => e = .returned (.tuple #[.agg #[.int .i64 2, .int .i64 1, .int .i64 0], .bool true]) ∧ Bl W w') := fun q W h => by
    have := h 2 W i2 (Bl.refl W)
    rw [gv1, is1] at this
    exact this
  have C5 : Hid (∀ q W, GetC W (.pointer (some ⟨q, 0, none⟩)) fv3 → Calls Try.prog 22 #[.pointer (some ⟨q, 0, none⟩), .int .i64 2] W fun e w' => e = .returned (.tuple #[.agg #[.int .i64 2, .int .i64 1, .int .i64 0], .bool true]) ∧ Bl W w') := fun q W h => by
    have := h 2 W i2 (Bl.refl W)
    rw [gv3, is3] at this
    exact this
  have C6 : Hid (∀ W, Calls Try.prog 20 #[.agg #[.int .i64 2, .int .i64 0, .int .i64 1], .agg #[.int .i64 2, .int .i64 0, .int .i64 0]] W fun e w' => e = .returned (.bool true) ∧ Bl W w') := fun W => Above_x mB mA W W (Bl.refl W)
  have C7 : Hid (∀ W, Calls Try.prog 20 #[.agg #[.int .i64 2, .int .i64 1, .int .i64 0], .agg #[.int .i64 2, .int .i64 0, .int .i64 1]] W fun e w' => e = .returned (.bool true) ∧ Bl W w') := fun W => Above_x mC mB W W (Bl.refl W)
  have C8 : Hid (∀ W, Calls Try.prog 20 #[.agg #[.int .i64 2, .int .i64 0, .int .i64 0], .agg #[.int .i64 2, .int .i64 0, .int .i64 0]] W fun e w' => e = .returned (.bool false) ∧ Bl W w') := fun W => Above_x mA mA W W (Bl.refl W)
  have C9 : Hid (∀ q W, GetC W (.pointer (some ⟨q, 0, none⟩)) fv1 → Calls Try.prog 16 #[.pointer (some ⟨q, 0, none⟩)] W fun e w' => ∃ a c, e = .returned (.slice a 1 c) ∧ RS lyI w' a [2] ∧ Bl W w') := fun q W h => by
    have := Present_g h
    rw [pr1] at this
    exact this
  have C10 : Hid (∀ W a c N, N = World.size1 W → RS lyI W a [2] → Calls Try.prog 15 #[.slice a 1 c, .slice (some ⟨N, 0, none⟩) 1 1] (W.alloc (.cells #[.int .i64 2] 3)) fun e w' => e = .returned (.bool true) ∧ Bl W w') := fun W a c N hN h => by
    subst hN
    refine (Ints_x [2] [2] a _ c 1 _ (h.bl ((Bl.refl W).alloc (.cells #[.int .i64 2] 3))) (rs_new lyI W _ [2] _ rfl) (by decide) (by decide)).mono ?_
    rintro e w' ⟨rfl, n, rfl⟩
    exact ⟨rfl, ((Bl.refl W).alloc _).drewN n⟩
  have C11 : Hid (∀ W, Calls Try.prog 18 #[.agg #[.int .i64 0, .int .i64 0, .int .i64 0]] W fun e w' => e = .returned (.bool false) ∧ Bl W w') := fun W => Good_x (0, 0, 0) W W (Bl.refl W)
  have heq : ∀ W, (Op.equalIn 10000 28 (.agg #[.int .i64 2, .int .i64 1, .int .i64 0]) (.agg #[.int .i64 2, .int .i64 1, .int .i64 0])).run Try.prog W = .ok true W := fun W => eqMe mC mC W
  have HA0 := A3.new w
  obtain ⟨fs, hum⟩ := undMe
  go_enter Try.func8, Try.ntmps8
  go_wp2_with (first
    | (go_at_call 9; refine (C1.out _ _ (by simp) HA0).mono ?_; clear C1 HA0; rintro e W1 ⟨q1, b1, rfl, HA, HG1⟩; have R1 := HA.r1.r)
    | (go_at_call 9; refine (C2.out _ _ rfl).mono ?_; clear C2 R1; rintro e W2 ⟨q2, b2, rfl, HX2⟩; have HA2 : Hid (A3 w W2 ∧ GetC W2 (.pointer (some ⟨q1, 0, none⟩)) fv1) := ⟨HA.grow (Bl.step ((Bl.refl W1).alloc _) HX2.bl), HG1.up (Bl.step ((Bl.refl W1).alloc _) HX2.bl)⟩; have R0 := HA2.out.1.r0.r; have R2 := HA2.out.1.r2.r)
    | (go_at_call 11; refine (C3.out _ _ _ _ _ rfl HX2).mono ?_; clear C3 R0 R2 HA2; rintro e W3 ⟨a3, c3, rfl, HX3⟩; have HS : AS w q1 q2 W3 := ⟨HA.grow (Bl.step ((Bl.refl W1).alloc _) HX3.bl), HG1.up (Bl.step ((Bl.refl W1).alloc _) HX3.bl), HX3.getC⟩; clear HA HG1 HX2 HX3)
    | (go_at_call 22; refine (C4.out _ _ HS.g1).mono ?_; clear C4; rintro e W4 ⟨rfl, HB4⟩; have HS4 : AS w q1 q2 (W4.alloc (.cells #[.int .i64 2, .int .i64 1, .int .i64 0] 28)) := HS.grow (HB4.alloc _); have HM1 : Bx (W4.alloc (.cells #[.int .i64 2, .int .i64 1, .int .i64 0] 28)) W4.heap.size mC := Bx.new W4 mC; clear HS HB4)
    | (go_at_call 22; refine (C5.out _ _ HS4.g2).mono ?_; clear C5; rintro e W5 ⟨rfl, HB5⟩; have HT : AT w q1 q2 W4.heap.size W5.heap.size (W5.alloc (.cells #[.int .i64 2, .int .i64 1, .int .i64 0] 28)) := ⟨HS4.grow (HB5.alloc _), HM1.grow (HB5.alloc _), Bx.new W5 mC⟩; clear HS4 HM1 HB5; have R0 := HT.s.a.r0.r; have R1 := HT.s.a.r1.r; have R2 := HT.s.a.r2.r; have R3 := HT.r3.r; have R4 := HT.r4.r)
    | (go_at_call 20; refine (C6.out _).mono ?_; clear C6; rintro e W6 ⟨rfl, HB⟩; replace HT := HT.grow HB; clear R0 R1 R2 R3 R4; have R0 := HT.s.a.r0.r; have R1 := HT.s.a.r1.r; have R2 := HT.s.a.r2.r; have R3 := HT.r3.r; have R4 := HT.r4.r)
    | (go_at_call 20; refine (C7.out _).mono ?_; clear C7; rintro e W7 ⟨rfl, HB⟩; replace HT := HT.grow HB; clear R0 R1 R2 R3 R4; have R0 := HT.s.a.r0.r; have R1 := HT.s.a.r1.r; have R2 := HT.s.a.r2.r; have R3 := HT.r3.r; have R4 := HT.r4.r)
    | (go_at_call 20; refine (C8.out _).mono ?_; clear C8; rintro e W8 ⟨rfl, HB⟩; replace HT := HT.grow HB; clear R0 R1 R2 R3 R4; have R0 := HT.s.a.r0.r; have R1 := HT.s.a.r1.r; have R2 := HT.s.a.r2.r; have R3 := HT.r3.r; have R4 := HT.r4.r)
    | (go_at_call 16; refine (C9.out _ _ HT.s.g1).mono ?_; clear C9; rintro e W9 ⟨a9, c9, rfl, H9, HB⟩; replace HT := HT.grow HB; clear R0 R1 R2 R3 R4; have R0 := HT.s.a.r0.r; have R1 := HT.s.a.r1.r; have R2 := HT.s.a.r2.r; have R3 := HT.r3.r; have R4 := HT.r4.r)
    | (go_at_call 15; refine (C10.out _ _ _ _ rfl H9).mono ?_; clear C10; rintro e W10 ⟨rfl, HB⟩; replace HT := HT.grow HB; clear R0 R1 R2 R3 R4; have R0 := HT.s.a.r0.r; have R1 := HT.s.a.r1.r; have R2 := HT.s.a.r2.r; have R3 := HT.r3.r; have R4 := HT.r4.r)
    | (go_at_call 18; refine (C11.out _).mono ?_; clear C11; rintro e W11 ⟨rfl, HB⟩; replace HT := HT.grow HB; clear R0 R1 R2 R3 R4; have R0 := HT.s.a.r0.r; have R1 := HT.s.a.r1.r; have R2 := HT.s.a.r2.r; have R3 := HT.r3.r; have R4 := HT.r4.r)
    | (refine wl_midG rfl 28 _ rfl w.heap.size 0 rfl [.int .i64 2, .int .i64 0, .int .i64 0] _ R0 hum rfl infoMe ?_)
    | (refine wl_midG rfl 28 _ rfl (w.heap.size + 1) 0 rfl [.int .i64 2, .int .i64 0, .int .i64 1] _ R1 hum rfl infoMe ?_)
    | (refine wl_midG rfl 28 _ rfl (w.heap.size + 2) 0 rfl [.int .i64 2, .int .i64 1, .int .i64 0] _ R2 hum rfl infoMe ?_)
    | (refine wl_midG rfl 28 _ rfl W4.heap.size 0 rfl [.int .i64 2, .int .i64 1, .int .i64 0] _ R3 hum rfl infoMe ?_)
    | (refine wl_midG rfl 28 _ rfl W5.heap.size 0 rfl [.int .i64 2, .int .i64 1, .int .i64 0] _ R4 hum rfl infoMe ?_))
  go_ret
  exact ⟨rfl, HT.s.a.bl⟩
end Go.Proofs.Ytgnnlnhhikmneaa
