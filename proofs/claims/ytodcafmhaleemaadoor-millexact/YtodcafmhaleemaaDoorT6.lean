/- What reverses a text's bytes. -/
import Derived.Test.YtodcafmhaleemaaDoorT5
import Derived.Lib.ConvBytes
namespace Go.Proofs.YtodcafmhaleemaaDoor
open Go.RowKit
set_option linter.unusedVariables false

/-- the byte x of a list that is turned round so far -/
def rvA (l : List UInt8) (k x : Nat) : UInt8 := if x < k ∨ l.length - 1 - x < k then l.getD (l.length - 1 - x) 0 else l.getD x 0
structure RV (q : Nat) (l : List UInt8) (k : Nat) (w W : World) : Prop where
  c : ∀ x, x < l.length → W.cell? ⟨q, x, none⟩ = some (.int .u8 ((rvA l k x).toNat : Int))
  f : ∀ x, x < l.length → W.frozen? ⟨q, x, none⟩ = false
  o : Off q w W
theorem RV.drewN {q k n : Nat} {l : List UInt8} {w W : World} (h : RV q l k w W) : RV q l k w (W.drewN n) := ⟨h.c, h.f, ⟨h.o.os, h.o.tape, h.o.output, h.o.size, h.o.block⟩⟩
theorem RV.drew {q k : Nat} {l : List UInt8} {w W : World} (h : RV q l k w W) : RV q l k w W.drew := ⟨h.c, h.f, ⟨h.o.os, h.o.tape, h.o.output, h.o.size, h.o.block⟩⟩
theorem RV.set {q k : Nat} {l : List UInt8} {w W : World} (h : RV q l k w W) (hk : k < l.length - 1 - k) :
    RV q l (k + 1) w ((W.setCell ⟨q, k, none⟩ (.int .u8 ((l.getD (l.length - 1 - k) 0).toNat : Int))).setCell ⟨q, l.length - 1 - k, none⟩ (.int .u8 ((l.getD k 0).toNat : Int))) := by
  refine ⟨fun x hx => ?_, fun x hx => ?_, (h.o.setCell _ _).setCell _ _⟩
  · have hk' := h.c k (by omega)
    have hj' := h.c (l.length - 1 - k) (by omega)
    by_cases h1 : x = l.length - 1 - k
    · subst h1
      have e : (W.setCell ⟨q, k, none⟩ (.int .u8 ((l.getD (l.length - 1 - k) 0).toNat : Int))).cell? ⟨q, l.length - 1 - k, none⟩ = _ := (World.cell?_setCell_other _ _ _ _ (by intro e; injection e with e1 e2 e3; omega)).trans hj'
      rw [World.cell?_setCell_same _ _ _ e]
      have er : rvA l (k + 1) (l.length - 1 - k) = l.getD k 0 := by
        unfold rvA
        rw [if_pos (by omega), show l.length - 1 - (l.length - 1 - k) = k by omega]
      rw [er]
    · rw [World.cell?_setCell_other _ _ _ _ (by intro e; injection e with e1 e2 e3; omega)]
      by_cases h2 : x = k
      · subst h2
        rw [World.cell?_setCell_same _ _ _ hk']
        have er : rvA l (x + 1) x = l.getD (l.length - 1 - x) 0 := by unfold rvA; rw [if_pos (by omega)]
        rw [er]
      · rw [World.cell?_setCell_other _ _ _ _ (by intro e; injection e with e1 e2 e3; omega), h.c x hx]
        have er : rvA l (k + 1) x = rvA l k x := by
          unfold rvA
          by_cases h3 : x < k ∨ l.length - 1 - x < k
          · rw [if_pos h3, if_pos (by omega)]
          · rw [if_neg h3, if_neg (by omega)]
        rw [er]
  · simp only [World.frozen?_setCell]; exact h.f x hx
theorem rvA_end (l : List UInt8) (k x : Nat) (hx : x < l.length) (hk : ¬ (k : Int) < (l.length : Int) - 1 - k) : rvA l k x = l.reverse.getD x 0 := by
  have e : l.reverse.getD x 0 = l.getD (l.length - 1 - x) 0 := by
    simp only [List.getD_eq_getElem?_getD]
    rw [List.getElem?_reverse hx]
  rw [e]
  unfold rvA
  by_cases h : x < k ∨ l.length - 1 - x < k
  · rw [if_pos h]
  · rw [if_neg h, show l.length - 1 - x = x by omega]

set_option maxRecDepth 8000 in
set_option maxHeartbeats 4000000 in
theorem Reverse_at (q cap : Nat) (l : List UInt8) (W : World) (hl : l.length ≤ 1000000) (h : RV q l 0 W W) :
    Calls Tryd.prog 57 #[.slice (some ⟨q, 0, none⟩) l.length cap] W fun e w' => e = .returned (.tuple #[]) ∧ ∃ k : Nat, ¬ (k : Int) < (l.length : Int) - 1 - k ∧ RV q l k W w' := by
  have HH : Hid (RV q l 0 W W) := h
  clear h
  go_enter Tryd.func57, Tryd.ntmps57
  go_wp2_with fail
  go_loopw [2, 3] (fun u2 u3 wr => ∃ k : Nat, k ≤ l.length ∧ u2 = .int .i64 (k : Int) ∧ u3 = .int .i64 ((l.length : Int) - 1 - (k : Int)) ∧ RV q l k W wr) (fun u2 _ _ => l.length - (intOf u2).toNat)
  case atStart => exact ⟨0, Nat.zero_le _, rfl, by simp, HH.out⟩
  case round =>
    obtain ⟨k, hk, rfl, rfl, hr⟩ := hrel
    clear HH
    by_cases hlt : (k : Int) < (l.length : Int) - 1 - k
    · have e1 : rvA l k k = l.getD k 0 := by unfold rvA; rw [if_neg (by omega)]
      have e2 : rvA l k (l.length - 1 - k) = l.getD (l.length - 1 - k) 0 := by unfold rvA; rw [if_neg (by omega)]
      have k1 := hr.c k (by omega)
      have k2 := hr.c (l.length - 1 - k) (by omega)
      rw [e1] at k1
      rw [e2] at k2
      have f1 := hr.f k (by omega)
      have f2 := hr.f (l.length - 1 - k) (by omega)
      have HS : Hid (RV q l (k + 1) W ((wr.setCell ⟨q, k, none⟩ (.int .u8 ((l.getD (l.length - 1 - k) 0).toNat : Int))).setCell ⟨q, l.length - 1 - k, none⟩ (.int .u8 ((l.getD k 0).toNat : Int)))) := hr.set (by omega)
      obtain ⟨j, hj⟩ : ∃ j, j = l.length - 1 - k := ⟨_, rfl⟩
      rw [← hj] at k2 f2 HS
      have hj1 : (l.length : Int) - 1 - (k : Int) = (j : Int) := by omega
      have hj2 : (k : Int) < (j : Int) := by omega
      have hj3 : (j : Int) < (l.length : Int) := by omega
      have hj4 : (k : Int) < (l.length : Int) := by omega
      have hw1 : IntKind.i64.wrap (k : Int) = (k : Int) := by simp only [IntKind.wrap, IntKind.bits, IntKind.signed]; simp; omega
      have hw2 : IntKind.i64.wrap (j : Int) = (j : Int) := by simp only [IntKind.wrap, IntKind.bits, IntKind.signed]; simp; omega
      have i0 : (0 : Int) ≤ (k : Int) := by omega
      have i1 : (0 : Int) ≤ (j : Int) := by omega
      have hkj : k ≠ j := by omega
      have HJ : Hid (j = l.length - 1 - k) := hj
      have hll : (l.length : Int) ≤ 1000000 := by omega
      have hK2 : Hid (∃ v', (wr.drew.setCell ⟨q, k, none⟩ (.int .u8 ((l.getD j 0).toNat : Int))).cell? ⟨q, j, none⟩ = some v') := cell?_setCell_some (w := wr.drew) (by exact k2)
      generalize (l.getD k 0).toNat = x1 at *
      generalize (l.getD j 0).toNat = x2 at *
      rw [hj1]
      clear hr e1 e2 hj
      go_wp2_with fail
      obtain ⟨v', hy'⟩ := hK2.out
      go_region
      all_goals go_wp2_with fail
      all_goals go_roundw
      case rel => exact ⟨k + 1, by omega, by go_num, by have := HJ.out; congr 1; omega, HS.out.drew⟩
      case measure => simp [intOf]; omega
    · have HR : Hid (RV q l k W wr) := hr
      have HL : Hid (¬ (k : Int) < (l.length : Int) - 1 - k) := hlt
      clear hr
      have hd : decide ((k : Int) < (l.length : Int) - 1 - k) = false := by simpa using hlt
      go_wp2_with fail
      refine bodyPost_end (results_none rfl _ _ _) rfl ?_
      exact ⟨rfl, k, HL.out, HR.out⟩
end Go.Proofs.YtodcafmhaleemaaDoor
