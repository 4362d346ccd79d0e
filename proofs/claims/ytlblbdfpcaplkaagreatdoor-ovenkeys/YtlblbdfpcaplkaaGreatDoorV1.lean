/- The reference's width and Steps. -/
import Derived.Test.YtlblbdfpcaplkaaGreatDoorMC
namespace Go.Proofs.YtlblbdfpcaplkaaGreatDoor
open Go.RowKit
set_option linter.unusedVariables false

/-- how many bytes the step at a place has; 0: it is none -/
def rwd (code : List UInt8) (k : Nat) : Nat := match Q.stepAt code k with
  | none => 0
  | some s => s.length
def widR (c : Int) (nx : Prop) [Decidable nx] (x : Nat) : Nat :=
  if c = 99 ∨ c = 100 ∨ c = 115 ∨ c = 120 ∨ c = 114 ∨ c = 104 ∨ c = 108 ∨ c = 61 then 1 else if c = 105 ∨ c = 116 ∨ c = 107 ∨ c = 106 ∨ c = 103 then 2 else if c = 112 then (if nx then 2 + x else 0) else 0
theorem rwd_is (code : List UInt8) (k : Nat) (c : UInt8) (hc : code[k]? = some c) : rwd code k = if widR (c.toNat : Int) (k + 1 < code.length) (code.getD (k + 1) 0).toNat = 0 ∨ code.length - k < widR (c.toNat : Int) (k + 1 < code.length) (code.getD (k + 1) 0).toNat then 0 else widR (c.toNat : Int) (k + 1 < code.length) (code.getD (k + 1) 0).toNat := by
  have hk : k < code.length := (List.getElem?_eq_some_iff.1 hc).1
  have hd0 : (code.drop k)[0]? = some c := by rw [List.getElem?_drop]; exact hc
  have hdl : (code.drop k).length = code.length - k := List.length_drop
  have hd1 : (code.drop k).getD 1 0 = code.getD (k + 1) 0 := by simp only [List.getD_eq_getElem?_getD, List.getElem?_drop]
  have hne : code.drop k ≠ [] := fun e => by rw [e] at hd0; simp at hd0
  have hw := wid_is (code.drop k) c hd0
  rw [hdl, hd1] at hw
  have e : rwd code k = if Q.width (code.drop k) = 0 ∨ code.length - k < Q.width (code.drop k) then 0 else Q.width (code.drop k) := by
    unfold rwd Q.stepAt Q.first
    rw [if_neg hne, hdl]
    by_cases h : Q.width (code.drop k) = 0 ∨ code.length - k < Q.width (code.drop k)
    · rw [if_pos h, if_pos h]
    · rw [if_neg h, if_neg h]
      have h2 : ¬ code.length - k < Q.width (code.drop k) := fun x => h (Or.inr x)
      simp only [List.length_take, hdl]; omega
  rw [e, hw]
  unfold wid widR
  generalize (code.getD (k + 1) 0).toNat = x
  generalize (c.toNat : Int) = cc
  by_cases h1 : cc = 99 ∨ cc = 100 ∨ cc = 115 ∨ cc = 120 ∨ cc = 114 ∨ cc = 104 ∨ cc = 108 ∨ cc = 61
  · simp only [if_pos h1]
  · simp only [if_neg h1]
    by_cases h2 : cc = 105 ∨ cc = 116 ∨ cc = 107 ∨ cc = 106 ∨ cc = 103
    · simp only [if_pos h2]
    · simp only [if_neg h2]
      by_cases h3 : cc = 112
      · simp only [if_pos h3]
        by_cases h4 : k + 1 < code.length
        · simp only [if_pos h4, if_neg (show ¬ code.length - k < 2 by omega)]
        · simp only [if_neg h4, if_pos (show code.length - k < 2 by omega)]
          rw [if_pos (Or.inr (by omega)), if_pos (Or.inl trivial)]
      · simp only [if_neg h3]
set_option maxRecDepth 8000 in
set_option maxHeartbeats 2000000 in
theorem rwidth_at (code : List UInt8) (k : Nat) (hk : k < code.length) (hl : code.length ≤ 1000) (W : World) :
    Calls Tryz.prog 75 #[.string (M.bs code), .int .i64 (k : Int)] W fun e w' => e = .returned (.int .i64 (rwd code k : Int)) ∧ w' = W := by
  have hs := M.bs_size code
  obtain ⟨c, hc⟩ : ∃ c, code[k]? = some c := ⟨code[k], List.getElem?_eq_getElem hk⟩
  have hi := idx_at code k c hc
  have HW : Hid (rwd code k = if widR (c.toNat : Int) (k + 1 < code.length) (code.getD (k + 1) 0).toNat = 0 ∨ code.length - k < widR (c.toNat : Int) (k + 1 < code.length) (code.getD (k + 1) 0).toNat then 0 else widR (c.toNat : Int) (k + 1 < code.length) (code.getD (k + 1) 0).toNat) := rwd_is code k c hc
  have hx8 := (code.getD (k + 1) 0).toNat_lt
  have hi1 : (k : Int) + 1 < (code.length : Int) → ∀ W, (Instr.index 9 (.string (M.bs code)) (.int .i64 ((k : Int) + 1))).run Tryz.prog W = .ok (.int .u8 ((code.getD (k + 1) 0).toNat : Int)) W := fun h W => by
    have h2 : code[k + 1]? = some (code.getD (k + 1) 0) := by rw [List.getD_eq_getElem?_getD, List.getElem?_eq_getElem (by omega)]; rfl
    have := idx_at code (k + 1) _ h2 W
    rwa [show ((k + 1 : Nat) : Int) = (k : Int) + 1 by omega] at this
  generalize (code.getD (k + 1) 0).toNat = x at *
  generalize (c.toNat : Int) = cc at *
  generalize rwd code k = r at *
  clear hc
  go_enter Tryz.func75, Tryz.ntmps75
  go_wp2_with fail
  all_goals go_ret
  all_goals refine ⟨?_, rfl⟩
  all_goals (rw [HW.out]; clear HW; unfold widR)
  all_goals (refine congrArg Ending.returned (congrArg (Value.int IntKind.i64) ?_); simp only [beq_iff_eq, beq_eq_false_iff_ne, ne_eq] at *; repeat' split)
  all_goals first | rfl | omega
end Go.Proofs.YtlblbdfpcaplkaaGreatDoor
