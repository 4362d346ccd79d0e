/- The reference's width and Steps. -/
import Derived.Test.YtodcafmhaleemaaDoorT14
namespace Go.Proofs.YtodcafmhaleemaaDoor
open Go.RowKit
set_option linter.unusedVariables false

/-- how many bytes the step at a place has; 0: it is none -/
def rwd (code : List UInt8) (k : Nat) : Nat := match Q.stepAt code k with
  | none => 0
  | some s => s.length
def widR (c : Int) (nx : Prop) [Decidable nx] (x : Nat) : Nat :=
  if c = 99 ∨ c = 100 ∨ c = 115 ∨ c = 120 ∨ c = 114 ∨ c = 104 ∨ c = 108 ∨ c = 61 then 1 else if c = 105 ∨ c = 116 ∨ c = 107 ∨ c = 106 ∨ c = 103 then 2 else if c = 112 then (if nx then 2 + x else 0) else 0
theorem rwd_is (code : List UInt8) (k : Nat) (c : UInt8) (hc : code[k]? = some c) : rwd code k = if widR (c.toNat : Int) (k + 1 < code.length) (code.getD (k + 1) 0).toNat = 0 ∨ code.length - k < widR (c.toNat : Int) (k + 1 < code.length) (code.getD (k + 1) 0).toNat then 0 else widR (c.toNat : Int) (k + 1 < code.length) (code.getD (k + 1) 0).toNat := by
  have hk : k < code.length := (List.getElem?_eq_some_iff.1 hc).1
  have hd0 : (code.drop k)[0]? = some c := by rw [List.getElem?_drop]; exact hc
  have hdl : (code.drop k).length = code.length - k := List.length_drop
  have hd1 : (code.drop k).getD 1 0 = code.getD (k + 1) 0 := by simp only [List.getD_eq_getElem?_getD, List.getElem?_drop]
  have hne : code.drop k ≠ [] := fun e => by rw [e] at hd0; simp at hd0
  have hw := wid_is (code.drop k) c hd0
  rw [hdl, hd1] at hw
  have e : rwd code k = if Q.width (code.drop k) = 0 ∨ code.length - k < Q.width (code.drop k) then 0 else Q.width (code.drop k) := by
    unfold rwd Q.stepAt Q.first
    rw [if_neg hne, hdl]
    by_cases h : Q.width (code.drop k) = 0 ∨ code.length - k < Q.width (code.drop k)
    · rw [if_pos h, if_pos h]
    · rw [if_neg h, if_neg h]
      have h2 : ¬ code.length - k < Q.width (code.drop k) := fun x => h (Or.inr x)
      simp only [List.length_take, hdl]; omega
  rw [e, hw]
  unfold wid widR
  generalize (code.getD (k + 1) 0).toNat = x
  generalize (c.toNat : Int) = cc
  by_cases h1 : cc = 99 ∨ cc = 100 ∨ cc = 115 ∨ cc = 120 ∨ cc = 114 ∨ cc = 104 ∨ cc = 108 ∨ cc = 61
  · simp only [if_pos h1]
  · simp only [if_neg h1]
    by_cases h2 : cc = 105 ∨ cc = 116 ∨ cc = 107 ∨ cc = 106 ∨ cc = 103
    · simp only [if_pos h2]
    · simp only [if_neg h2]
      by_cases h3 : cc = 112
      · simp only [if_pos h3]
        by_cases h4 : k + 1 < code.length
        · simp only [if_pos h4, if_neg (show ¬ code.length - k < 2 by omega)]
        · simp only [if_neg h4, if_pos (show code.length - k < 2 by omega)]
          rw [if_pos (Or.inr (by omega)), if_pos (Or.inl trivial)]
      · simp only [if_neg h3]
set_option maxRecDepth 8000 in
set_option maxHeartbeats 2000000 in
theorem rwidth_at (code : List UInt8) (k : Nat) (hk : k < code.length) (hl : code.length ≤ 1000) (W : World) :
    Calls Tryd.prog 19 #[.string (M.bs code), .int .i64 (k : Int)] W fun e w' => e = .returned (.int .i64 (rwd code k : Int)) ∧ w' = W := by
  have hs := M.bs_size code
  obtain ⟨c, hc⟩ : ∃ c, code[k]? = some c := ⟨code[k], List.getElem?_eq_getElem hk⟩
  have hi := idx_at code k c hc
  have HW : Hid (rwd code k = if widR (c.toNat : Int) (k + 1 < code.length) (code.getD (k + 1) 0).toNat = 0 ∨ code.length - k < widR (c.toNat : Int) (k + 1 < code.length) (code.getD (k + 1) 0).toNat then 0 else widR (c.toNat : Int) (k + 1 < code.length) (code.getD (k + 1) 0).toNat) := rwd_is code k c hc
  have hx8 := (code.getD (k + 1) 0).toNat_lt
  have hi1 : (k : Int) + 1 < (code.length : Int) → ∀ W, (Instr.index 9 (.string (M.bs code)) (.int .i64 ((k : Int) + 1))).run Tryd.prog W = .ok (.int .u8 ((code.getD (k + 1) 0).toNat : Int)) W := fun h W => by
    have h2 : code[k + 1]? = some (code.getD (k + 1) 0) := by rw [List.getD_eq_getElem?_getD, List.getElem?_eq_getElem (by omega)]; rfl
    have := idx_at code (k + 1) _ h2 W
    rwa [show ((k + 1 : Nat) : Int) = (k : Int) + 1 by omega] at this
  generalize (code.getD (k + 1) 0).toNat = x at *
  generalize (c.toNat : Int) = cc at *
  generalize rwd code k = r at *
  clear hc
  go_enter Tryd.func19, Tryd.ntmps19
  go_wp2_with fail
  all_goals go_ret
  all_goals refine ⟨?_, rfl⟩
  all_goals (rw [HW.out]; clear HW; unfold widR)
  all_goals (refine congrArg Ending.returned (congrArg (Value.int IntKind.i64) ?_); simp only [beq_iff_eq, beq_eq_false_iff_ne, ne_eq] at *; repeat' split)
  all_goals first | rfl | omega
theorem rSteps_long (code : List UInt8) (W : World) (h : 64 < code.length) (hl : code.length ≤ 9223372036854775807) :
    Calls Tryd.prog 13 #[.string (M.bs code)] W fun e w' => e = .returned (.tuple #[.slice none 0 0, .int .i64 4]) ∧ w' = W := by
  have hs := M.bs_size code
  go_enter Tryd.func13, Tryd.ntmps13
  go_wp2_with fail
  go_ret2
  exact ⟨rfl, rfl⟩
set_option maxRecDepth 8000 in
set_option maxHeartbeats 2000000 in
theorem rSteps_at (code : List UInt8) (W : World) (hl : code.length ≤ 64) :
    Calls Tryd.prog 13 #[.string (M.bs code)] W fun e w' => StP code W e w' := by
  have hs := M.bs_size code
  obtain ⟨i0, hi, hz0, hz1, hz2⟩ := info_partsM (show (Tryd.prog.info? 9).map (fun i => (i.zero, i.size, i.bytes)) = some (some (.string ByteArray.empty), 1, 16) by kernel_rfl)
  have HOW0 : Hid ((W.alloc (.cells #[] 9)).ownsRow W.heap.size 9 1 (.slice (some ⟨W.heap.size, 0, none⟩) 0 0) ([] : List (List UInt8)).length (([] : List (List UInt8)).map encS)) := World.ownsRow_made W #[] 0 (Nat.le_refl _) (Nat.zero_le _) rfl
  have HB0 : Hid (Below W.heap.size W (W.alloc (.cells #[] 9))) := (Below.refl _ W).alloc (Nat.le_refl _) _
  have HP0 : Hid (Q.parse code = (Q.parse (code.drop 0)).map (fun l => [] ++ l)) := by
    show _ = _
    rw [List.drop_zero]
    cases Q.parse code <;> rfl
  have HI : Hid (Tryd.prog.info? 9 = some i0) := hi
  clear hi
  go_enter Tryd.func13, Tryd.ntmps13
  go_wp2_with fail
  go_loopw [4, 5, 6] (fun u4 u5 u6 wr => ∃ (k : Nat) (acc : List (List UInt8)), k ≤ code.length ∧ acc.length ≤ k ∧ u5 = .int .i64 (k : Int) ∧ wr.ownsRow W.heap.size 9 1 u4 acc.length (acc.map encS) ∧ Below W.heap.size W wr ∧ Q.parse code = (Q.parse (code.drop k)).map (fun l => acc ++ l)) (fun _ u5 _ _ => code.length - (intOf u5).toNat)
  case atStart => exact ⟨0, [], by omega, by simp, rfl, HOW0.out, HB0.out, HP0.out⟩
  case round =>
    obtain ⟨k, acc, hk, hak, rfl, hown, hbe, hpar⟩ := hrel
    clear HOW0 HP0 HB0
    by_cases hlt : k < code.length
    · have hne : code.drop k ≠ [] := fun e => by have := congrArg List.length e; rw [List.length_drop] at this; simp at this; omega
      have hq : (k : Int) < (code.length : Int) := by omega
      have CS : Hid (∀ W, Calls Tryd.prog 19 #[.string (M.bs code), .int .i64 (k : Int)] W fun e w' => e = .returned (.int .i64 (rwd code k : Int)) ∧ w' = W) := fun W => rwidth_at code k hlt (by omega) W
      have hex : ∀ z : Nat, (M.bs code).extract k (k + z) = M.bs ((code.drop k).take z) := fun z => by rw [cut_bs]; congr 3; omega
      rw [Q.parse_cons hne] at hpar
      have HBE : Hid (Below W.heap.size W wr) := hbe
      have hszw := hbe.size
      unfold rwd Q.stepAt at CS
      cases hst : Q.first (code.drop k) with
      | none =>
        rw [hst] at CS hpar
        simp only at CS
        have HN : Hid (Q.parse code = none) := hpar
        clear hpar hst hne hown hbe hex
        go_wp2_with (go_at_call 19; refine (CS.out _).mono ?_; rintro e w' ⟨rfl, rfl⟩)
        go_ret2
        exact StP.none HN.out HBE.out
      | some s =>
        have hsl := (Q.first_some hst).2.1
        have hs0 := Q.first_len hst
        rw [List.length_drop] at hsl
        rw [hst] at CS hpar
        simp only at CS
        have hexs : (M.bs code).extract k (k + s.length) = M.bs s := by rw [hex s.length]; congr 1; exact (Q.first_some hst).2.2.symm
        have q0 : ((s.length : Int) == 0) = false := beq_eq_false_iff_ne.2 (by omega)
        simp only [List.drop_drop] at hpar
        have HPN : Hid (Q.parse code = (Q.parse (code.drop (k + s.length))).map (fun l => (acc ++ [s]) ++ l)) := by
          show _ = _
          rw [hpar]
          cases Q.parse (code.drop (k + s.length)) <;> simp
        have hbs := M.bs_size s
        have HOW2 : Hid ((wr.alloc (.cells #[.string (M.bs s)] 9)).ownsRow W.heap.size 9 1 u4 acc.length (acc.map encS)) := World.ownsRow.alloc (w := wr) hown _
        have HBE2 : Hid (Below W.heap.size W (wr.alloc (.cells #[.string (M.bs s)] 9))) := HBE.out.alloc hszw _
        have HLT : Hid (∀ q, u4.ownBlock = some q → W.heap.size ≤ q) := fun q hq => (hown.lt q hq).1
        clear hpar hst hne hown hbe HBE hex
        go_wp2_with (first
          | (go_at_call 19; refine (CS.out _).mono ?_; clear CS; rintro e w' ⟨rfl, rfl⟩)
          | (at_builtin; refine wpList_append_own _ rfl _ _ 22 rfl W.heap.size 9 i0 (.string ByteArray.empty) 1 16 Tryd.underlying22 HI.out hz0 hz1 hz2 rfl (by decide) _ _ _ rfl HOW2.out ⟨_, 0, none⟩ 1 1 [.string (M.bs s)] rfl rfl (cell_one_new _ _ _) (fun x hx => by simp at hx; subst hx; rfl) (by unfold maxLen; omega) (by omega) (by simp; omega) ?_; intro v' w5 hown5 hg5 _
             have HB5 : Hid (Below W.heap.size W w5) := HBE2.out.grown hg5 (by simp; omega) (fun q hq => HLT.out q hq)
             have HO5 : Hid (w5.ownsRow W.heap.size 9 1 v' (acc ++ [s]).length ((acc ++ [s]).map encS)) := by
               show World.ownsRow _ _ _ _ _ _ _
               rw [List.map_append, List.length_append]; exact hown5
             clear hown5 hg5 HBE2 HOW2 HLT))
        go_roundw
        case rel => exact ⟨k + s.length, acc ++ [s], by omega, by simp; omega, by go_num, HO5.out, HB5.out, HPN.out⟩
        case measure => simp [intOf]; omega
    · obtain rfl : k = code.length := by omega
      rw [List.drop_of_length_le (Nat.le_refl _), Q.parse_nil] at hpar
      have HN : Hid (Q.parse code = some acc) := by
        show _ = _
        rw [hpar]; simp
      have HST : Hid (Strs wr.heap.size wr u4 acc) := strs_of_owns hown
      obtain ⟨a, c, rfl⟩ : ∃ a c, u4 = .slice a acc.length c := HST.out.shape
      have HCP : Hid (acc.length ≤ c) := owns_capM hown
      have HBE : Hid (Below W.heap.size W wr) := hbe
      clear hown hpar hbe
      go_wp2_with fail
      go_ret2
      exact StP.some HN.out HST.out HCP.out HBE.out
end Go.Proofs.YtodcafmhaleemaaDoor
