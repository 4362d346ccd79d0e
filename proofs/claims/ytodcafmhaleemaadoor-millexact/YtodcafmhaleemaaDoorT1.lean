/- Leaves of mill: number, width, stepAt, wide, joined, compared. -/
import Derived.Test.YtodcafmhaleemaaDoorQMath
import Derived.Test.YtodcafmhaleemaaDoorS15
namespace Go.Proofs.YtodcafmhaleemaaDoor
open Go.RowKit
set_option linter.unusedVariables false

theorem idx_at (s : List UInt8) (k : Nat) (x : UInt8) (h : s[k]? = some x) (W : World) : (Instr.index 9 (.string (M.bs s)) (.int .i64 (k : Int))).run Tryd.prog W = .ok (.int .u8 (x.toNat : Int)) W := by
  have hk : k < s.length := (List.getElem?_eq_some_iff.1 h).1
  have hs := M.bs_size s
  simp [Instr.index, run_underlying Tryd.underlying9, asIntOf, go_sem, hk, hs]
  have : (M.bs s)[k]'(by rw [hs]; exact hk) = x := by
    have h2 := getB (M.bs s) k (by rw [hs]; exact hk)
    rw [M.bs_toList, h] at h2
    exact (Option.some.inj h2).symm
  rw [this]
theorem idx_0 (s : List UInt8) (x : UInt8) (h : s[0]? = some x) (W : World) : (Instr.index 9 (.string (M.bs s)) (.int .i64 0)).run Tryd.prog W = .ok (.int .u8 (x.toNat : Int)) W := idx_at s 0 x h W
theorem idx_1 (s : List UInt8) (x : UInt8) (h : s[1]? = some x) (W : World) : (Instr.index 9 (.string (M.bs s)) (.int .i64 1)).run Tryd.prog W = .ok (.int .u8 (x.toNat : Int)) W := idx_at s 1 x h W

theorem number_at (s : List UInt8) (x : UInt8) (h : s[1]? = some x) (W : World) : Calls Tryd.prog 37 #[.string (M.bs s)] W fun e w' => e = .returned (.int .i64 (x.toNat : Int)) ∧ w' = W := by
  have hi := idx_1 s x h
  have hx := x.toNat_lt
  go_enter Tryd.func37, Tryd.ntmps37
  go_wp2_with fail
  go_ret
  exact ⟨rfl, rfl⟩
theorem wide_is (t : List UInt8) (h : t.length ≤ 9223372036854775807) (W : World) : Calls Tryd.prog 17 #[.string (M.bs t)] W fun e w' => e = .returned (.bool (decide (512 < t.length))) ∧ w' = W := by
  have hs := M.bs_size t
  have hq : decide ((512 : Int) < (t.length : Int)) = decide (512 < t.length) := by congr 1; simp; omega
  obtain ⟨q, hq2⟩ : ∃ q, decide (512 < t.length) = q := ⟨_, rfl⟩
  rw [hq2] at hq ⊢
  clear hq2
  go_enter Tryd.func17, Tryd.ntmps17
  go_wp2_with fail
  go_ret
  exact ⟨rfl, rfl⟩
theorem u8_is (c d : UInt8) : ((c.toNat : Int) = (d.toNat : Int)) = (c = d) := by
  apply propext
  constructor
  · intro h; exact UInt8.toNat_inj.1 (by omega)
  · rintro rfl; rfl
/-- width, by the byte's number -/
def wid (c : Int) (n : Nat) (k : Nat) : Nat :=
  if c = 99 ∨ c = 100 ∨ c = 115 ∨ c = 120 ∨ c = 114 ∨ c = 104 ∨ c = 108 ∨ c = 61 then 1 else if c = 105 ∨ c = 116 ∨ c = 107 ∨ c = 106 ∨ c = 103 then 2 else if c = 112 then (if n < 2 then 2 else 2 + k) else 0
theorem wid_is (s : List UInt8) (c : UInt8) (h0 : s[0]? = some c) : Q.width s = wid (c.toNat : Int) s.length (s.getD 1 0).toNat := by
  have hg : s.getD 0 0 = c := by rw [List.getD_eq_getElem?_getD, h0]; rfl
  have key : ∀ d : UInt8, ((c.toNat : Int) = (d.toNat : Int)) = (c = d) := u8_is c
  have e0 : ((c.toNat : Int) = 99) = (c = 99) := key 99
  have e1 : ((c.toNat : Int) = 100) = (c = 100) := key 100
  have e2 : ((c.toNat : Int) = 115) = (c = 115) := key 115
  have e3 : ((c.toNat : Int) = 120) = (c = 120) := key 120
  have e4 : ((c.toNat : Int) = 114) = (c = 114) := key 114
  have e5 : ((c.toNat : Int) = 104) = (c = 104) := key 104
  have e6 : ((c.toNat : Int) = 108) = (c = 108) := key 108
  have e7 : ((c.toNat : Int) = 61) = (c = 61) := key 61
  have e8 : ((c.toNat : Int) = 105) = (c = 105) := key 105
  have e9 : ((c.toNat : Int) = 116) = (c = 116) := key 116
  have e10 : ((c.toNat : Int) = 107) = (c = 107) := key 107
  have e11 : ((c.toNat : Int) = 106) = (c = 106) := key 106
  have e12 : ((c.toNat : Int) = 103) = (c = 103) := key 103
  have e13 : ((c.toNat : Int) = 112) = (c = 112) := key 112
  unfold Q.width wid Q.one Q.two
  rw [hg]
  simp only [Bool.or_eq_true, beq_iff_eq, e0, e1, e2, e3, e4, e5, e6, e7, e8, e9, e10, e11, e12, e13, or_assoc]
set_option maxRecDepth 8000 in
set_option maxHeartbeats 1000000 in
theorem width_at (s : List UInt8) (c : UInt8) (h0 : s[0]? = some c) (hl : s.length ≤ 9223372036854775807) (W : World) : Calls Tryd.prog 32 #[.string (M.bs s)] W fun e w' => e = .returned (.int .i64 (Q.width s : Int)) ∧ w' = W := by
  have hi := idx_0 s c h0
  have hs := M.bs_size s
  have HW : Hid (Q.width s = wid (c.toNat : Int) s.length (s.getD 1 0).toNat) := wid_is s c h0
  have CN : Hid (2 ≤ s.length → ∀ W, Calls Tryd.prog 37 #[.string (M.bs s)] W fun e w' => e = .returned (.int .i64 ((s.getD 1 0).toNat : Int)) ∧ w' = W) := fun h2 W => by
    have h1 : s[1]? = some (s.getD 1 0) := by rw [List.getD_eq_getElem?_getD, List.getElem?_eq_getElem (by omega)]; rfl
    exact number_at s _ h1 W
  have hb := (s.getD 1 0).toNat_lt
  generalize (s.getD 1 0).toNat = k at *
  generalize Q.width s = wd at *
  generalize (c.toNat : Int) = cc at *
  clear h0
  go_enter Tryd.func32, Tryd.ntmps32
  go_wp2_with (go_at_call 37; refine (CN.out (by omega) _).mono ?_; rintro e w' ⟨rfl, rfl⟩)
  all_goals go_ret
  all_goals refine ⟨?_, rfl⟩
  all_goals (rw [HW.out]; clear HW CN; unfold wid)
  all_goals (refine congrArg Ending.returned (congrArg (Value.int IntKind.i64) ?_); simp only [beq_iff_eq, beq_eq_false_iff_ne, ne_eq] at *; repeat' split)
  all_goals first | rfl | omega

/-- what stepAt answers -/
def saV : Option (List UInt8) → Value
  | none => .tuple #[.string ⟨#[]⟩, .bool false]
  | some s => .tuple #[.string (M.bs s), .bool true]
theorem cut_bs (s : List UInt8) (a b : Nat) : (M.bs s).extract a b = M.bs ((s.drop a).take (b - a)) := by
  rw [Lib.extract_eq]
  simp [M.bs]
set_option maxRecDepth 8000 in
set_option maxHeartbeats 1000000 in
theorem stepAt_at (code : List UInt8) (k : Nat) (hl : code.length ≤ 1000) (hk : k ≤ 1000000) (W : World) :
    Calls Tryd.prog 21 #[.string (M.bs code), .int .i64 (k : Int)] W fun e w' => e = .returned (saV (Q.stepAt code k)) ∧ w' = W := by
  have hs := M.bs_size code
  by_cases h1 : code.length ≤ k
  · have e : Q.stepAt code k = none := by unfold Q.stepAt Q.first; rw [if_pos (List.drop_of_length_le h1)]
    rw [e]
    clear e
    unfold saV
    go_enter Tryd.func21, Tryd.ntmps21
    go_wp2_with fail
    go_ret2
    exact ⟨rfl, rfl⟩
  · have hd : (code.drop k).length = code.length - k := by simp
    have hne : code.drop k ≠ [] := fun e => by rw [e] at hd; simp at hd; omega
    obtain ⟨c, hc⟩ : ∃ c, (code.drop k)[0]? = some c := ⟨(code.drop k)[0]'(by omega), List.getElem?_eq_getElem (by omega)⟩
    have hx : (M.bs code).extract k code.length = M.bs (code.drop k) := by rw [← hs]; exact drop_bs code k
    have CW : Hid (∀ W, Calls Tryd.prog 32 #[.string (M.bs (code.drop k))] W fun e w' => e = .returned (.int .i64 (Q.width (code.drop k) : Int)) ∧ w' = W) := fun W => width_at _ c hc (by omega) W
    have hwl : Q.width (code.drop k) ≤ 300 := by
      unfold Q.width
      have := ((code.drop k).getD 1 0).toNat_lt
      repeat' split
      all_goals omega
    have HQ : Hid (Q.stepAt code k = if Q.width (code.drop k) = 0 ∨ (code.drop k).length < Q.width (code.drop k) then none else some ((code.drop k).take (Q.width (code.drop k)))) := by
      show _ = _
      unfold Q.stepAt Q.first; rw [if_neg hne]
    have hy : ∀ z : Nat, (M.bs code).extract k (k + z) = M.bs ((code.drop k).take z) := fun z => by rw [cut_bs]; congr 3; omega
    generalize Q.width (code.drop k) = z at *
    have HY : Hid ((M.bs code).extract k (k + z) = M.bs ((code.drop k).take z)) := hy z
    clear hc hne hy
    generalize code.drop k = d at *
    by_cases h2 : z = 0
    · subst h2
      rw [HQ.out, if_pos (Or.inl rfl)]
      clear HQ
      unfold saV
      go_enter Tryd.func21, Tryd.ntmps21
      go_wp2_with (go_at_call 32; refine (CW.out _).mono ?_; rintro e w' ⟨rfl, rfl⟩)
      go_ret2
      exact ⟨rfl, rfl⟩
    · have q0 : ((z : Int) == 0) = false := by simp; omega
      by_cases h3 : d.length < z
      · rw [HQ.out, if_pos (Or.inr h3)]
        clear HQ
        unfold saV
        go_enter Tryd.func21, Tryd.ntmps21
        go_wp2_with (go_at_call 32; refine (CW.out _).mono ?_; rintro e w' ⟨rfl, rfl⟩)
        go_ret2
        exact ⟨rfl, rfl⟩
      · rw [HQ.out, if_neg (by omega)]
        clear HQ
        unfold saV
        go_enter Tryd.func21, Tryd.ntmps21
        go_wp2_with (go_at_call 32; refine (CW.out _).mono ?_; rintro e w' ⟨rfl, rfl⟩)
        go_ret2
        exact ⟨by rw [← HY.out]; rfl, rfl⟩
end Go.Proofs.YtodcafmhaleemaaDoor
