/- What apiaryref01.ReadNum, ReadText and ReadRow answer: the same. -/
import Derived.Test.YtahdmhenkjbimaaDoorGA
namespace Go.Proofs.YtahdmhenkjbimaaDoor
open Go.RowKit
set_option linter.unusedVariables false

set_option maxHeartbeats 400000 in
theorem fn_A (s : ByteArray) (w : World) (he : s.toList.isEmpty = true) :
    Calls Tryd.prog 31 #[.string s] w fun e w' => e = .returned (rnV none) ∧ ∃ n, w' = w.drewN n := by
  go_enter Tryd.func31, Tryd.ntmps31
  go_wp2
  go_ret3
  exact ⟨rfl, 0, rfl⟩

set_option maxHeartbeats 400000 in
theorem fn_B (s : ByteArray) (w : World) (hs : s.size ≤ maxLen) (k : Nat) (h0 : 0 < s.size) (he : s.toList.isEmpty = false) (hk : (s[0].toNat : Int) % 128 = (k : Int)) (h8 : 8 < (k : Int)) :
    Calls Tryd.prog 31 #[.string s] w fun e w' => e = .returned (rnV none) ∧ ∃ n, w' = w.drewN n := by
  unfold maxLen at hs
  go_enter Tryd.func31, Tryd.ntmps31
  go_wp2_with fail
  go_ret3
  exact ⟨rfl, 0, rfl⟩

set_option maxHeartbeats 400000 in
theorem fn_C (s : ByteArray) (w : World) (hs : s.size ≤ maxLen) (k : Nat) (h0 : 0 < s.size) (he : s.toList.isEmpty = false) (hk : (s[0].toNat : Int) % 128 = (k : Int)) (h8 : (k : Int) ≤ 8) (hsz : (s.size : Int) < 1 + (k : Int)) :
    Calls Tryd.prog 31 #[.string s] w fun e w' => e = .returned (rnV none) ∧ ∃ n, w' = w.drewN n := by
  unfold maxLen at hs
  go_enter Tryd.func31, Tryd.ntmps31
  go_wp2_with fail
  go_ret3
  exact ⟨rfl, 0, rfl⟩

set_option maxHeartbeats 400000 in
theorem fn_D (s : ByteArray) (w : World) (hs : s.size ≤ maxLen) (k : Nat) (h0 : 0 < s.size) (he : s.toList.isEmpty = false) (hk : (s[0].toNat : Int) % 128 = (k : Int)) (h8 : (k : Int) ≤ 8) (hsz : 1 + (k : Int) ≤ (s.size : Int)) (h1 : (0 : Int) < k) (h1' : 1 < s.size) (hz : ((s[1].toNat : Int) == 0) = true) :
    Calls Tryd.prog 31 #[.string s] w fun e w' => e = .returned (rnV none) ∧ ∃ n, w' = w.drewN n := by
  unfold maxLen at hs
  go_enter Tryd.func31, Tryd.ntmps31
  go_wp2_with fail
  go_ret3
  exact ⟨rfl, 0, rfl⟩

set_option maxHeartbeats 400000 in
theorem fn_over (s : ByteArray) (w : World) (hs : s.size ≤ maxLen) (k : Nat) (h0 : 0 < s.size) (he : s.toList.isEmpty = false) (hk : (s[0].toNat : Int) % 128 = (k : Int)) (h8 : ((k : Int) == 8) = true) (h8' : (k : Int) ≤ 8) (hsz : 1 + (k : Int) ≤ (s.size : Int)) (h1 : (0 : Int) < k) (h1' : 1 < s.size) (hz : ((s[1].toNat : Int) == 0) = false) (hb : 128 ≤ (s[1].toNat : Int)) :
    Calls Tryd.prog 31 #[.string s] w fun e w' => e = .returned (rnV none) ∧ ∃ n, w' = w.drewN n := by
  unfold maxLen at hs
  go_enter Tryd.func31, Tryd.ntmps31
  go_wp2_with fail
  go_ret3
  exact ⟨rfl, 0, rfl⟩

theorem vOf_one (s : ByteArray) (j : Nat) (h1 : 1 < s.size) (hj : 0 < j) : s[1].toNat * 256 ^ (((s.data.toList.drop 1).take j).length - 1) ≤ vOf s j ∧ vOf s j < (s[1].toNat + 1) * 256 ^ (((s.data.toList.drop 1).take j).length - 1) := by
  have hg := getB s 1 h1
  have e : (s.data.toList.drop 1).take j = s[1] :: ((s.data.toList.drop 2).take (j - 1)) := by
    obtain ⟨j, rfl⟩ : ∃ j', j = j' + 1 := ⟨j - 1, by omega⟩
    cases hd : s.data.toList with
    | nil => rw [hd] at hg; simp at hg
    | cons c r =>
      rw [hd] at hg
      cases r with
      | nil => simp at hg
      | cons d u =>
        simp only [List.getElem?_cons_succ, List.getElem?_cons_zero, Option.some.injEq] at hg
        simp [hg]
  unfold vOf
  rw [e, M.val_cons]
  have hv := M.val_lt ((s.data.toList.drop 2).take (j - 1))
  simp only [List.length_cons, Nat.add_sub_cancel]
  constructor
  · omega
  · rw [Nat.add_mul]; omega

theorem vOf_fits (s : ByteArray) (k : Nat) (h8 : k ≤ 8) (hb : k ≤ 7 ∨ ∃ h1 : 1 < s.size, s[1].toNat < 128) (j : Nat) (hj : j ≤ k) : vOf s j < 9223372036854775808 := by
  by_cases h7 : j ≤ 7
  · have := vOf_lt s j h7; omega
  · obtain ⟨h1, hb⟩ : ∃ h1 : 1 < s.size, s[1].toNat < 128 := by
      rcases hb with hb | hb
      · omega
      · exact hb
    have h := (vOf_one s j h1 (by omega)).2
    have hl : ((s.data.toList.drop 1).take j).length - 1 ≤ 7 := by have := List.length_take_le j (s.data.toList.drop 1); omega
    have hp : 256 ^ (((s.data.toList.drop 1).take j).length - 1) ≤ 256 ^ 7 := Nat.pow_le_pow_right (by omega) hl
    have h2 : (s[1].toNat + 1) * 256 ^ (((s.data.toList.drop 1).take j).length - 1) ≤ 128 * 256 ^ 7 := Nat.mul_le_mul (by omega) hp
    omega
theorem vOf_over (s : ByteArray) (hsz : 9 ≤ s.size) (h1 : 1 < s.size) (hb : 128 ≤ s[1].toNat) : 9223372036854775808 ≤ vOf s 8 := by
  have h := (vOf_one s 8 h1 (by omega)).1
  have hl : ((s.data.toList.drop 1).take 8).length - 1 = 7 := by
    rw [List.length_take, List.length_drop, ← Lib.size_eq]; omega
  rw [hl] at h
  have h2 : 128 * 256 ^ 7 ≤ s[1].toNat * 256 ^ 7 := Nat.mul_le_mul_right _ hb
  omega

theorem mulAdd (v : Nat) (c : UInt8) (h : 256 * (v : Int) + (c.toNat : Int) ≤ 9223372036854775807) : wrap64 (256 * (v : Int) + wrap64 (c.toNat : Int)) = ((v * 256 + c.toNat : Nat) : Int) := by
  have hc := c.toNat_lt
  unfold wrap64
  omega

set_option maxHeartbeats 2000000 in
theorem fn_yes (s : ByteArray) (w : World) (hs : s.size ≤ maxLen) (k : Nat) (b : Bool) (h0 : 0 < s.size) (he : s.toList.isEmpty = false) (hk : (s[0].toNat : Int) % 128 = (k : Int))
    (h8 : (k : Int) ≤ 8) (hsz : 1 + (k : Int) ≤ (s.size : Int)) (hz : (k : Int) ≤ 0 ∨ ((0 : Int) < k ∧ ((k : Int) == 8) = false ∧ ∃ h1' : 1 < s.size, ((s[1].toNat : Int) == 0) = false))
    (hv : ∀ j, j ≤ k → (vOf s j : Int) ≤ 9223372036854775807) (hb : decide ((128 : Int) ≤ (s[0].toNat : Int)) = b) :
    Calls Tryd.prog 31 #[.string s] w fun e w' => e = .returned (.tuple #[.int .i64 (bif b then -1 - (vOf s k : Int) else (vOf s k : Int)), .string (s.extract (1 + k) s.size), .bool true]) ∧ ∃ n, w' = w.drewN n := by
  unfold maxLen at hs
  have HV : Hid (∀ j, j ≤ k → (vOf s j : Int) ≤ 9223372036854775807) := hv
  clear hv
  have hvk := HV.out k (Nat.le_refl _)
  rcases hz with hz | ⟨hz, h88, h1', hz'⟩
  all_goals
    cases b
    all_goals
      go_enter Tryd.func31, Tryd.ntmps31
      go_wp2_with fail
      go_loop [6, 7] (fun t i => ∃ j : Nat, j ≤ k ∧ i = .int .i64 (j + 1) ∧ t = .int .i64 (vOf s j)) (fun _ i => k + 1 - (intOf i).toNat)
      case atStart => exact ⟨0, Nat.zero_le _, rfl, rfl⟩
      case round =>
        obtain ⟨j, hj, rfl, rfl⟩ := hrel
        by_cases hlt : j < k
        · first
          | (exfalso; omega)
          | (have hv8 := HV.out (j + 1) (by omega)
             have hvs := vOf_succ s j (by omega)
             have hbd : 256 * (vOf s j : Int) + ((s[j + 1]'(by omega)).toNat : Int) ≤ 9223372036854775807 := by rw [hvs] at hv8; omega
             have HS : Hid (vOf s (j + 1) = vOf s j * 256 + (s[j + 1]'(by omega)).toNat) := hvs
             have HBD : Hid (256 * (vOf s j : Int) + ((s[j + 1]'(by omega)).toNat : Int) ≤ 9223372036854775807) := hbd
             have hvj : (vOf s j : Int) ≤ 36028797018963967 := by omega
             clear hv8 hvs hbd
             go_wp2_with fail
             exact ⟨⟨j + 1, by omega, by go_num, by rw [HS.out]; exact congrArg (Value.int IntKind.i64) (mulAdd _ _ HBD.out)⟩, by simp [intOf]; omega⟩)
        · obtain rfl : j = k := by omega
          go_wp2_with fail
          go_quiet (fail)
          go_wp2_with fail
          go_ret3
          exact ⟨rfl, nq, rfl⟩

set_option maxHeartbeats 2000000 in
theorem fn_yes8 (s : ByteArray) (w : World) (hs : s.size ≤ maxLen) (b : Bool) (h0 : 0 < s.size) (he : s.toList.isEmpty = false) (hk : (s[0].toNat : Int) % 128 = 8)
    (hsz : (9 : Int) ≤ (s.size : Int)) (h1' : 1 < s.size) (hz' : ((s[1].toNat : Int) == 0) = false) (hz'' : decide ((128 : Int) ≤ (s[1].toNat : Int)) = false)
    (hv : ∀ j, j ≤ 8 → (vOf s j : Int) ≤ 9223372036854775807) (hb : decide ((128 : Int) ≤ (s[0].toNat : Int)) = b) :
    Calls Tryd.prog 31 #[.string s] w fun e w' => e = .returned (.tuple #[.int .i64 (bif b then -1 - (vOf s 8 : Int) else (vOf s 8 : Int)), .string (s.extract 9 s.size), .bool true]) ∧ ∃ n, w' = w.drewN n := by
  unfold maxLen at hs
  have HV : Hid (∀ j, j ≤ 8 → (vOf s j : Int) ≤ 9223372036854775807) := hv
  clear hv
  have hvk := HV.out 8 (Nat.le_refl _)
  cases b
  all_goals
      go_enter Tryd.func31, Tryd.ntmps31
      go_wp2_with fail
      go_loop [6, 7] (fun t i => ∃ j : Nat, j ≤ 8 ∧ i = .int .i64 (j + 1) ∧ t = .int .i64 (vOf s j)) (fun _ i => 9 - (intOf i).toNat)
      case atStart => exact ⟨0, Nat.zero_le _, rfl, rfl⟩
      case round =>
        obtain ⟨j, hj, rfl, rfl⟩ := hrel
        by_cases hlt : j < 8
        · first
          | (exfalso; omega)
          | (have hv8 := HV.out (j + 1) (by omega)
             have hvs := vOf_succ s j (by omega)
             have hbd : 256 * (vOf s j : Int) + ((s[j + 1]'(by omega)).toNat : Int) ≤ 9223372036854775807 := by rw [hvs] at hv8; omega
             have HS : Hid (vOf s (j + 1) = vOf s j * 256 + (s[j + 1]'(by omega)).toNat) := hvs
             have HBD : Hid (256 * (vOf s j : Int) + ((s[j + 1]'(by omega)).toNat : Int) ≤ 9223372036854775807) := hbd
             have hvj : (vOf s j : Int) ≤ 36028797018963967 := by omega
             clear hv8 hvs hbd
             go_wp2_with fail
             exact ⟨⟨j + 1, by omega, by go_num, by rw [HS.out]; exact congrArg (Value.int IntKind.i64) (mulAdd _ _ HBD.out)⟩, by simp [intOf]; omega⟩)
        · obtain rfl : j = 8 := by omega
          go_wp2_with fail
          go_quiet (fail)
          go_wp2_with fail
          go_ret3
          exact ⟨rfl, nq, rfl⟩

theorem refReadNum_any (s : ByteArray) (w : World) (hs : s.size ≤ maxLen) :
    Calls Tryd.prog 31 #[.string s] w fun e w' => e = .returned (rnV (M.readNum s.data.toList)) ∧ ∃ n, w' = w.drewN n := by
  by_cases h0 : 0 < s.size
  · have he : s.toList.isEmpty = false := by
      rw [Lib.toList_data, List.isEmpty_eq_false_iff]; intro e; have := Lib.size_eq s; rw [e] at this; simp only [List.length_nil] at this; omega
    have hk : ((s[0]'h0).toNat : Int) % 128 = (((s[0]'h0).toNat % 128 : Nat) : Int) := by omega
    rw [readNum_cases s h0]
    generalize hkk : (s[0]'h0).toNat % 128 = k at *
    by_cases h8 : 8 < k
    · rw [if_pos (Or.inl h8)]; exact fn_B s w hs k h0 he hk (by omega)
    by_cases hsz : s.size - 1 < k
    · rw [if_pos (Or.inr hsz)]; exact fn_C s w hs k h0 he hk (by omega) (by omega)
    rw [if_neg (by omega)]
    have hhead : ∀ h1 : 1 < s.size, (s.data.toList.drop 1).headD 1 = s[1] := by
      intro h1
      have hg := getB s 1 h1
      cases hd : s.data.toList with
      | nil => rw [hd] at hg; simp at hg
      | cons c r =>
        rw [hd] at hg
        cases r with
        | nil => simp at hg
        | cons d u => simpa using hg
    by_cases hz : 0 < k ∧ (s.data.toList.drop 1).headD 1 = 0
    · rw [if_pos hz]
      have h1 : 1 < s.size := by omega
      rw [hhead h1] at hz
      exact fn_D s w hs k h0 he hk (by omega) (by omega) (by omega) h1 (by rw [hz.2]; rfl)
    rw [if_neg hz]
    have hz2 : ∀ h1 : 1 < s.size, 0 < k → ((s[1].toNat : Int) == 0) = false := by
      intro h1 hk0
      rw [hhead h1] at hz
      rw [beq_eq_false_iff_ne]
      intro e
      apply hz
      exact ⟨hk0, UInt8.toNat_inj.1 (by simpa using e)⟩
    show Calls _ _ _ _ fun e w' => e = .returned (rnV (if 9223372036854775808 ≤ vOf s k then none else _)) ∧ _
    have hend : ∀ b : Bool, decide ((128 : Int) ≤ ((s[0]'h0).toNat : Int)) = b → (bif b then -1 - (vOf s k : Int) else (vOf s k : Int)) = if 128 ≤ (s[0]'h0).toNat then -1 - (vOf s k : Int) else (vOf s k : Int) := by
      intro b hb
      by_cases h : 128 ≤ (s[0]'h0).toNat
      · have : b = true := by rw [← hb]; exact decide_eq_true (by omega)
        rw [this, if_pos h]; rfl
      · have : b = false := by rw [← hb]; exact decide_eq_false (by omega)
        rw [this, if_neg h]; rfl
    by_cases hk8 : k = 8
    · subst hk8
      have h1 : 1 < s.size := by omega
      by_cases hb : 128 ≤ (s[1]'h1).toNat
      · rw [if_pos (vOf_over s (by omega) h1 hb)]
        exact fn_over s w hs 8 h0 he hk (by decide) (by omega) (by omega) (by omega) h1 (hz2 h1 (by omega)) (by omega)
      · have hf := vOf_fits s 8 (by omega) (Or.inr ⟨h1, by omega⟩)
        rw [if_neg (by have := hf 8 (by omega); omega)]
        refine (fn_yes8 s w hs _ h0 he hk (by omega) h1 (hz2 h1 (by omega)) (decide_eq_false (by omega)) (fun j hj => by have := hf j hj; omega) rfl).mono ?_
        rintro e w' ⟨rfl, hw⟩
        refine ⟨?_, hw⟩
        rw [drop1, hend _ rfl]
        rfl
    · have hf := vOf_fits s k (by omega) (Or.inl (by omega))
      rw [if_neg (by have := hf k (by omega); omega)]
      have hz3 : (k : Int) ≤ 0 ∨ ((0 : Int) < k ∧ ((k : Int) == 8) = false ∧ ∃ h1' : 1 < s.size, ((s[1].toNat : Int) == 0) = false) := by
        by_cases hk0 : k = 0
        · left; omega
        · right; exact ⟨by omega, beq_eq_false_iff_ne.2 (by omega), by omega, hz2 (by omega) (by omega)⟩
      refine (fn_yes s w hs k _ h0 he hk (by omega) (by omega) hz3 (fun j hj => by have := hf j hj; omega) rfl).mono ?_
      rintro e w' ⟨rfl, hw⟩
      refine ⟨?_, hw⟩
      rw [drop1, hend _ rfl]
      rfl
  · have e0 : s.data.toList = [] := List.eq_nil_of_length_eq_zero (by rw [← Lib.size_eq]; omega)
    have he : s.toList.isEmpty = true := by rw [Lib.toList_data, e0]; rfl
    rw [e0]
    exact fn_A s w he

end Go.Proofs.YtahdmhenkjbimaaDoor
