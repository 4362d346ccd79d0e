/- What recipe.IsName answers. -/
import Derived.Test.YthpdmeoljdmncaaRM2
import Derived.Test.YthpdmeoljdmncaaArgs
namespace Go.Proofs.Ythpdmeoljdmncaa
open Go.RowKit
set_option linter.unusedVariables false

theorem le_u8 (a : Nat) (c : UInt8) : decide ((a : Int) ≤ (c.toNat : Int)) = decide (a ≤ c.toNat) := by simp
theorem isNameByte_at (c : UInt8) (w : World) :
    Calls Try.prog 94 #[.int .u8 c.toNat] w fun e w' => e = .returned (.bool (RC.nmB c)) ∧ w' = w := by
  have hc := c.toNat_lt
  by_cases h1 : (97 : Int) ≤ (c.toNat : Int) <;> by_cases h2 : (c.toNat : Int) ≤ 122 <;> by_cases h3 : (48 : Int) ≤ (c.toNat : Int) <;> by_cases h4 : (c.toNat : Int) ≤ 57
  all_goals
    obtain ⟨q, hq⟩ : ∃ q, RC.nmB c = q := ⟨_, rfl⟩
    have hq2 : q = ((decide ((97 : Int) ≤ (c.toNat : Int)) && decide ((c.toNat : Int) ≤ 122)) || (decide ((48 : Int) ≤ (c.toNat : Int)) && decide ((c.toNat : Int) ≤ 57))) := by
      rw [← hq]; unfold RC.nmB
      congr 1 <;> congr 1 <;> rw [Bool.eq_iff_iff] <;> simp <;> omega
    rw [hq]
    simp only [h1, h2, h3, h4, decide_true, decide_false, Bool.and_true, Bool.and_false, Bool.or_true, Bool.or_false, Bool.and_self, Bool.or_self] at hq2
    subst hq2
    clear hq
    first
      | (exfalso; omega)
      | (go_enter Try.func94, Try.ntmps94
         go_wp2
         go_ret
         exact ⟨rfl, rfl⟩)

/-- whether the first k bytes are such as a name has -/
theorem all_take (s : List UInt8) (k : Nat) (c : UInt8) (h : s[k]? = some c) (ha : (s.take k).all RC.nmB = true) : (s.take (k + 1)).all RC.nmB = RC.nmB c := by
  rw [List.take_add_one, h]
  simp only [Option.toList_some, List.all_append, ha, List.all_cons, List.all_nil, Bool.and_true, Bool.true_and]
theorem isNm_empty : RC.isNm [] = false := rfl
theorem isNm_long (s : List UInt8) (h : 8 < s.length) : RC.isNm s = false := by
  simp only [RC.isNm]; rw [decide_eq_false (by omega)]; simp
theorem isNm_bad (s : List UInt8) (k : Nat) (c : UInt8) (h : s[k]? = some c) (hc : RC.nmB c = false) : RC.isNm s = false := by
  have : s.all RC.nmB = false := by
    rw [List.all_eq_false]
    exact ⟨c, List.mem_of_getElem? h, by simp [hc]⟩
  simp only [RC.isNm, this, Bool.and_false]
theorem isNm_good (s : List UInt8) (h0 : s ≠ []) (h8 : s.length ≤ 8) (ha : (s.take s.length).all RC.nmB = true) : RC.isNm s = true := by
  rw [List.take_length] at ha
  simp only [RC.isNm, ha, decide_eq_true h8, Bool.and_true]
  cases s with
  | nil => exact absurd rfl h0
  | cons a l => rfl
theorem bs_empty (s : List UInt8) : (M.bs s).toList.isEmpty = decide (s = []) := by
  rw [Lib.toList_data, M.bs_toList]
  cases s <;> simp

set_option maxHeartbeats 1000000 in
theorem IsName_at (s : List UInt8) (w : World) (hs : s.length ≤ maxLen) :
    Calls Try.prog 89 #[.string (M.bs s)] w fun e w' => e = .returned (.bool (RC.isNm s)) ∧ w' = w := by
  unfold maxLen at hs
  have hbs := M.bs_size s
  have hem := bs_empty s
  by_cases h0 : s = []
  · have hq : RC.isNm s = false := by rw [h0]; rfl
    rw [hq]
    rw [decide_eq_true h0] at hem
    clear h0 hq
    go_enter Try.func89, Try.ntmps89
    go_wp2_with fail
    go_ret
    exact ⟨rfl, rfl⟩
  rw [decide_eq_false h0] at hem
  by_cases h8 : 8 < s.length
  · rw [isNm_long s h8]
    clear h0
    go_enter Try.func89, Try.ntmps89
    go_wp2_with fail
    go_ret
    exact ⟨rfl, rfl⟩
  have H0 : Hid (s ≠ []) := h0
  clear h0
  go_enter Try.func89, Try.ntmps89
  go_wp2_with fail
  go_loop [3, 13] (fun u3 u13 => ∃ k : Nat, k ≤ s.length ∧ u13 = .int .i64 k ∧ (s.take k).all RC.nmB = true) (fun _ u13 => s.length - (intOf u13).toNat)
  case atStart => exact ⟨0, Nat.zero_le _, rfl, rfl⟩
  case round =>
    obtain ⟨k, hk, rfl, ha⟩ := hrel
    have HA : Hid ((s.take k).all RC.nmB = true) := ha
    clear ha
    by_cases hlt : k < s.length
    · have hsk : (M.bs s)[k]'(by omega) = s[k] := by simp [M.bs, ByteArray.getElem_eq_getElem_data]
      have hg : s[k]? = some s[k] := List.getElem?_eq_getElem hlt
      have HS : Hid ((s.take (k + 1)).all RC.nmB = RC.nmB s[k]) := all_take s k _ hg HA.out
      have HB : Hid (RC.nmB s[k] = false → RC.isNm s = false) := isNm_bad s k _ hg
      clear hg
      obtain ⟨q, hq⟩ : ∃ q, RC.nmB s[k] = q := ⟨_, rfl⟩
      have CB : Hid (∀ W, Calls Try.prog 94 #[.int .u8 (s[k]'hlt).toNat] W fun e w' => e = .returned (.bool q) ∧ w' = W) := fun W => by
        rw [← hq]; exact isNameByte_at _ W
      rw [hq] at HS HB
      clear hq
      cases q
      · go_wp2_with (go_at_call 94; refine (CB.out _).mono ?_; rintro e w' ⟨rfl, rfl⟩)
        go_ret
        exact ⟨by rw [HB.out trivial]; rfl, rfl⟩
      · go_wp2_with (go_at_call 94; refine (CB.out _).mono ?_; rintro e w' ⟨rfl, rfl⟩)
        go_round
        case rel => exact ⟨k + 1, by omega, by go_num, HS.out⟩
        case measure => simp [intOf]; omega
    · obtain rfl : k = s.length := by omega
      have HG : Hid (RC.isNm s = true) := isNm_good s H0.out (by omega) HA.out
      go_wp2_with fail
      go_ret
      exact ⟨by rw [HG.out]; rfl, rfl⟩
end Go.Proofs.Ythpdmeoljdmncaa
