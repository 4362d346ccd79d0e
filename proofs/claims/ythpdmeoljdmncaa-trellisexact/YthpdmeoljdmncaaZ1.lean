/- trellis: sets of names (has, meets, isWithin); slices.Index and slices.Contains at texts. -/
import Derived.Test.YthpdmeoljdmncaaL4
import Derived.Test.YthpdmeoljdmncaaTMath
import Derived.Laws.BitsAllLaws
namespace Go.Proofs.Ythpdmeoljdmncaa
open Go.RowKit
set_option linter.unusedVariables false

/-- a set as a number (its own name, so that no rule of numbers opens it) -/
def si (n : Nat) : Int := (n : Int)
abbrev su (n : Nat) : Value := .int .u32 (si n)
theorem si_and {a b : Nat} (ha : a < 4294967296) (hb : b < 4294967296) : bits .and .u32 (si a) (si b) = si (a &&& b) := u32_and_nat a b ha hb
theorem si_or {a b : Nat} (ha : a < 4294967296) (hb : b < 4294967296) : bits .or .u32 (si a) (si b) = si (a ||| b) := u32_or_nat a b ha hb
theorem si_nz (a : Nat) : (si a != 0) = !decide (a = 0) := by
  unfold si
  rw [Bool.eq_iff_iff, bne_iff_ne, Bool.not_eq_true', decide_eq_false_iff_not]; omega
theorem si_z (a : Nat) : (si a == 0) = decide (a = 0) := by
  unfold si
  rw [Bool.eq_iff_iff, beq_iff_eq, decide_eq_true_eq]; omega
theorem si_one (a : Nat) : (si a == 1) = decide (a = 1) := by
  unfold si
  rw [Bool.eq_iff_iff, beq_iff_eq, decide_eq_true_eq]; omega

theorem meets_at (a b : Nat) (ha : a < 4294967296) (hb : b < 4294967296) (w : World) :
    Calls Try.prog 36 #[su a, su b] w fun e w' => e = .returned (.bool (!decide (a &&& b = 0))) ∧ w' = w := by
  have h1 := si_and ha hb
  have h2 := si_nz (a &&& b)
  go_enter Try.func36, Try.ntmps36
  go_wp2_with fail
  go_ret
  exact ⟨rfl, rfl⟩
theorem isWithin_at (a b : Nat) (ha : a < 4294967296) (hb : b < 4294967296) (w : World) :
    Calls Try.prog 81 #[su a, su b] w fun e w' => e = .returned (.bool (TR.sub a b)) ∧ w' = w := by
  have h1 : bits .andNot .u32 (si a) (si b) = si (a &&& (4294967295 - b)) := u32_andNot_nat a b ha hb
  have h2 := si_z (a &&& (4294967295 - b))
  rw [TR.sub_not ha hb] at h2
  go_enter Try.func81, Try.ntmps81
  go_wp2_with fail
  go_ret
  exact ⟨rfl, rfl⟩
theorem has_at (s n : Nat) (hs : s < 4294967296) (hn : n ≤ 31) (w : World) :
    Calls Try.prog 37 #[su s, .int .i64 (n : Int)] w fun e w' => e = .returned (.bool (s.testBit n)) ∧ w' = w := by
  have h1 : si s / 2 ^ n = si (s / 2 ^ n) := by unfold si; simp
  have hd : s / 2 ^ n < 4294967296 := Nat.lt_of_le_of_lt (Nat.div_le_self _ _) hs
  have h2 : bits .and .u32 (si (s / 2 ^ n)) 1 = si (s / 2 ^ n % 2) := by
    have := si_and hd (show 1 < 4294967296 by decide)
    rw [Nat.and_one_is_mod] at this
    exact this
  have h3 := si_one (s / 2 ^ n % 2)
  rw [TR.has_t] at h3
  go_enter Try.func37, Try.ntmps37
  go_wp2_with fail
  go_ret
  exact ⟨rfl, rfl⟩

theorem idx_pos (l : List (List UInt8)) (s : List UInt8) : idxI (fun x => decide (x = s)) l = match TR.pos l s with | some i => (i : Int) | none => -1 := rfl
set_option maxRecDepth 8000 in
set_option maxHeartbeats 1000000 in
theorem Index_at (l : List (List UInt8)) (a : Option Addr) (c : Nat) (s : List UInt8) (w : World) (hv : SA w a l) (hn : l.length ≤ maxLen) :
    Calls Try.prog 50 #[.slice a l.length c, .string (M.bs s)] w fun e w' => e = .returned (.int .i64 (idxI (fun x => decide (x = s)) l)) ∧ w' = w := by
  have HV : Hid (SA w a l) := hv
  clear hv
  unfold maxLen at hn
  go_enter Try.func50, Try.ntmps50
  go_wp2_with fail
  go_loop [5, 8] (fun u5 u8 => ∃ k : Nat, k ≤ l.length ∧ u8 = .int .i64 k ∧ ∀ i e, i < k → l[i]? = some e → decide (e = s) = false) (fun _ u8 => l.length - (intOf u8).toNat)
  case atStart => exact ⟨0, Nat.zero_le _, rfl, fun i e hi => by omega⟩
  case round =>
    obtain ⟨k, hk, rfl, hpre⟩ := hrel
    have HP : Hid (∀ i e, i < k → l[i]? = some e → decide (e = s) = false) := hpre
    clear hpre
    by_cases hlt : k < l.length
    · obtain ⟨t, ht⟩ : ∃ t, l[k]? = some t := ⟨l[k], List.getElem?_eq_getElem hlt⟩
      obtain ⟨b, off, rfl, hc⟩ := HV.out k t ht
      obtain ⟨q, hq, hb⟩ : ∃ q, decide (t = s) = q ∧ ((M.bs s).toList == (M.bs t).toList) = q := by
        refine ⟨_, rfl, ?_⟩
        simp only [Lib.toList_data, M.bs_toList]
        rw [Bool.eq_iff_iff, beq_iff_eq, decide_eq_true_eq]
        exact eq_comm
      have HF : Hid (q = true → idxI (fun x => decide (x = s)) l = (k : Int)) := fun h => idxI_of (p := fun x => decide (x = s)) HP.out ht (by show decide (t = s) = true; rw [hq]; exact h)
      have HE : Hid (q = false → ∀ i e, i < k + 1 → l[i]? = some e → decide (e = s) = false) := fun h i e hi he => by
        rcases (by omega : i < k ∨ i = k) with h' | rfl
        · exact HP.out i e h' he
        · rw [ht] at he; cases he; rw [hq]; exact h
      clear ht hq
      cases q
      · go_wp2_with fail
        go_round
        case rel => exact ⟨k + 1, by omega, by go_num, HE.out rfl⟩
        case measure => simp [intOf]; omega
      · go_wp2_with fail
        go_ret
        exact ⟨by rw [HF.out trivial]; rfl, rfl⟩
    · obtain rfl : k = l.length := by omega
      have HF : Hid (idxI (fun x => decide (x = s)) l = -1) := idxI_none (p := fun x => decide (x = s)) HP.out
      go_wp2_with fail
      go_ret
      exact ⟨by rw [HF.out]; rfl, rfl⟩
theorem any_mem (l : List (List UInt8)) (s : List UInt8) : (l.any fun x => decide (x = s)) = decide (s ∈ l) := by
  rw [Bool.eq_iff_iff, List.any_eq_true, decide_eq_true_eq]
  constructor
  · rintro ⟨x, hx, h⟩; simp at h; exact h ▸ hx
  · intro h; exact ⟨s, h, by simp⟩
theorem Contains_at (l : List (List UInt8)) (a : Option Addr) (c : Nat) (s : List UInt8) (w : World) (hv : SA w a l) (hn : l.length ≤ maxLen) :
    Calls Try.prog 59 #[.slice a l.length c, .string (M.bs s)] w fun e w' => e = .returned (.bool (decide (s ∈ l))) ∧ w' = w := by
  obtain ⟨i, hi⟩ : ∃ i, idxI (fun x => decide (x = s)) l = i := ⟨_, rfl⟩
  have CI : Hid (∀ W, W = w → Calls Try.prog 50 #[.slice a l.length c, .string (M.bs s)] W fun e w' => e = .returned (.int .i64 i) ∧ w' = W) := fun W e => by
    subst e; rw [← hi]; exact Index_at l a c s W hv hn
  have HA : Hid (decide (0 ≤ i) = decide (s ∈ l)) := by show _ = _; rw [← hi, ← any_mem]; exact idxI_any _ l
  clear hi hv
  go_enter Try.func59, Try.ntmps59
  go_wp2_with (go_at_call 50; refine (CI.out _ rfl).mono ?_; rintro e w' ⟨rfl, rfl⟩)
  go_ret
  exact ⟨by rw [← HA.out]; rfl, rfl⟩
end Go.Proofs.Ythpdmeoljdmncaa
