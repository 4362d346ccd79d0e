/- What sap.ReadNum answers, for every text: the number with which its bytes begin and what follows, or none. -/
import Derived.Test.YtgnajmiccbcacaaDoorProg
import Derived.Test.YtgnajmiccbcacaaDoorMath
import Derived.WalkKit
import Derived.WalkSpells
import Derived.WalkLawsBesides
import Derived.BigQuiet
import Derived.Deep.QuietTactic
import Derived.Lib.Strings
namespace Go.Proofs.YtgnajmiccbcacaaDoor
open Go.RowKit

theorem andNot128 (c : UInt8) : wrap64 (bits BinOp.andNot IntKind.u8 (c.toNat : Int) 128) = ((c.toNat % 128 : Nat) : Int) := by
  have h : ∀ n : Fin 256, wrap64 (bits BinOp.andNot IntKind.u8 (n.val : Int) 128) = ((n.val % 128 : Nat) : Int) := by decide +kernel
  exact h ⟨c.toNat, c.toNat_lt⟩
theorem and128 (c : UInt8) : (bits BinOp.and IntKind.u8 (c.toNat : Int) 128 != 0) = decide (128 ≤ c.toNat) := by
  have h : ∀ n : Fin 256, (bits BinOp.and IntKind.u8 (n.val : Int) 128 != 0) = decide (128 ≤ n.val) := by decide +kernel
  exact h ⟨c.toNat, c.toNat_lt⟩
theorem or8 (v : Nat) (c : UInt8) (hv : v < 72057594037927936) : bits BinOp.or IntKind.u64 (IntKind.u64.wrap ((v : Int) * 256)) (IntKind.u64.wrap (c.toNat : Int)) = ((v * 256 + c.toNat : Nat) : Int) := by
  have hc := c.toNat_lt
  have e1 : IntKind.u64.wrap ((v : Int) * 256) = ((v * 256 : Nat) : Int) := by
    simp only [IntKind.wrap, IntKind.bits, IntKind.signed]; simp; omega
  have e2 : IntKind.u64.wrap (c.toNat : Int) = ((c.toNat : Nat) : Int) := by
    simp only [IntKind.wrap, IntKind.bits, IntKind.signed]; simp; omega
  rw [e1, e2, u64_or_nat _ _ (by omega) (by omega), nat_join 8 _ _ (by omega) (by omega)]

theorem or8' (v : Nat) (c : UInt8) (hv : v < 72057594037927936) : bits BinOp.or IntKind.u64 ((v : Int) * 256) (IntKind.u64.wrap (c.toNat : Int)) = ((v * 256 + c.toNat : Nat) : Int) := by
  have h := or8 v c hv
  have e1 : IntKind.u64.wrap ((v : Int) * 256) = (v : Int) * 256 := by
    simp only [IntKind.wrap, IntKind.bits, IntKind.signed]; simp; omega
  rwa [e1] at h

theorem getB (s : ByteArray) (i : Nat) (h : i < s.size) : s.data.toList[i]? = some s[i] := by
  rw [List.getElem?_eq_getElem (by simpa using h)]; rfl
theorem step (s : ByteArray) (j : Nat) (h : j + 1 < s.size) : (s.data.toList.drop 1).take (j + 1) = (s.data.toList.drop 1).take j ++ [s[j + 1]] := by
  have hl : s.data.toList.length = s.size := (Lib.size_eq s).symm
  rw [List.take_add_one, List.getElem?_drop, Nat.add_comm 1 j, getB s (j + 1) h]; rfl

def rnV : Option (Int × List UInt8) → Value
  | none => .tuple #[.int .i64 0, .string ⟨#[]⟩, .bool false]
  | some (n, r) => .tuple #[.int .i64 n, .string (M.bs r), .bool true]

theorem drop1 (s : ByteArray) (k : Nat) : s.extract k s.size = M.bs (s.data.toList.drop k) := by
  rw [Lib.extract_eq]
  unfold M.bs
  rw [List.take_of_length_le]
  rw [List.length_drop, ← Lib.size_eq]
  omega

/-- readNum, said of the text's bytes -/
theorem readNum_cases (s : ByteArray) (h0 : 0 < s.size) :
    M.readNum s.data.toList = if 8 < s[0].toNat % 128 ∨ s.size - 1 < s[0].toNat % 128 then none
      else if 0 < s[0].toNat % 128 ∧ (s.data.toList.drop 1).headD 1 = 0 then none
      else if 9223372036854775808 ≤ M.val ((s.data.toList.drop 1).take (s[0].toNat % 128)) then none
      else some (if 128 ≤ s[0].toNat then -1 - (M.val ((s.data.toList.drop 1).take (s[0].toNat % 128)) : Int) else (M.val ((s.data.toList.drop 1).take (s[0].toNat % 128)) : Int), s.data.toList.drop (1 + s[0].toNat % 128)) := by
  have hg := getB s 0 h0
  have hl := Lib.size_eq s
  cases hd : s.data.toList with
  | nil => rw [hd] at hl; simp only [List.length_nil] at hl; omega
  | cons c r =>
    rw [hd] at hg hl
    simp only [List.getElem?_cons_zero, Option.some.injEq] at hg
    rw [← hg]
    simp only [List.length_cons] at hl
    have e : s.size - 1 = r.length := by omega
    simp only [M.readNum, List.drop_succ_cons, List.drop_zero, e]
    rw [Nat.add_comm 1, List.drop_succ_cons]
    rfl

set_option maxHeartbeats 400000 in
theorem rn_A (s : ByteArray) (w : World) (he : s.toList.isEmpty = true) :
    Calls Tryd.prog 89 #[.string s] w fun e w' => e = .returned (rnV none) ∧ ∃ n, w' = w.drewN n := by
  go_enter Tryd.func89, Tryd.ntmps89
  go_wp2
  go_ret3
  exact ⟨rfl, 0, rfl⟩

set_option maxHeartbeats 400000 in
theorem rn_B (s : ByteArray) (w : World) (k : Nat) (h0 : 0 < s.size) (he : s.toList.isEmpty = false) (hk : wrap64 (bits BinOp.andNot IntKind.u8 (s[0].toNat : Int) 128) = (k : Int)) (h8 : 8 < (k : Int)) :
    Calls Tryd.prog 89 #[.string s] w fun e w' => e = .returned (rnV none) ∧ ∃ n, w' = w.drewN n := by
  go_enter Tryd.func89, Tryd.ntmps89
  go_wp2
  go_ret3
  exact ⟨rfl, 0, rfl⟩

set_option maxHeartbeats 400000 in
theorem rn_C (s : ByteArray) (w : World) (hs : s.size ≤ maxLen) (k : Nat) (h0 : 0 < s.size) (he : s.toList.isEmpty = false) (hk : wrap64 (bits BinOp.andNot IntKind.u8 (s[0].toNat : Int) 128) = (k : Int)) (h8 : (k : Int) ≤ 8) (hsz : (s.size : Int) - 1 < (k : Int)) :
    Calls Tryd.prog 89 #[.string s] w fun e w' => e = .returned (rnV none) ∧ ∃ n, w' = w.drewN n := by
  unfold maxLen at hs
  go_enter Tryd.func89, Tryd.ntmps89
  go_wp2
  go_ret3
  exact ⟨rfl, 0, rfl⟩

set_option maxHeartbeats 400000 in
theorem rn_D (s : ByteArray) (w : World) (hs : s.size ≤ maxLen) (k : Nat) (h0 : 0 < s.size) (he : s.toList.isEmpty = false) (hk : wrap64 (bits BinOp.andNot IntKind.u8 (s[0].toNat : Int) 128) = (k : Int)) (h8 : (k : Int) ≤ 8) (hsz : (k : Int) ≤ (s.size : Int) - 1)
    (h1 : (0 : Int) < k) (h1' : 1 < s.size) (hz : ((s[1].toNat : Int) == 0) = true) :
    Calls Tryd.prog 89 #[.string s] w fun e w' => e = .returned (rnV none) ∧ ∃ n, w' = w.drewN n := by
  unfold maxLen at hs
  go_enter Tryd.func89, Tryd.ntmps89
  go_wp2
  go_ret3
  exact ⟨rfl, 0, rfl⟩

/-- the number that the first k bytes behind the first one spell -/
def vOf (s : ByteArray) (k : Nat) : Nat := M.val ((s.data.toList.drop 1).take k)
theorem vOf_zero (s : ByteArray) : vOf s 0 = 0 := rfl
theorem vOf_succ (s : ByteArray) (j : Nat) (h : j + 1 < s.size) : vOf s (j + 1) = vOf s j * 256 + s[j + 1].toNat := by
  unfold vOf; rw [step s j h, M.val_snoc]
theorem vOf_lt (s : ByteArray) (j : Nat) (h : j ≤ 7) : vOf s j < 72057594037927936 := by
  have hv8 := M.val_lt ((s.data.toList.drop 1).take j)
  have hjl : ((s.data.toList.drop 1).take j).length ≤ j := List.length_take_le _ _
  have hp : 256 ^ ((s.data.toList.drop 1).take j).length ≤ 256 ^ 7 := Nat.pow_le_pow_right (by omega) (by omega)
  unfold vOf
  omega

set_option maxHeartbeats 1000000 in
theorem rn_over (s : ByteArray) (w : World) (hs : s.size ≤ maxLen) (k : Nat) (h0 : 0 < s.size) (he : s.toList.isEmpty = false) (hk : wrap64 (bits BinOp.andNot IntKind.u8 (s[0].toNat : Int) 128) = (k : Int))
    (h8 : (k : Int) ≤ 8) (hsz : (k : Int) ≤ (s.size : Int) - 1) (hz : (k : Int) ≤ 0 ∨ ((0 : Int) < k ∧ ∃ h1' : 1 < s.size, ((s[1].toNat : Int) == 0) = false))
    (hv : 9223372036854775807 < (vOf s k : Int)) :
    Calls Tryd.prog 89 #[.string s] w fun e w' => e = .returned (rnV none) ∧ ∃ n, w' = w.drewN n := by
  unfold maxLen at hs
  rcases hz with hz | ⟨hz, h1', hz'⟩
  all_goals
    go_enter Tryd.func89, Tryd.ntmps89
    go_wp2
    go_loop [6, 7] (fun t i => ∃ j : Nat, j ≤ k ∧ i = .int .i64 (j + 1) ∧ t = .int .u64 (vOf s j)) (fun _ i => k + 1 - (intOf i).toNat)
    case atStart => exact ⟨0, Nat.zero_le _, rfl, rfl⟩
    case round =>
      obtain ⟨j, hj, rfl, rfl⟩ := hrel
      by_cases hlt : j < k
      · have hv8 := vOf_lt s j (by omega)
        have HS : Hid (vOf s (j + 1) = vOf s j * 256 + (s[j + 1]'(by omega)).toNat) := vOf_succ s j (by omega)
        go_wp2
        all_goals exact ⟨⟨j + 1, by omega, by go_num, by rw [HS.out]; exact congrArg (Value.int IntKind.u64) (or8' _ _ hv8)⟩, by simp [intOf]; omega⟩
      · obtain rfl : j = k := by omega
        go_wp2
        go_ret3
        exact ⟨rfl, 0, rfl⟩

set_option maxHeartbeats 1000000 in
theorem rn_yes (s : ByteArray) (w : World) (hs : s.size ≤ maxLen) (k : Nat) (b : Bool) (h0 : 0 < s.size) (he : s.toList.isEmpty = false) (hk : wrap64 (bits BinOp.andNot IntKind.u8 (s[0].toNat : Int) 128) = (k : Int))
    (h8 : (k : Int) ≤ 8) (hsz : (k : Int) ≤ (s.size : Int) - 1) (hz : (k : Int) ≤ 0 ∨ ((0 : Int) < k ∧ ∃ h1' : 1 < s.size, ((s[1].toNat : Int) == 0) = false))
    (hv : (vOf s k : Int) ≤ 9223372036854775807) (hb : (bits BinOp.and IntKind.u8 (s[0].toNat : Int) 128 != 0) = b) :
    Calls Tryd.prog 89 #[.string s] w fun e w' => e = .returned (.tuple #[.int .i64 (bif b then -1 - (vOf s k : Int) else (vOf s k : Int)), .string (s.extract (1 + k) s.size), .bool true]) ∧ ∃ n, w' = w.drewN n := by
  unfold maxLen at hs
  rcases hz with hz | ⟨hz, h1', hz'⟩
  all_goals
    cases b
    all_goals
      go_enter Tryd.func89, Tryd.ntmps89
      go_wp2
      go_loop [6, 7] (fun t i => ∃ j : Nat, j ≤ k ∧ i = .int .i64 (j + 1) ∧ t = .int .u64 (vOf s j)) (fun _ i => k + 1 - (intOf i).toNat)
      case atStart => exact ⟨0, Nat.zero_le _, rfl, rfl⟩
      case round =>
        obtain ⟨j, hj, rfl, rfl⟩ := hrel
        by_cases hlt : j < k
        · have hv8 := vOf_lt s j (by omega)
          have HS : Hid (vOf s (j + 1) = vOf s j * 256 + (s[j + 1]'(by omega)).toNat) := vOf_succ s j (by omega)
          go_wp2
          all_goals exact ⟨⟨j + 1, by omega, by go_num, by rw [HS.out]; exact congrArg (Value.int IntKind.u64) (or8' _ _ hv8)⟩, by simp [intOf]; omega⟩
        · obtain rfl : j = k := by omega
          go_wp2
          go_quiet (fail)
          go_wp2
          go_ret3
          exact ⟨rfl, nq, rfl⟩

theorem readNum_any (s : ByteArray) (w : World) (hs : s.size ≤ maxLen) :
    Calls Tryd.prog 89 #[.string s] w fun e w' => e = .returned (rnV (M.readNum s.data.toList)) ∧ ∃ n, w' = w.drewN n := by
  by_cases h0 : 0 < s.size
  · have he : s.toList.isEmpty = false := by
      rw [Lib.toList_data, List.isEmpty_eq_false_iff]; intro e; have := Lib.size_eq s; rw [e] at this; simp only [List.length_nil] at this; omega
    have hk := andNot128 (s[0]'h0)
    have hb := and128 (s[0]'h0)
    rw [readNum_cases s h0]
    generalize hkk : (s[0]'h0).toNat % 128 = k at *
    by_cases h8 : 8 < k
    · rw [if_pos (Or.inl h8)]; exact rn_B s w k h0 he hk (by omega)
    by_cases hsz : s.size - 1 < k
    · rw [if_pos (Or.inr hsz)]; exact rn_C s w hs k h0 he hk (by omega) (by omega)
    rw [if_neg (by omega)]
    have hhead : ∀ h1 : 1 < s.size, (s.data.toList.drop 1).headD 1 = s[1] := by
      intro h1
      have hg := getB s 1 h1
      cases hd : s.data.toList with
      | nil => rw [hd] at hg; simp at hg
      | cons c r =>
        rw [hd] at hg
        cases r with
        | nil => simp at hg
        | cons d u => simpa using hg
    by_cases hz : 0 < k ∧ (s.data.toList.drop 1).headD 1 = 0
    · rw [if_pos hz]
      have h1 : 1 < s.size := by omega
      rw [hhead h1] at hz
      exact rn_D s w hs k h0 he hk (by omega) (by omega) (by omega) h1 (by rw [hz.2]; rfl)
    rw [if_neg hz]
    have hz2 : (k : Int) ≤ 0 ∨ ((0 : Int) < k ∧ ∃ h1' : 1 < s.size, ((s[1].toNat : Int) == 0) = false) := by
      by_cases hk0 : k = 0
      · left; omega
      · right
        have h1 : 1 < s.size := by omega
        refine ⟨by omega, h1, ?_⟩
        rw [hhead h1] at hz
        rw [beq_eq_false_iff_ne]
        intro e
        apply hz
        exact ⟨by omega, UInt8.toNat_inj.1 (by simpa using e)⟩
    show Calls _ _ _ _ fun e w' => e = .returned (rnV (if 9223372036854775808 ≤ vOf s k then none else _)) ∧ _
    by_cases hv : 9223372036854775808 ≤ vOf s k
    · rw [if_pos hv]; exact rn_over s w hs k h0 he hk (by omega) (by omega) hz2 (by omega)
    · rw [if_neg hv]
      refine (rn_yes s w hs k _ h0 he hk (by omega) (by omega) hz2 (by omega) hb).mono ?_
      rintro e w' ⟨rfl, hw⟩
      refine ⟨?_, hw⟩
      rw [drop1]
      by_cases h128 : 128 ≤ (s[0]'h0).toNat
      · simp [rnV, vOf, h128]
      · simp [rnV, vOf, h128]
  · have e0 : s.data.toList = [] := List.eq_nil_of_length_eq_zero (by rw [← Lib.size_eq]; omega)
    have he : s.toList.isEmpty = true := by rw [Lib.toList_data, e0]; rfl
    rw [e0]
    exact rn_A s w he

end Go.Proofs.YtgnajmiccbcacaaDoor
