/- The texts W1 W2 W3 W4 W5 W6 W7 W8 W9 as one. -/
import Derived.Test.YtlkllcnnnndllaaGreatDoorProg
import Derived.Test.YtlkllcnnnndllaaGreatDoorMath
import Derived.WalkKit
import Derived.WalkSpells
import Derived.WalkLawsBesides
import Derived.BigQuiet
import Derived.Deep.QuietTactic
import Derived.Lib.Strings
import Derived.Test.YtlkllcnnnndllaaGreatDoorShelf
import Derived.Lib.BitFns
import Derived.Laws.IdiomStrings
/- What sap.ReadNum answers, for every text: the number with which its bytes begin and what follows, or none. -/
namespace Go.Proofs.YtlkllcnnnndllaaGreatDoor
open Go.RowKit

theorem andNot128 (c : UInt8) : wrap64 (bits BinOp.andNot IntKind.u8 (c.toNat : Int) 128) = ((c.toNat % 128 : Nat) : Int) := by
  have h : ∀ n : Fin 256, wrap64 (bits BinOp.andNot IntKind.u8 (n.val : Int) 128) = ((n.val % 128 : Nat) : Int) := by decide +kernel
  exact h ⟨c.toNat, c.toNat_lt⟩
theorem and128 (c : UInt8) : (bits BinOp.and IntKind.u8 (c.toNat : Int) 128 != 0) = decide (128 ≤ c.toNat) := by
  have h : ∀ n : Fin 256, (bits BinOp.and IntKind.u8 (n.val : Int) 128 != 0) = decide (128 ≤ n.val) := by decide +kernel
  exact h ⟨c.toNat, c.toNat_lt⟩
theorem or8 (v : Nat) (c : UInt8) (hv : v < 72057594037927936) : bits BinOp.or IntKind.u64 (IntKind.u64.wrap ((v : Int) * 256)) (IntKind.u64.wrap (c.toNat : Int)) = ((v * 256 + c.toNat : Nat) : Int) := by
  have hc := c.toNat_lt
  have e1 : IntKind.u64.wrap ((v : Int) * 256) = ((v * 256 : Nat) : Int) := by
    simp only [IntKind.wrap, IntKind.bits, IntKind.signed]; simp; omega
  have e2 : IntKind.u64.wrap (c.toNat : Int) = ((c.toNat : Nat) : Int) := by
    simp only [IntKind.wrap, IntKind.bits, IntKind.signed]; simp; omega
  rw [e1, e2, u64_or_nat _ _ (by omega) (by omega), nat_join 8 _ _ (by omega) (by omega)]

theorem or8' (v : Nat) (c : UInt8) (hv : v < 72057594037927936) : bits BinOp.or IntKind.u64 ((v : Int) * 256) (IntKind.u64.wrap (c.toNat : Int)) = ((v * 256 + c.toNat : Nat) : Int) := by
  have h := or8 v c hv
  have e1 : IntKind.u64.wrap ((v : Int) * 256) = (v : Int) * 256 := by
    simp only [IntKind.wrap, IntKind.bits, IntKind.signed]; simp; omega
  rwa [e1] at h

theorem getB (s : ByteArray) (i : Nat) (h : i < s.size) : s.data.toList[i]? = some s[i] := by
  rw [List.getElem?_eq_getElem (by simpa using h)]; rfl
theorem step (s : ByteArray) (j : Nat) (h : j + 1 < s.size) : (s.data.toList.drop 1).take (j + 1) = (s.data.toList.drop 1).take j ++ [s[j + 1]] := by
  have hl : s.data.toList.length = s.size := (Lib.size_eq s).symm
  rw [List.take_add_one, List.getElem?_drop, Nat.add_comm 1 j, getB s (j + 1) h]; rfl

def rnV : Option (Int × List UInt8) → Value
  | none => .tuple #[.int .i64 0, .string ⟨#[]⟩, .bool false]
  | some (n, r) => .tuple #[.int .i64 n, .string (M.bs r), .bool true]

theorem drop1 (s : ByteArray) (k : Nat) : s.extract k s.size = M.bs (s.data.toList.drop k) := by
  rw [Lib.extract_eq]
  unfold M.bs
  rw [List.take_of_length_le]
  rw [List.length_drop, ← Lib.size_eq]
  omega

/-- readNum, said of the text's bytes -/
theorem readNum_cases (s : ByteArray) (h0 : 0 < s.size) :
    M.readNum s.data.toList = if 8 < s[0].toNat % 128 ∨ s.size - 1 < s[0].toNat % 128 then none
      else if 0 < s[0].toNat % 128 ∧ (s.data.toList.drop 1).headD 1 = 0 then none
      else if 9223372036854775808 ≤ M.val ((s.data.toList.drop 1).take (s[0].toNat % 128)) then none
      else some (if 128 ≤ s[0].toNat then -1 - (M.val ((s.data.toList.drop 1).take (s[0].toNat % 128)) : Int) else (M.val ((s.data.toList.drop 1).take (s[0].toNat % 128)) : Int), s.data.toList.drop (1 + s[0].toNat % 128)) := by
  have hg := getB s 0 h0
  have hl := Lib.size_eq s
  cases hd : s.data.toList with
  | nil => rw [hd] at hl; simp only [List.length_nil] at hl; omega
  | cons c r =>
    rw [hd] at hg hl
    simp only [List.getElem?_cons_zero, Option.some.injEq] at hg
    rw [← hg]
    simp only [List.length_cons] at hl
    have e : s.size - 1 = r.length := by omega
    simp only [M.readNum, List.drop_succ_cons, List.drop_zero, e]
    rw [Nat.add_comm 1, List.drop_succ_cons]
    rfl

set_option maxHeartbeats 400000 in
theorem rn_A (s : ByteArray) (w : World) (he : s.toList.isEmpty = true) :
    Calls Tryz.prog 87 #[.string s] w fun e w' => e = .returned (rnV none) ∧ ∃ n, w' = w.drewN n := by
  go_enter Tryz.func87, Tryz.ntmps87
  go_wp2
  go_ret3
  exact ⟨rfl, 0, rfl⟩

set_option maxHeartbeats 400000 in
theorem rn_B (s : ByteArray) (w : World) (k : Nat) (h0 : 0 < s.size) (he : s.toList.isEmpty = false) (hk : wrap64 (bits BinOp.andNot IntKind.u8 (s[0].toNat : Int) 128) = (k : Int)) (h8 : 8 < (k : Int)) :
    Calls Tryz.prog 87 #[.string s] w fun e w' => e = .returned (rnV none) ∧ ∃ n, w' = w.drewN n := by
  go_enter Tryz.func87, Tryz.ntmps87
  go_wp2
  go_ret3
  exact ⟨rfl, 0, rfl⟩

set_option maxHeartbeats 400000 in
theorem rn_C (s : ByteArray) (w : World) (hs : s.size ≤ maxLen) (k : Nat) (h0 : 0 < s.size) (he : s.toList.isEmpty = false) (hk : wrap64 (bits BinOp.andNot IntKind.u8 (s[0].toNat : Int) 128) = (k : Int)) (h8 : (k : Int) ≤ 8) (hsz : (s.size : Int) - 1 < (k : Int)) :
    Calls Tryz.prog 87 #[.string s] w fun e w' => e = .returned (rnV none) ∧ ∃ n, w' = w.drewN n := by
  unfold maxLen at hs
  go_enter Tryz.func87, Tryz.ntmps87
  go_wp2
  go_ret3
  exact ⟨rfl, 0, rfl⟩

set_option maxHeartbeats 400000 in
theorem rn_D (s : ByteArray) (w : World) (hs : s.size ≤ maxLen) (k : Nat) (h0 : 0 < s.size) (he : s.toList.isEmpty = false) (hk : wrap64 (bits BinOp.andNot IntKind.u8 (s[0].toNat : Int) 128) = (k : Int)) (h8 : (k : Int) ≤ 8) (hsz : (k : Int) ≤ (s.size : Int) - 1)
    (h1 : (0 : Int) < k) (h1' : 1 < s.size) (hz : ((s[1].toNat : Int) == 0) = true) :
    Calls Tryz.prog 87 #[.string s] w fun e w' => e = .returned (rnV none) ∧ ∃ n, w' = w.drewN n := by
  unfold maxLen at hs
  go_enter Tryz.func87, Tryz.ntmps87
  go_wp2
  go_ret3
  exact ⟨rfl, 0, rfl⟩

/-- the number that the first k bytes behind the first one spell -/
def vOf (s : ByteArray) (k : Nat) : Nat := M.val ((s.data.toList.drop 1).take k)
theorem vOf_zero (s : ByteArray) : vOf s 0 = 0 := rfl
theorem vOf_succ (s : ByteArray) (j : Nat) (h : j + 1 < s.size) : vOf s (j + 1) = vOf s j * 256 + s[j + 1].toNat := by
  unfold vOf; rw [step s j h, M.val_snoc]
theorem vOf_lt (s : ByteArray) (j : Nat) (h : j ≤ 7) : vOf s j < 72057594037927936 := by
  have hv8 := M.val_lt ((s.data.toList.drop 1).take j)
  have hjl : ((s.data.toList.drop 1).take j).length ≤ j := List.length_take_le _ _
  have hp : 256 ^ ((s.data.toList.drop 1).take j).length ≤ 256 ^ 7 := Nat.pow_le_pow_right (by omega) (by omega)
  unfold vOf
  omega

set_option maxHeartbeats 1000000 in
theorem rn_over (s : ByteArray) (w : World) (hs : s.size ≤ maxLen) (k : Nat) (h0 : 0 < s.size) (he : s.toList.isEmpty = false) (hk : wrap64 (bits BinOp.andNot IntKind.u8 (s[0].toNat : Int) 128) = (k : Int))
    (h8 : (k : Int) ≤ 8) (hsz : (k : Int) ≤ (s.size : Int) - 1) (hz : (k : Int) ≤ 0 ∨ ((0 : Int) < k ∧ ∃ h1' : 1 < s.size, ((s[1].toNat : Int) == 0) = false))
    (hv : 9223372036854775807 < (vOf s k : Int)) :
    Calls Tryz.prog 87 #[.string s] w fun e w' => e = .returned (rnV none) ∧ ∃ n, w' = w.drewN n := by
  unfold maxLen at hs
  rcases hz with hz | ⟨hz, h1', hz'⟩
  all_goals
    go_enter Tryz.func87, Tryz.ntmps87
    go_wp2
    go_loop [6, 7] (fun t i => ∃ j : Nat, j ≤ k ∧ i = .int .i64 (j + 1) ∧ t = .int .u64 (vOf s j)) (fun _ i => k + 1 - (intOf i).toNat)
    case atStart => exact ⟨0, Nat.zero_le _, rfl, rfl⟩
    case round =>
      obtain ⟨j, hj, rfl, rfl⟩ := hrel
      by_cases hlt : j < k
      · have hv8 := vOf_lt s j (by omega)
        have HS : Hid (vOf s (j + 1) = vOf s j * 256 + (s[j + 1]'(by omega)).toNat) := vOf_succ s j (by omega)
        go_wp2
        all_goals exact ⟨⟨j + 1, by omega, by go_num, by rw [HS.out]; exact congrArg (Value.int IntKind.u64) (or8' _ _ hv8)⟩, by simp [intOf]; omega⟩
      · obtain rfl : j = k := by omega
        go_wp2
        go_ret3
        exact ⟨rfl, 0, rfl⟩

set_option maxHeartbeats 1000000 in
theorem rn_yes (s : ByteArray) (w : World) (hs : s.size ≤ maxLen) (k : Nat) (b : Bool) (h0 : 0 < s.size) (he : s.toList.isEmpty = false) (hk : wrap64 (bits BinOp.andNot IntKind.u8 (s[0].toNat : Int) 128) = (k : Int))
    (h8 : (k : Int) ≤ 8) (hsz : (k : Int) ≤ (s.size : Int) - 1) (hz : (k : Int) ≤ 0 ∨ ((0 : Int) < k ∧ ∃ h1' : 1 < s.size, ((s[1].toNat : Int) == 0) = false))
    (hv : (vOf s k : Int) ≤ 9223372036854775807) (hb : (bits BinOp.and IntKind.u8 (s[0].toNat : Int) 128 != 0) = b) :
    Calls Tryz.prog 87 #[.string s] w fun e w' => e = .returned (.tuple #[.int .i64 (bif b then -1 - (vOf s k : Int) else (vOf s k : Int)), .string (s.extract (1 + k) s.size), .bool true]) ∧ ∃ n, w' = w.drewN n := by
  unfold maxLen at hs
  rcases hz with hz | ⟨hz, h1', hz'⟩
  all_goals
    cases b
    all_goals
      go_enter Tryz.func87, Tryz.ntmps87
      go_wp2
      go_loop [6, 7] (fun t i => ∃ j : Nat, j ≤ k ∧ i = .int .i64 (j + 1) ∧ t = .int .u64 (vOf s j)) (fun _ i => k + 1 - (intOf i).toNat)
      case atStart => exact ⟨0, Nat.zero_le _, rfl, rfl⟩
      case round =>
        obtain ⟨j, hj, rfl, rfl⟩ := hrel
        by_cases hlt : j < k
        · have hv8 := vOf_lt s j (by omega)
          have HS : Hid (vOf s (j + 1) = vOf s j * 256 + (s[j + 1]'(by omega)).toNat) := vOf_succ s j (by omega)
          go_wp2
          all_goals exact ⟨⟨j + 1, by omega, by go_num, by rw [HS.out]; exact congrArg (Value.int IntKind.u64) (or8' _ _ hv8)⟩, by simp [intOf]; omega⟩
        · obtain rfl : j = k := by omega
          go_wp2
          go_quiet (fail)
          go_wp2
          go_ret3
          exact ⟨rfl, nq, rfl⟩

theorem readNum_any (s : ByteArray) (w : World) (hs : s.size ≤ maxLen) :
    Calls Tryz.prog 87 #[.string s] w fun e w' => e = .returned (rnV (M.readNum s.data.toList)) ∧ ∃ n, w' = w.drewN n := by
  by_cases h0 : 0 < s.size
  · have he : s.toList.isEmpty = false := by
      rw [Lib.toList_data, List.isEmpty_eq_false_iff]; intro e; have := Lib.size_eq s; rw [e] at this; simp only [List.length_nil] at this; omega
    have hk := andNot128 (s[0]'h0)
    have hb := and128 (s[0]'h0)
    rw [readNum_cases s h0]
    generalize hkk : (s[0]'h0).toNat % 128 = k at *
    by_cases h8 : 8 < k
    · rw [if_pos (Or.inl h8)]; exact rn_B s w k h0 he hk (by omega)
    by_cases hsz : s.size - 1 < k
    · rw [if_pos (Or.inr hsz)]; exact rn_C s w hs k h0 he hk (by omega) (by omega)
    rw [if_neg (by omega)]
    have hhead : ∀ h1 : 1 < s.size, (s.data.toList.drop 1).headD 1 = s[1] := by
      intro h1
      have hg := getB s 1 h1
      cases hd : s.data.toList with
      | nil => rw [hd] at hg; simp at hg
      | cons c r =>
        rw [hd] at hg
        cases r with
        | nil => simp at hg
        | cons d u => simpa using hg
    by_cases hz : 0 < k ∧ (s.data.toList.drop 1).headD 1 = 0
    · rw [if_pos hz]
      have h1 : 1 < s.size := by omega
      rw [hhead h1] at hz
      exact rn_D s w hs k h0 he hk (by omega) (by omega) (by omega) h1 (by rw [hz.2]; rfl)
    rw [if_neg hz]
    have hz2 : (k : Int) ≤ 0 ∨ ((0 : Int) < k ∧ ∃ h1' : 1 < s.size, ((s[1].toNat : Int) == 0) = false) := by
      by_cases hk0 : k = 0
      · left; omega
      · right
        have h1 : 1 < s.size := by omega
        refine ⟨by omega, h1, ?_⟩
        rw [hhead h1] at hz
        rw [beq_eq_false_iff_ne]
        intro e
        apply hz
        exact ⟨by omega, UInt8.toNat_inj.1 (by simpa using e)⟩
    show Calls _ _ _ _ fun e w' => e = .returned (rnV (if 9223372036854775808 ≤ vOf s k then none else _)) ∧ _
    by_cases hv : 9223372036854775808 ≤ vOf s k
    · rw [if_pos hv]; exact rn_over s w hs k h0 he hk (by omega) (by omega) hz2 (by omega)
    · rw [if_neg hv]
      refine (rn_yes s w hs k _ h0 he hk (by omega) (by omega) hz2 (by omega) hb).mono ?_
      rintro e w' ⟨rfl, hw⟩
      refine ⟨?_, hw⟩
      rw [drop1]
      by_cases h128 : 128 ≤ (s[0]'h0).toNat
      · simp [rnV, vOf, h128]
      · simp [rnV, vOf, h128]
  · have e0 : s.data.toList = [] := List.eq_nil_of_length_eq_zero (by rw [← Lib.size_eq]; omega)
    have he : s.toList.isEmpty = true := by rw [Lib.toList_data, e0]; rfl
    rw [e0]
    exact rn_A s w he

end Go.Proofs.YtlkllcnnnndllaaGreatDoor

/- What sap.Num answers, for every number of 64 bits: its bytes. -/
namespace Go.Proofs.YtlkllcnnnndllaaGreatDoor
open Go.RowKit

theorem small_len (x : Nat) (h0 : x ≠ 0) (h : x < 256) : 1 ≤ Lib.bitLen x ∧ Lib.bitLen x ≤ 8 := by
  have h' : ∀ n : Fin 256, n.val ≠ 0 → 1 ≤ Lib.bitLen n.val ∧ Lib.bitLen n.val ≤ 8 := by decide +kernel
  exact h' ⟨x, h⟩ h0
theorem bitLen_cnt (m : Nat) (h : m < 18446744073709551616) : (Lib.bitLen m + 7) / 8 = M.cnt m := by
  unfold M.cnt
  repeat' split
  · subst_vars; decide +kernel
  · have := small_len m (by omega) (by omega); omega
  · have := small_len (m / 256) (by omega) (by omega); rw [Lib.bitLen_shift8 m (by omega) h]; omega
  · have := small_len (m / 65536) (by omega) (by omega); rw [Lib.bitLen_shift16 m (by omega) h]; omega
  · have := small_len (m / 16777216) (by omega) (by omega); rw [Lib.bitLen_shift24 m (by omega) h]; omega
  · have := small_len (m / 4294967296) (by omega) (by omega); rw [Lib.bitLen_shift32 m (by omega) h]; omega
  · have := small_len (m / 1099511627776) (by omega) (by omega); rw [Lib.bitLen_shift40 m (by omega) h]; omega
  · have := small_len (m / 281474976710656) (by omega) (by omega); rw [Lib.bitLen_shift48 m (by omega) h]; omega
  · have := small_len (m / 72057594037927936) (by omega) (by omega); rw [Lib.bitLen_shift56 m (by omega) h]; omega

theorem len64 (m : Nat) (w : World) (h : m < 18446744073709551616) :
    Calls Tryz.prog 72 #[.int .u64 m] w fun e w' => ∃ L : Nat, e = .returned (.int .i64 L) ∧ w' = w ∧ L ≤ 64 ∧ (L + 7) / 8 = M.cnt m := by
  refine (Tryz.bits_Len64 m w (by omega) (by omega)).mono ?_
  rintro e w' ⟨rfl, rfl⟩
  have h8 := M.cnt_le m
  have hb := bitLen_cnt m h
  have e1 : ((m : Int).toNat) = m := by omega
  rw [e1]
  exact ⟨_, rfl, rfl, by omega, hb⟩

def sh (m q : Nat) : Nat := m / 256 ^ q
theorem sh_succ (m q : Nat) : sh m (q + 1) = sh m q / 256 := by unfold sh; rw [Nat.pow_succ, Nat.div_div_eq_div_mul]
theorem sh_zero (m : Nat) : sh m 0 = m := by simp [sh]
theorem sh_le (m q : Nat) : sh m q ≤ m := Nat.div_le_self _ _

theorem arr9 : Tryz.prog.underlying 133 = some (.array 9 5) := by kernel_rfl
theorem slice9 {W : World} (a : Addr) (k : Nat) (hk : k ≤ 8) :
    (Instr.sliceAt 133 (.pointer (some a)) none (some (.int .i64 (1 + (k : Int)))) none).run Tryz.prog W = .ok (.slice (some a) (1 + k) 9) W := by
  have hl : Tryz.prog.arrayLen 133 = 9 := by kernel_rfl
  have he : Tryz.prog.elem 133 = 5 := by kernel_rfl
  have h := run_sliceAt_array_h (P := Tryz.prog) W 133 a (by rw [hl, he]; exact arr9) .i64 (1 + (k : Int)) (by omega) (by rw [hl]; omega)
  rw [h, hl, he, Tryz.sizeOf5]
  have e : (1 + (k : Int)).toNat = 1 + k := by omega
  simp [Result.andThen, slicedAt, e]
  cases a; simp [Addr.add]

theorem mag_nat (m : Nat) : M.mag (m : Int) = m := by unfold M.mag; rw [if_neg (by omega)]; omega

theorem conv9 (w : World) (C : Array Value) (l : List UInt8) (k : Nat) (hl : l.length = 1 + k) (hc : ∀ j (hj : j < l.length), C[j]? = some (.int .u8 (l[j].toNat : Int))) :
    (convert 111 9 (.slice (some ⟨w.heap.size, 0, none⟩) (1 + k) 9)).run Tryz.prog (w.alloc (.cells C 133)) = .ok (.string (M.bs l)) (w.alloc (.cells C 133)) := by
  rw [← hl]
  exact run_convert_bytes_back (P := Tryz.prog) _ 111 9 5 ⟨w.heap.size, 0, none⟩ 9 l Tryz.underlying111 Tryz.underlying5 Tryz.underlying9 (fun j hj => by
    have := World.cell?_alloc_mark w C 133 (0, 0) j
    have e : (⟨w.heap.size, 0, none⟩ : Addr).add j = ⟨w.heap.size, j, none⟩ := by unfold Addr.add; split <;> simp_all
    rw [e, this]; exact hc j hj)

theorem bytesK_get (k m p : Nat) (hp : p < k) : (M.bytesK k m)[p]? = some (UInt8.ofNat (sh m (k - 1 - p) % 256)) := by
  induction k generalizing m p with
  | zero => omega
  | succ k ih =>
    simp only [M.bytesK]
    by_cases h : p < k
    · rw [List.getElem?_append_left (by rw [M.bytesK_length]; exact h), ih _ _ h]
      have e : sh (m / 256) (k - 1 - p) = sh m (k + 1 - 1 - p) := by
        rw [show k + 1 - 1 - p = (k - 1 - p) + 1 by omega]
        unfold sh
        rw [Nat.div_div_eq_div_mul, Nat.pow_succ, Nat.mul_comm]
      rw [e]
    · obtain rfl : p = k := by omega
      rw [List.getElem?_append_right (by rw [M.bytesK_length]; exact Nat.le_refl _), M.bytesK_length]
      simp [sh]

theorem cellsOf (n : Int) (m f k : Nat) (hmag : M.mag n = m) (hmk : M.mark n = f) (hf : f ≤ 128) (hk : M.cnt m = k) (C : Array Value) (hC0 : C[0]? = some (.int .u8 ((f + k : Nat) : Int)))
    (hCp : ∀ p, 0 < p → p ≤ k → C[p]? = some (.int .u8 ((sh m (k - p) % 256 : Nat) : Int))) :
    ∀ j (hj : j < (M.numB n).length), C[j]? = some (.int .u8 ((M.numB n)[j].toNat : Int)) := by
  intro j hj
  have h8 := M.cnt_le m
  have hget : (M.numB n)[j]? = some (M.numB n)[j] := List.getElem?_eq_getElem hj
  rw [M.numB_length, hmag, hk] at hj
  generalize (M.numB n)[j] = x at hget
  unfold M.numB at hget
  rw [hmag, hmk, hk] at hget
  cases j with
  | zero =>
    simp only [List.getElem?_cons_zero, Option.some.injEq] at hget
    rw [hC0, ← hget]
    have e : (UInt8.ofNat (f + k)).toNat = f + k := by simp; omega
    rw [e]
  | succ j =>
    rw [List.getElem?_cons_succ, bytesK_get _ _ _ (by omega)] at hget
    simp only [Option.some.injEq] at hget
    rw [hCp (j + 1) (by omega) (by omega), ← hget]
    have e : (UInt8.ofNat (sh m (k - 1 - j) % 256)).toNat = sh m (k - 1 - j) % 256 := by simp
    rw [e, show k - (j + 1) = k - 1 - j by omega]

set_option maxHeartbeats 800000 in
theorem num_at (n fI : Int) (m f q : Nat) (w : World) (hm : m < 9223372036854775808) (hn : (n = (m : Int) ∧ f = 0 ∧ fI = 0) ∨ (n = -1 - (m : Int) ∧ f = 128 ∧ fI = 128)) (hq : q = f + M.cnt m) (hmag : M.mag n = m) (hmk : M.mark n = f) :
    Calls Tryz.prog 54 #[.int .i64 n] w fun e w' => e = .returned (.string (M.bs (M.numB n))) ∧ Below w.heap.size w w' := by
  have h8 := M.cnt_le m
  have hneg : (-1 : Int) - (-1 - (m : Int)) = m := by omega
  have hor : ∀ L : Nat, (L + 7) / 8 = M.cnt m → bits BinOp.or IntKind.u8 fI (((L : Int) + 7) / 8) = (q : Int) := by
    intro L hL
    have e : ((L : Int) + 7) / 8 = ((M.cnt m : Nat) : Int) := by omega
    have hf : fI = (f : Int) ∧ (f = 0 ∨ f = 128) := by rcases hn with ⟨_, h, h'⟩ | ⟨_, h, h'⟩ <;> simp [h, h']
    rw [e, hf.1, u8_or_nat f (M.cnt m) (by omega) (by omega), hq]
    rcases hf.2 with rfl | rfl
    · simp
    · rw [nat_join 7 128 _ (by decide) (by omega)]
  have Hor : Hid (∀ L : Nat, (L + 7) / 8 = M.cnt m → bits BinOp.or IntKind.u8 fI (((L : Int) + 7) / 8) = (q : Int)) := hor
  have Hce : Hid (∀ C : Array Value, C[0]? = some (.int .u8 (q : Int)) → (∀ p, 0 < p → p ≤ M.cnt m → C[p]? = some (.int .u8 ((sh m (M.cnt m - p) % 256 : Nat) : Int))) →
      ∀ j (hj : j < (M.numB n).length), C[j]? = some (.int .u8 ((M.numB n)[j].toNat : Int))) := fun C h1 h2 =>
    cellsOf n m f (M.cnt m) hmag hmk (by rcases hn with ⟨_, h, _⟩ | ⟨_, h, _⟩ <;> omega) rfl C (by rw [hq] at h1; exact h1) h2
  have Hle : Hid ((M.numB n).length = 1 + M.cnt m) := by show _ = _; rw [M.numB_length, hmag]
  clear hor hmag hmk hq
  generalize M.numB n = out at *
  rcases hn with ⟨rfl, rfl, rfl⟩ | ⟨rfl, rfl, rfl⟩
  all_goals
    go_enter Tryz.func54, Tryz.ntmps54
    go_wp2_with (go_at_call 72; refine (len64 m _ (by omega)).mono ?_)
    rintro e w' ⟨L, rfl, rfl, hL, hcnt⟩
    have hor := Hor.out L hcnt
    have HK : Hid (((L : Int) + 7) / 8 = (M.cnt m : Int)) := by show _ = _; omega
    clear hcnt Hor
    go_wp2
    go_loopw [4, 7] (fun u4 u7 wr => ∃ (i : Nat) (C : Array Value), i ≤ M.cnt m ∧ u7 = .int .i64 i ∧ u4 = .int .u64 (sh m (M.cnt m - i)) ∧ wr = w'.alloc (.cells C 133) ∧ C.size = 9 ∧ C[0]? = some (.int .u8 (q : Int)) ∧ ∀ p, i < p → p ≤ M.cnt m → C[p]? = some (.int .u8 ((sh m (M.cnt m - p) % 256 : Nat) : Int))) (fun _ u7 _ => (intOf u7).toNat)
    case atStart =>
      refine ⟨M.cnt m, _, Nat.le_refl _, by rw [HK.out], by rw [Nat.sub_self, sh_zero], rfl, ?_, ?_, ?_⟩
      · rfl
      · rfl
      · intro p h1 h2; omega
    case round =>
      obtain ⟨i, C, hi, rfl, rfl, rfl, hC9, hC0, hCp⟩ := hrel
      clear hor
      by_cases hlt : 0 < i
      · have hle := sh_le m (M.cnt m - i)
        obtain ⟨v0, hv0⟩ : ∃ v0, C[i]? = some v0 := ⟨C[i]'(by omega), Array.getElem?_eq_getElem (by omega)⟩
        go_wp2
        go_roundw
        case rel =>
          refine ⟨i - 1, C.setIfInBounds i (.int .u8 ((sh m (M.cnt m - i) % 256 : Nat) : Int)), by omega, by go_num, ?_, rfl, ?_, ?_, ?_⟩
          · rw [show M.cnt m - (i - 1) = M.cnt m - i + 1 by omega, sh_succ]; go_num
          · simp [hC9]
          · rw [Array.getElem?_setIfInBounds_ne (by omega)]; exact hC0
          · intro p h1 h2
            by_cases hpi : p = i
            · subst hpi; rw [Array.getElem?_setIfInBounds_self_of_lt (by omega)]
            · rw [Array.getElem?_setIfInBounds_ne (by omega)]; exact hCp p (by omega) h2
        case measure => simp [intOf]; omega
      · obtain rfl : i = 0 := by omega
        have hk := HK.out
        have hsl := slice9 (W := w'.alloc (.cells C 133)) ⟨w'.heap.size, 0, none⟩ (M.cnt m) h8
        have hcv := conv9 w' C out (M.cnt m) Hle.out (Hce.out C hC0 hCp)
        clear hCp hC0 hC9
        go_wp2
        go_ret
        exact ⟨rfl, (Below.refl _ _).alloc (Nat.le_refl _) _⟩

theorem num_any (n : Int) (w : World) (h1 : -9223372036854775808 ≤ n) (h2 : n < 9223372036854775808) :
    Calls Tryz.prog 54 #[.int .i64 n] w fun e w' => e = .returned (.string (M.bs (M.numB n))) ∧ Below w.heap.size w w' := by
  have hm := M.mag_lt n h1 h2
  by_cases hn : n < 0
  · have e1 : M.mark n = 128 := by simp [M.mark, hn]
    have e2 : M.mag n = (-1 - n).toNat := by simp [M.mag, hn]
    exact num_at n 128 (M.mag n) 128 _ w hm (Or.inr ⟨by omega, rfl, rfl⟩) rfl rfl e1
  · have e1 : M.mark n = 0 := by simp [M.mark, hn]
    have e2 : M.mag n = n.toNat := by simp [M.mag, hn]
    exact num_at n 0 (M.mag n) 0 _ w hm (Or.inl ⟨by omega, rfl, rfl⟩) rfl rfl e1

end Go.Proofs.YtlkllcnnnndllaaGreatDoor

/- What sap.ReadText answers, for every text and most. -/
namespace Go.Proofs.YtlkllcnnnndllaaGreatDoor
open Go.RowKit
set_option linter.unusedVariables false

def rtV : Option (List UInt8 × List UInt8) → Value
  | none => .tuple #[.string ⟨#[]⟩, .string ⟨#[]⟩, .bool false]
  | some (t, r) => .tuple #[.string (M.bs t), .string (M.bs r), .bool true]

set_option maxHeartbeats 400000 in
theorem rt_A (s : ByteArray) (most : Int) (w : World) (hs : s.size ≤ maxLen) (hN : M.readNum s.data.toList = none) :
    Calls Tryz.prog 97 #[.string s, .int .i64 most] w fun e w' => e = .returned (rtV none) ∧ ∃ n, w' = w.drewN n := by
  have hc := readNum_any s w hs
  rw [hN] at hc
  have HC : Hid (Calls Tryz.prog 87 #[.string s] w fun e w' => e = .returned (rnV none) ∧ ∃ n, w' = w.drewN n) := hc
  clear hc hN
  go_enter Tryz.func97, Tryz.ntmps97
  go_wp2_with (go_at_call 87; refine HC.out.mono ?_)
  rintro e w' ⟨rfl, nq, rfl⟩
  unfold rnV
  go_wp2
  go_ret3
  exact ⟨rfl, nq, rfl⟩

set_option maxHeartbeats 400000 in
theorem rt_B (s : ByteArray) (most n : Int) (r : List UInt8) (w : World) (hs : s.size ≤ maxLen) (hr : r.length ≤ maxLen) (hN : M.readNum s.data.toList = some (n, r))
    (hb1 : -9223372036854775808 ≤ n) (hb2 : n < 9223372036854775808) (hno : n < 0 ∨ (0 ≤ n ∧ most < n) ∨ (0 ≤ n ∧ n ≤ most ∧ (r.length : Int) < n)) :
    Calls Tryz.prog 97 #[.string s, .int .i64 most] w fun e w' => e = .returned (rtV none) ∧ ∃ n, w' = w.drewN n := by
  have hc := readNum_any s w hs
  rw [hN] at hc
  have HC : Hid (Calls Tryz.prog 87 #[.string s] w fun e w' => e = .returned (rnV (some (n, r))) ∧ ∃ n, w' = w.drewN n) := hc
  clear hc hN
  have hsz := M.bs_size r
  unfold maxLen at hs hr
  rcases hno with h | ⟨h, h'⟩ | ⟨h, h', h''⟩
  all_goals
    go_enter Tryz.func97, Tryz.ntmps97
    go_wp2_with (go_at_call 87; refine HC.out.mono ?_)
    rintro e w' ⟨rfl, nq, rfl⟩
    unfold rnV
    go_wp2
    go_ret3
    exact ⟨rfl, nq, rfl⟩

set_option maxHeartbeats 400000 in
theorem rt_C (s : ByteArray) (most : Int) (n : Nat) (r : List UInt8) (w : World) (hs : s.size ≤ maxLen) (hr : r.length ≤ maxLen) (hN : M.readNum s.data.toList = some ((n : Int), r))
    (h1 : (n : Int) ≤ most) (h2 : n ≤ r.length) :
    Calls Tryz.prog 97 #[.string s, .int .i64 most] w fun e w' => e = .returned (.tuple #[.string ((M.bs r).extract 0 n), .string ((M.bs r).extract n r.length), .bool true]) ∧ ∃ n, w' = w.drewN n := by
  have hc := readNum_any s w hs
  rw [hN] at hc
  have HC : Hid (Calls Tryz.prog 87 #[.string s] w fun e w' => e = .returned (rnV (some (n, r))) ∧ ∃ n, w' = w.drewN n) := hc
  clear hc hN
  have hsz := M.bs_size r
  unfold maxLen at hs hr
  go_enter Tryz.func97, Tryz.ntmps97
  go_wp2_with (go_at_call 87; refine HC.out.mono ?_)
  rintro e w' ⟨rfl, nq, rfl⟩
  unfold rnV
  go_wp2
  go_quiet (fail)
  go_wp2
  go_ret3
  exact ⟨rfl, _, World.drewN_drewN ..⟩

theorem extract_bs (r : List UInt8) (a b : Nat) : (M.bs r).extract a b = M.bs ((r.drop a).take (b - a)) := by
  rw [Lib.extract_eq, M.bs_toList]; rfl

theorem readText_any (s : ByteArray) (most : Int) (w : World) (hs : s.size ≤ maxLen) :
    Calls Tryz.prog 97 #[.string s, .int .i64 most] w fun e w' => e = .returned (rtV (M.readText s.data.toList most)) ∧ ∃ n, w' = w.drewN n := by
  cases hN : M.readNum s.data.toList with
  | none =>
    have e : M.readText s.data.toList most = none := by unfold M.readText; rw [hN]
    rw [e]; exact rt_A s most w hs hN
  | some x =>
    obtain ⟨n, r⟩ := x
    obtain ⟨e1, hb1, hb2⟩ := M.readNum_some _ _ _ hN
    have hr : r.length ≤ maxLen := by
      have := congrArg List.length e1
      rw [List.length_append, ← Lib.size_eq] at this
      omega
    by_cases hc : n < 0 ∨ most < n ∨ (r.length : Int) < n
    · have e : M.readText s.data.toList most = none := by unfold M.readText; rw [hN]; simp only; rw [if_pos hc]
      rw [e]; exact rt_B s most n r w hs hr hN hb1 hb2 (by omega)
    · have e : M.readText s.data.toList most = some (r.take n.toNat, r.drop n.toNat) := by unfold M.readText; rw [hN]; simp only; rw [if_neg hc]
      rw [e]
      obtain ⟨k, rfl⟩ := Int.eq_ofNat_of_zero_le (show 0 ≤ n by omega)
      refine (rt_C s most k r w hs hr hN (by omega) (by omega)).mono ?_
      rintro e w' ⟨rfl, hw⟩
      refine ⟨?_, hw⟩
      rw [extract_bs, extract_bs]
      simp only [rtV, List.drop_zero, Nat.sub_zero, Int.toNat_natCast]
      rw [List.take_of_length_le (l := r.drop k) (by simp)]

end Go.Proofs.YtlkllcnnnndllaaGreatDoor

/- What sap.Row answers, for every row of texts: its bytes (as long as they are at most 2^47). -/
namespace Go.Proofs.YtlkllcnnnndllaaGreatDoor
open Go.RowKit
set_option linter.unusedVariables false

/-- a value that is the texts l, in memory below block B -/
def Strs (B : Nat) (w : World) (v : Value) (l : List (List UInt8)) : Prop :=
  (l = [] ∧ ∃ a c, v = .slice a 0 c) ∨
  ∃ b off cap, v = .slice (some ⟨b, off, none⟩) l.length cap ∧ b < B ∧ ∀ i t, l[i]? = some t → w.cell? ⟨b, off + i, none⟩ = some (.string (M.bs t))
theorem Strs.below {B B' : Nat} {w w' : World} {v : Value} {l : List (List UInt8)} (h : Strs B w v l) (hb : Below B w w') (hB : B ≤ B') : Strs B' w' v l := by
  rcases h with h | ⟨b, off, cap, h1, h2, h3⟩
  · exact Or.inl h
  · exact Or.inr ⟨b, off, cap, h1, by omega, fun i t ht => by rw [hb.cell (p := ⟨b, off + i, none⟩) h2]; exact h3 i t ht⟩

theorem ownsRow_below {B : Nat} {e : TypeId} {v : Value} {n : Nat} {xs : List Value} {w w' : World} (h : w.ownsRow B e 1 v n xs) (hb : Below w.heap.size w w') : w'.ownsRow B e 1 v n xs := by
  obtain ⟨h0, h1 | ⟨g, cap, cur, h1, h2, h3, h4⟩⟩ := h
  · exact ⟨h0, Or.inl h1⟩
  · have hg : g < w.heap.size := by
      rcases Nat.lt_or_ge g w.heap.size with h | h
      · exact h
      · rw [Array.getElem?_eq_none h] at h3; simp at h3
    exact ⟨h0, Or.inr ⟨g, cap, cur, h1, h2, by rw [hb.block g hg]; exact h3, h4⟩⟩
theorem builder_below {T e : TypeId} {B b : Nat} {bs : List Value} {w w' : World} (h : Lib.IsBuilder T e B b bs w) (hb : Below w.heap.size w w') : Lib.IsBuilder T e B b bs w' := by
  have go : ∀ p, Lib.BuilderAt T e B b p bs w → Lib.BuilderAt T e B b p bs w' := by
    intro p h
    have hlt := h.lt
    obtain ⟨h1, v, h2, h3, h4⟩ := h
    exact ⟨h1, v, by rw [hb.block b hlt]; exact h2, ownsRow_below h3 hb, h4⟩
  rcases h with h | h
  · exact Or.inl (go _ h)
  · exact Or.inr (go _ h)

theorem isB_lt {T e : TypeId} {B b : Nat} {bs : List Value} {w : World} (h : Lib.IsBuilder T e B b bs w) : b < w.heap.size := by
  rcases h with h | h
  · exact h.lt
  · exact h.lt

theorem writeString (B b : Nat) (pre : List UInt8) (t : List UInt8) (w : World) (h : Lib.IsBuilder 146 5 B b (Lib.byteCells pre) w) (hlen : pre.length + t.length ≤ 140737488355328) (hBw : B ≤ w.heap.size) :
    Calls Tryz.prog 83 #[.pointer (some ⟨b, 0, none⟩), .string (M.bs t)] w fun e w' => e = .returned (.tuple #[.int .i64 t.length, .nilIface]) ∧ Lib.IsBuilder 146 5 B b (Lib.byteCells (pre ++ t)) w' ∧ Below B w w' := by
  refine (Tryz.Builder_WriteString B b (Lib.byteCells pre) (M.bs t) w h (by rw [Lib.byteCells_length, M.bs_size]; exact hlen) hBw).mono ?_
  rintro e w' ⟨rfl, h1, h2⟩
  refine ⟨by rw [M.bs_size], Or.inr ?_, h2⟩
  rw [Lib.byteCells_append]
  exact h1

/-- the bytes that are written when k texts are -/
def pre (l : List (List UInt8)) (k : Nat) : List UInt8 := M.numB l.length ++ M.textsB (l.take k)
theorem pre_zero (l : List (List UInt8)) : pre l 0 = M.numB l.length := by simp [pre, M.textsB]
theorem pre_all (l : List (List UInt8)) : pre l l.length = M.rowB l := by simp [pre, M.rowB]
theorem pre_succ (l : List (List UInt8)) (k : Nat) (t : List UInt8) (h : l[k]? = some t) : pre l (k + 1) = (pre l k ++ M.numB t.length) ++ t := by
  unfold pre
  rw [List.take_add_one, h]
  simp [M.textsB, M.textB]
theorem pre_le (l : List (List UInt8)) (k : Nat) : (pre l k).length ≤ (M.rowB l).length := by
  have e : M.textsB l = M.textsB (l.take k) ++ M.textsB (l.drop k) := by
    unfold M.textsB
    rw [← List.flatten_append, ← List.map_append, List.take_append_drop]
  unfold pre M.rowB
  rw [e]
  simp only [List.length_append]
  omega

set_option maxHeartbeats 800000 in
theorem row_ne (b off cap : Nat) (l : List (List UInt8)) (w : World) (hb : b < w.heap.size) (hc : ∀ i t, l[i]? = some t → w.cell? ⟨b, off + i, none⟩ = some (.string (M.bs t)))
    (hlen : (M.rowB l).length ≤ 140737488355328) (hn : l.length ≤ 140737488355328) :
    Calls Tryz.prog 68 #[.slice (some ⟨b, off, none⟩) l.length cap] w fun e w' => e = .returned (.string (M.bs (M.rowB l))) ∧ Below w.heap.size w w' := by
  have Hc : Hid (∀ i t, l[i]? = some t → w.cell? ⟨b, off + i, none⟩ = some (.string (M.bs t))) := hc
  clear hc
  have hfr := Lib.fresh_isBuilder 146 5 w
  go_enter Tryz.func68, Tryz.ntmps68
  go_wp2_with (go_at_call 54; refine (num_any _ _ (by omega) (by omega)).mono ?_)
  rintro e w1 ⟨rfl, hb1⟩
  have hbd1 : Lib.IsBuilder 146 5 w.heap.size w.heap.size (Lib.byteCells []) w1 := builder_below hfr hb1
  have hbe1 : Below w.heap.size w w1 := ((Below.refl _ w).alloc (Nat.le_refl _) _).trans (hb1.mono (by simp))
  clear hfr hb1
  have HB : Hid (Below w.heap.size w w1) := hbe1
  have hsz1 : w.heap.size ≤ w1.heap.size := hbe1.size
  clear hbe1
  have hp0 := pre_le l 0
  rw [pre_zero] at hp0
  go_wp2_with (go_at_call 83; refine (writeString _ _ [] _ _ hbd1 (by simp; omega) hsz1).mono ?_)
  rintro e w2 ⟨rfl, hbd2, hb2⟩
  have hbe2 : Below w.heap.size w w2 := HB.out.trans hb2
  have HB2 : Hid (Below w.heap.size w w2) := hbe2
  have HD2 : Hid (Lib.IsBuilder 146 5 w.heap.size w.heap.size (Lib.byteCells (pre l 0)) w2) := by
    show Lib.IsBuilder _ _ _ _ _ _
    rw [pre_zero]; exact hbd2
  clear HB hbd1 hb2 hbe2 hbd2 hsz1 hp0
  go_wp2
  go_loopw [5, 12] (fun u5 u12 wr => ∃ k : Nat, k ≤ l.length ∧ u12 = .int .i64 k ∧ Lib.IsBuilder 146 5 w.heap.size w.heap.size (Lib.byteCells (pre l k)) wr ∧ Below w.heap.size w wr) (fun _ u12 _ => l.length - (intOf u12).toNat)
  case atStart => exact ⟨0, Nat.zero_le _, rfl, HD2.out, HB2.out⟩
  case round =>
    obtain ⟨k, hk, rfl, hbd, hbe⟩ := hrel
    clear HD2 HB2
    have hsz := hbe.size
    have HBD : Hid (Lib.IsBuilder 146 5 w.heap.size w.heap.size (Lib.byteCells (pre l k)) wr) := hbd
    have HBE : Hid (Below w.heap.size w wr) := hbe
    clear hbd hbe
    by_cases hlt : k < l.length
    · obtain ⟨t, ht⟩ : ∃ t, l[k]? = some t := ⟨l[k], List.getElem?_eq_getElem hlt⟩
      have hcell : wr.cell? ⟨b, off + k, none⟩ = some (.string (M.bs t)) := by
        rw [HBE.out.cell (p := ⟨b, off + k, none⟩) hb]; exact Hc.out k t ht
      have hps := pre_succ l k t ht
      have hpl := pre_le l (k + 1)
      rw [hps] at hpl
      have HPS : Hid (pre l (k + 1) = (pre l k ++ M.numB t.length) ++ t) := hps
      simp only [List.length_append] at hpl
      clear hps ht
      have hbsz := M.bs_size t
      go_wp2_with (go_at_call 54; refine (num_any _ _ (by omega) (by omega)).mono ?_)
      rintro e w3 ⟨rfl, hb3⟩
      have hbd3 := builder_below HBD.out hb3
      have HB3 : Hid (Below w.heap.size wr w3) := hb3.mono hsz
      have hsz3 : w.heap.size ≤ w3.heap.size := Nat.le_trans hsz hb3.size
      clear hb3
      go_wp2_with (go_at_call 83; refine (writeString _ _ _ _ _ hbd3 (by omega) hsz3).mono ?_)
      rintro e w4 ⟨rfl, hbd4, hb4⟩
      have hsz4 : w.heap.size ≤ w4.heap.size := Nat.le_trans hsz3 hb4.size
      have HB4 : Hid (Below w.heap.size wr w4) := HB3.out.trans hb4
      clear hb4 HB3 hbd3
      go_wp2_with (go_at_call 83; refine (writeString _ _ _ _ _ hbd4 (by rw [List.length_append]; omega) hsz4).mono ?_)
      rintro e w5 ⟨rfl, hbd5, hb5⟩
      have HD5 : Hid (Lib.IsBuilder 146 5 w.heap.size w.heap.size (Lib.byteCells (pre l (k + 1))) w5) := by
        show Lib.IsBuilder _ _ _ _ _ _
        rw [HPS.out]; exact hbd5
      have HB5 : Hid (Below w.heap.size w w5) := HBE.out.trans (HB4.out.trans hb5)
      clear hbd5 hb5 HB4 hbd4
      go_wp2
      go_roundw
      case rel => exact ⟨k + 1, by omega, by go_num, HD5.out, HB5.out⟩
      case measure => simp [intOf]; omega
    · obtain rfl : k = l.length := by omega
      go_wp2_with (go_at_call 84; refine (Tryz.Builder_String_any _ _ _ _ HBD.out hsz).mono ?_)
      rintro e w3 ⟨rfl, hb3⟩
      have HB3 : Hid (Below w.heap.size w w3) := HBE.out.trans hb3
      clear hb3
      go_wp2
      go_ret
      exact ⟨by rw [← pre_all]; rfl, HB3.out⟩

set_option maxHeartbeats 800000 in
theorem row_nil (a : Option Addr) (cap : Nat) (w : World) :
    Calls Tryz.prog 68 #[.slice a 0 cap] w fun e w' => e = .returned (.string (M.bs (M.rowB []))) ∧ Below w.heap.size w w' := by
  have hfr := Lib.fresh_isBuilder 146 5 w
  go_enter Tryz.func68, Tryz.ntmps68
  go_wp2_with (go_at_call 54; refine (num_any _ _ (by omega) (by omega)).mono ?_)
  rintro e w1 ⟨rfl, hb1⟩
  have hbd1 : Lib.IsBuilder 146 5 w.heap.size w.heap.size (Lib.byteCells []) w1 := builder_below hfr hb1
  have hbe1 : Below w.heap.size w w1 := ((Below.refl _ w).alloc (Nat.le_refl _) _).trans (hb1.mono (by simp))
  clear hfr hb1
  have HB : Hid (Below w.heap.size w w1) := hbe1
  have hsz1 : w.heap.size ≤ w1.heap.size := hbe1.size
  clear hbe1
  go_wp2_with (go_at_call 83; refine (writeString _ _ [] _ _ hbd1 (by have := M.numB_len 0; simp; omega) hsz1).mono ?_)
  rintro e w2 ⟨rfl, hbd2, hb2⟩
  have hbe2 : Below w.heap.size w w2 := HB.out.trans hb2
  have hsz2 := hbe2.size
  have HB2 : Hid (Below w.heap.size w w2) := hbe2
  have HD2 : Hid (Lib.IsBuilder 146 5 w.heap.size w.heap.size (Lib.byteCells (M.rowB [])) w2) := hbd2
  clear HB hbd1 hb2 hbe2 hbd2 hsz1
  go_wp2
  go_loopw [5, 12] (fun u5 u12 wr => u12 = .int .i64 0 ∧ wr = w2) (fun _ u12 _ => 0)
  case atStart => exact ⟨rfl, rfl⟩
  case round =>
    obtain ⟨rfl, rfl⟩ := hrel
    go_wp2_with (go_at_call 84; refine (Tryz.Builder_String_any _ _ _ _ HD2.out hsz2).mono ?_)
    rintro e w3 ⟨rfl, hb3⟩
    have HB3 : Hid (Below w.heap.size w w3) := HB2.out.trans hb3
    clear hb3
    go_wp2
    go_ret
    exact ⟨rfl, HB3.out⟩

theorem row_any (v : Value) (l : List (List UInt8)) (w : World) (hv : Strs w.heap.size w v l) (hlen : (M.rowB l).length ≤ 140737488355328) (hn : l.length ≤ 140737488355328) :
    Calls Tryz.prog 68 #[v] w fun e w' => e = .returned (.string (M.bs (M.rowB l))) ∧ Below w.heap.size w w' := by
  rcases hv with ⟨rfl, a, c, rfl⟩ | ⟨b, off, cap, rfl, hb, hc⟩
  · exact row_nil a c w
  · exact row_ne b off cap l w hb hc hlen hn

end Go.Proofs.YtlkllcnnnndllaaGreatDoor

/- What sap.Text, apiaryref01.Same and awake answer. -/
namespace Go.Proofs.YtlkllcnnnndllaaGreatDoor
open Go.RowKit
set_option linter.unusedVariables false

theorem bs_append (a b : List UInt8) : M.bs a ++ M.bs b = M.bs (a ++ b) := by
  apply ByteArray.ext
  simp [M.bs]

theorem Strs.shape {B : Nat} {w : World} {v : Value} {l : List (List UInt8)} (h : Strs B w v l) : ∃ a c, v = .slice a l.length c := by
  rcases h with ⟨rfl, a, c, rfl⟩ | ⟨b, off, cap, rfl, _, _⟩
  · exact ⟨a, c, rfl⟩
  · exact ⟨_, _, rfl⟩

end Go.Proofs.YtlkllcnnnndllaaGreatDoor

/- What sap.ReadRow answers, for every text (where it or most is at most 2^43). -/
namespace Go.Proofs.YtlkllcnnnndllaaGreatDoor
open Go.RowKit
set_option linter.unusedVariables false

theorem readNum_l (r : List UInt8) (w : World) (hs : r.length ≤ maxLen) :
    Calls Tryz.prog 87 #[.string (M.bs r)] w fun e w' => e = .returned (rnV (M.readNum r)) ∧ ∃ n, w' = w.drewN n := by
  have h := readNum_any (M.bs r) w (by rw [M.bs_size]; exact hs)
  rwa [M.bs_toList] at h
theorem readText_l (r : List UInt8) (most : Int) (w : World) (hs : r.length ≤ maxLen) :
    Calls Tryz.prog 97 #[.string (M.bs r), .int .i64 most] w fun e w' => e = .returned (rtV (M.readText r most)) ∧ ∃ n, w' = w.drewN n := by
  have h := readText_any (M.bs r) most w (by rw [M.bs_size]; exact hs)
  rwa [M.bs_toList] at h

def encS (t : List UInt8) : Value := .string (M.bs t)
/-- what a reading of a row leaves -/
def RR (w : World) (o : Option (List (List UInt8) × List UInt8)) (e : Ending) (w' : World) : Prop :=
  match o with
  | none => e = .returned (.tuple #[.slice none 0 0, .string ⟨#[]⟩, .bool false]) ∧ Below w.heap.size w w'
  | some (l, r) => ∃ v, e = .returned (.tuple #[v, .string (M.bs r), .bool true]) ∧ Strs w'.heap.size w' v l ∧ Below w.heap.size w w'

/-- texts that were read ahead of others -/
def more (ks : List (List UInt8)) (o : Option (List (List UInt8) × List UInt8)) : Option (List (List UInt8) × List UInt8) :=
  match o with
  | none => none
  | some (l, q) => some (ks ++ l, q)
theorem more_nil (o : Option (List (List UInt8) × List UInt8)) : more [] o = o := by
  cases o with
  | none => rfl
  | some x => obtain ⟨l, q⟩ := x; rfl
theorem more_none (ks : List (List UInt8)) (k : Nat) (r : List UInt8) (h : M.readText r r.length = none) : more ks (M.readTexts (k + 1) r) = none := by
  simp only [M.readTexts, h, more]
theorem more_some (ks : List (List UInt8)) (k : Nat) (r t q : List UInt8) (h : M.readText r r.length = some (t, q)) : more ks (M.readTexts (k + 1) r) = more (ks ++ [t]) (M.readTexts k q) := by
  simp only [M.readTexts, h]
  cases M.readTexts k q with
  | none => rfl
  | some x => obtain ⟨l, q'⟩ := x; simp [more]
theorem readText_shorter (r t q : List UInt8) (most : Int) (h : M.readText r most = some (t, q)) : q.length + 1 ≤ r.length ∧ t.length ≤ r.length := by
  have e := (M.readText_some _ _ _ _ h).1
  have e2 := congrArg List.length e
  unfold M.textB at e2
  simp only [List.length_append, M.numB_length] at e2
  omega

theorem strs_of_owns {N : Nat} {w : World} {v : Value} {ks : List (List UInt8)} (h : w.ownsRow N 9 1 v ks.length (ks.map encS)) : Strs w.heap.size w v ks := by
  obtain ⟨h0, ⟨h1, h2⟩ | ⟨g, cap, cur, h1, h2, h3, h4, h5, h6, h7⟩⟩ := h
  · exact Or.inl ⟨List.eq_nil_of_length_eq_zero h2, none, 0, h1⟩
  · right
    have hg : g < w.heap.size := by
      rcases Nat.lt_or_ge g w.heap.size with h | h
      · exact h
      · rw [Array.getElem?_eq_none h] at h3; simp at h3
    refine ⟨g, 0, cap, h1, hg, ?_⟩
    intro i t ht
    have hi : i < ks.length := (List.getElem?_eq_some_iff.1 ht).1
    rw [Lib.cell_of_heap h3, Nat.zero_add]
    have h8 : (cur.toList.take (ks.length * 1))[i]? = (ks.map encS)[i]? := by rw [h7]
    rw [List.getElem?_take_of_lt (by omega), List.getElem?_map, ht] at h8
    simpa [encS] using h8

set_option maxHeartbeats 1000000 in
theorem rr_loop (s r : List UInt8) (most : Int) (n : Nat) (w : World) (hs : s.length ≤ 4611686018427387904) (hroom : most ≤ 8796093022208 ∨ s.length ≤ 8796093022208) (hr : r.length ≤ s.length) (hN : M.readNum s = some ((n : Int), r)) (hb2 : (n : Int) < 9223372036854775808)
    (h1 : (n : Int) ≤ most) :
    Calls Tryz.prog 86 #[.string (M.bs s), .int .i64 most] w fun e w' => RR w (M.readTexts n r) e w' := by
  have hc := readNum_l s w (by unfold maxLen; omega)
  rw [hN] at hc
  have HC : Hid (Calls Tryz.prog 87 #[.string (M.bs s)] w fun e w' => e = .returned (rnV (some (n, r))) ∧ ∃ n, w' = w.drewN n) := hc
  clear hc hN
  have HRM : Hid (most ≤ 8796093022208 ∨ s.length ≤ 8796093022208) := hroom
  clear hroom
  generalize hX : M.readTexts n r = X
  have HX : Hid (M.readTexts n r = X) := hX
  clear hX
  go_enter Tryz.func86, Tryz.ntmps86
  go_wp2_with (go_at_call 87; refine HC.out.mono ?_)
  rintro e w' ⟨rfl, nq, rfl⟩
  unfold rnV
  clear HC hb2
  go_wp2_with fail
  go_loopw [8, 10, 32] (fun u8 u10 u32 wr => ∃ (k : Nat) (ks : List (List UInt8)) (q : List UInt8), k ≤ n ∧ u32 = .int .i64 k ∧ u8 = .string (M.bs q) ∧ X = more ks (M.readTexts (n - k) q) ∧ ks.length = k ∧ k + q.length ≤ s.length ∧ wr.ownsRow w.heap.size 9 1 u10 k (ks.map encS) ∧ Below w.heap.size w wr) (fun _ _ u32 _ => n - (intOf u32).toNat)
  case atStart => exact ⟨0, [], r, Nat.zero_le _, rfl, rfl, by rw [more_nil, Nat.sub_zero]; exact HX.out.symm, rfl, by omega, ⟨rfl, Or.inl ⟨rfl, rfl⟩⟩, below_drewN (Below.refl _ _) _⟩
  case round =>
    obtain ⟨k, ks, q, hk, rfl, rfl, hX, hkl, hkq, hown, hbe⟩ := hrel
    have HX2 : Hid (X = more ks (M.readTexts (n - k) q)) := hX
    have HOW : Hid (wr.ownsRow w.heap.size 9 1 u10 k (ks.map encS)) := hown
    have HBE : Hid (Below w.heap.size w wr) := hbe
    have HKL : Hid (ks.length = k) := hkl
    have hsz := hbe.size
    clear hX hown hbe hkl HX
    by_cases hlt : k < n
    · have hbq := M.bs_size q
      have hct := readText_l q q.length wr (by unfold maxLen; omega)
      obtain ⟨d, hd⟩ : ∃ d, n - k = d + 1 := ⟨n - k - 1, by omega⟩
      have hX3 := HX2.out
      rw [hd] at hX3
      cases hT : M.readText q q.length with
      | none =>
        rw [hT] at hct
        rw [more_none ks d q hT] at hX3
        have HCT : Hid (Calls Tryz.prog 97 #[.string (M.bs q), .int .i64 q.length] wr fun e w' => e = .returned (rtV none) ∧ ∃ n, w' = wr.drewN n) := hct
        have HX4 : Hid (X = none) := hX3
        clear hct hX3 hd HX2 hT
        go_wp2_with (go_at_call 97; refine HCT.out.mono ?_)
        rintro e w' ⟨rfl, nq2, rfl⟩
        unfold rtV
        go_wp2_with fail
        go_ret3
        rw [HX4.out]
        exact ⟨rfl, below_drewN HBE.out _⟩
      | some x =>
        obtain ⟨t, q2⟩ := x
        rw [hT] at hct
        have hsh := readText_shorter _ _ _ _ hT
        rw [more_some ks d q t q2 hT] at hX3
        have HCT : Hid (Calls Tryz.prog 97 #[.string (M.bs q), .int .i64 q.length] wr fun e w' => e = .returned (rtV (some (t, q2))) ∧ ∃ n, w' = wr.drewN n) := hct
        have HX4 : Hid (X = more (ks ++ [t]) (M.readTexts d q2)) := hX3
        have HD : Hid (n - k = d + 1) := hd
        clear hct hX3 hd HX2 hT
        go_wp2_with (go_at_call 97; refine HCT.out.mono ?_)
        rintro e w' ⟨rfl, nq2, rfl⟩
        unfold rtV
        clear HCT
        obtain ⟨i0, hi, hz0, hz1, hz2⟩ := info_parts (show (Tryz.prog.info? 9).map (fun i => (i.zero, i.size, i.bytes)) = some (some (.string ByteArray.empty), 1, 16) by kernel_rfl)
        have HOW2 : Hid (((wr.drewN nq2).alloc (.cells #[.string (M.bs t)] 9)).ownsRow w.heap.size 9 1 u10 k (ks.map encS)) := World.ownsRow.alloc (w := wr.drewN nq2) HOW.out _
        have HBE2 : Hid (Below w.heap.size w ((wr.drewN nq2).alloc (.cells #[.string (M.bs t)] 9))) := (below_drewN HBE.out nq2).alloc hsz _
        have HLT : Hid (∀ q, u10.ownBlock = some q → w.heap.size ≤ q) := fun q hq => (HOW.out.lt q hq).1
        clear HOW HBE
        go_wp2_with (at_builtin; refine wpList_append_own _ rfl _ _ 27 rfl w.heap.size 9 i0 (.string ByteArray.empty) 1 16 Tryz.underlying27 hi hz0 hz1 hz2 rfl (by decide) _ _ _ rfl HOW2.out ⟨wr.heap.size, 0, none⟩ 1 1 [.string (M.bs t)] rfl rfl (cell_one_new _ _ _) (fun x hx => by simp at hx; subst hx; rfl) (by unfold maxLen; omega) (by have := HRM.out; omega) (by simp; omega) ?_)
        intro v' w5 hown5 hgrow5 _
        have HB5 : Hid (Below w.heap.size w w5) := HBE2.out.grown hgrow5 (by simp; omega) (fun q hq => HLT.out q hq)
        have HO5 : Hid (w5.ownsRow w.heap.size 9 1 v' (k + 1) ((ks ++ [t]).map encS)) := by
          show World.ownsRow _ _ _ _ _ _ _
          rw [List.map_append]; exact hown5
        clear hown5 hgrow5 hi hz0 hz1 hz2 HBE2 HOW2 HLT
        go_wp2_with fail
        exact ⟨⟨k + 1, ks ++ [t], q2, by omega, by go_num, rfl, by rw [show n - (k + 1) = d by have := HD.out; omega]; exact HX4.out, by rw [List.length_append, HKL.out]; rfl, by omega, HO5.out, HB5.out⟩, by simp [intOf]; omega⟩
    · obtain rfl : k = n := by omega
      go_wp2_with fail
      go_ret3
      have e := HX2.out
      rw [Nat.sub_self] at e
      have e2 : X = some (ks, q) := by rw [e]; simp [more, M.readTexts]
      rw [e2]
      refine ⟨_, rfl, ?_, HBE.out⟩
      have h := HOW.out
      rw [← HKL.out] at h
      exact strs_of_owns h

set_option maxHeartbeats 400000 in
theorem rr_A (s : List UInt8) (most : Int) (w : World) (hs : s.length ≤ maxLen) (hN : M.readNum s = none) :
    Calls Tryz.prog 86 #[.string (M.bs s), .int .i64 most] w fun e w' => RR w none e w' := by
  have hc := readNum_l s w hs
  rw [hN] at hc
  have HC : Hid (Calls Tryz.prog 87 #[.string (M.bs s)] w fun e w' => e = .returned (rnV none) ∧ ∃ n, w' = w.drewN n) := hc
  clear hc hN
  go_enter Tryz.func86, Tryz.ntmps86
  go_wp2_with (go_at_call 87; refine HC.out.mono ?_)
  rintro e w' ⟨rfl, nq, rfl⟩
  unfold rnV
  go_wp2_with fail
  go_ret3
  exact ⟨rfl, below_drewN (Below.refl _ _) _⟩

set_option maxHeartbeats 400000 in
theorem rr_B (s r : List UInt8) (most n : Int) (w : World) (hs : s.length ≤ maxLen) (hN : M.readNum s = some (n, r)) (hno : n < 0 ∨ (0 ≤ n ∧ most < n)) :
    Calls Tryz.prog 86 #[.string (M.bs s), .int .i64 most] w fun e w' => RR w none e w' := by
  have hc := readNum_l s w hs
  rw [hN] at hc
  have HC : Hid (Calls Tryz.prog 87 #[.string (M.bs s)] w fun e w' => e = .returned (rnV (some (n, r))) ∧ ∃ n, w' = w.drewN n) := hc
  clear hc hN
  rcases hno with h | ⟨h, h'⟩
  all_goals
    go_enter Tryz.func86, Tryz.ntmps86
    go_wp2_with (go_at_call 87; refine HC.out.mono ?_)
    rintro e w' ⟨rfl, nq, rfl⟩
    unfold rnV
    go_wp2_with fail
    go_ret3
    exact ⟨rfl, below_drewN (Below.refl _ _) _⟩

theorem readRow_any (s : List UInt8) (most : Int) (w : World) (hs : s.length ≤ 4611686018427387904) (hroom : most ≤ 8796093022208 ∨ s.length ≤ 8796093022208) :
    Calls Tryz.prog 86 #[.string (M.bs s), .int .i64 most] w fun e w' => RR w (M.readRow s most) e w' := by
  have hs' : s.length ≤ maxLen := by unfold maxLen; omega
  cases hN : M.readNum s with
  | none =>
    have e : M.readRow s most = none := by unfold M.readRow; rw [hN]
    rw [e]; exact rr_A s most w hs' hN
  | some x =>
    obtain ⟨n, r⟩ := x
    obtain ⟨e1, hb1, hb2⟩ := M.readNum_some _ _ _ hN
    have hr : r.length ≤ s.length := by
      have := congrArg List.length e1
      rw [List.length_append] at this
      omega
    by_cases hc : n < 0 ∨ most < n
    · have e : M.readRow s most = none := by unfold M.readRow; rw [hN]; simp only; rw [if_pos hc]
      rw [e]; exact rr_B s r most n w hs' hN (by omega)
    · have e : M.readRow s most = M.readTexts n.toNat r := by unfold M.readRow; rw [hN]; simp only; rw [if_neg hc]
      rw [e]
      obtain ⟨k, rfl⟩ := Int.eq_ofNat_of_zero_le (show 0 ≤ n by omega)
      rw [Int.toNat_natCast]
      exact rr_loop s r most k w hs hroom hr hN hb2 (by omega)

end Go.Proofs.YtlkllcnnnndllaaGreatDoor

/- awake answers true. -/
namespace Go.Proofs.YtlkllcnnnndllaaGreatDoor
open Go.RowKit
set_option linter.unusedVariables false

end Go.Proofs.YtlkllcnnnndllaaGreatDoor

/- The contracts once more, each with the memory that the whole call has left alone: for walks that make many calls. -/
namespace Go.Proofs.YtlkllcnnnndllaaGreatDoor
open Go.RowKit
set_option linter.unusedVariables false

/-- what lay in memory when the call began lies there still -/
def Bl (w0 w : World) : Prop := Below w0.heap.size w0 w
theorem Bl.refl (w : World) : Bl w w := Below.refl _ _
theorem Bl.step {w0 w w' : World} (h : Bl w0 w) (hb : Below w.heap.size w w') : Bl w0 w' := Below.trans h (hb.mono (Below.size h))
theorem Bl.drewN {w0 w : World} (h : Bl w0 w) (n : Nat) : Bl w0 (w.drewN n) := below_drewN h n
theorem Bl.alloc {w0 w : World} (h : Bl w0 w) (o : Obj) : Bl w0 (w.alloc o) := Below.alloc h (Below.size h) o

theorem num_b (n : Int) {w0 w : World} (h : Bl w0 w) (h1 : -9223372036854775808 ≤ n) (h2 : n < 9223372036854775808) :
    Calls Tryz.prog 54 #[.int .i64 n] w fun e w' => e = .returned (.string (M.bs (M.numB n))) ∧ Bl w0 w' := by
  refine (num_any n w h1 h2).mono ?_
  rintro e w' ⟨rfl, hb⟩
  exact ⟨rfl, h.step hb⟩
theorem readNum_b (l : List UInt8) (hl : l.length ≤ maxLen) {w0 w : World} (h : Bl w0 w) :
    Calls Tryz.prog 87 #[.string (M.bs l)] w fun e w' => e = .returned (rnV (M.readNum l)) ∧ Bl w0 w' := by
  refine (readNum_l l w hl).mono ?_
  rintro e w' ⟨rfl, n, rfl⟩
  exact ⟨rfl, h.drewN n⟩
theorem readText_b (l : List UInt8) (most : Int) (hl : l.length ≤ maxLen) {w0 w : World} (h : Bl w0 w) :
    Calls Tryz.prog 97 #[.string (M.bs l), .int .i64 most] w fun e w' => e = .returned (rtV (M.readText l most)) ∧ Bl w0 w' := by
  refine (readText_l l most w hl).mono ?_
  rintro e w' ⟨rfl, n, rfl⟩
  exact ⟨rfl, h.drewN n⟩
theorem readRow_none (l : List UInt8) (most : Int) (hl : l.length ≤ 4611686018427387904) (hroom : most ≤ 8796093022208 ∨ l.length ≤ 8796093022208) (hR : M.readRow l most = none) {w0 w : World} (h : Bl w0 w) :
    Calls Tryz.prog 86 #[.string (M.bs l), .int .i64 most] w fun e w' => e = .returned (.tuple #[.slice none 0 0, .string ⟨#[]⟩, .bool false]) ∧ Bl w0 w' := by
  refine (readRow_any l most w hl hroom).mono ?_
  rw [hR]
  rintro e w' ⟨rfl, hb⟩
  exact ⟨rfl, h.step hb⟩
theorem readRow_yes (l : List UInt8) (most : Int) (hl : l.length ≤ 4611686018427387904) (hroom : most ≤ 8796093022208 ∨ l.length ≤ 8796093022208) (ls : List (List UInt8)) (r : List UInt8) (hR : M.readRow l most = some (ls, r)) {w0 w : World} (h : Bl w0 w) :
    Calls Tryz.prog 86 #[.string (M.bs l), .int .i64 most] w fun e w' => ∃ a c, e = .returned (.tuple #[.slice a ls.length c, .string (M.bs r), .bool true]) ∧ Strs w'.heap.size w' (.slice a ls.length c) ls ∧ Bl w0 w' := by
  refine (readRow_any l most w hl hroom).mono ?_
  rw [hR]
  rintro e w' ⟨v, rfl, hs, hb⟩
  obtain ⟨a, c, rfl⟩ := hs.shape
  exact ⟨a, c, rfl, hs, h.step hb⟩
theorem row_b (v : Value) (l : List (List UInt8)) {w0 w : World} (h : Bl w0 w) (hv : Strs w.heap.size w v l) (hlen : (M.rowB l).length ≤ 140737488355328) (hn : l.length ≤ 140737488355328) :
    Calls Tryz.prog 68 #[v] w fun e w' => e = .returned (.string (M.bs (M.rowB l))) ∧ Bl w0 w' := by
  refine (row_any v l w hv hlen hn).mono ?_
  rintro e w' ⟨rfl, hb⟩
  exact ⟨rfl, h.step hb⟩
theorem rowB_ge (l : List (List UInt8)) : l.length + 1 ≤ (M.rowB l).length := by
  have h : l.length ≤ (M.textsB l).length := by
    induction l with
    | nil => simp
    | cons t l ih =>
      have e : M.textsB (t :: l) = M.textB t ++ M.textsB l := by simp [M.textsB]
      rw [e, List.length_append, M.textB, List.length_append, M.numB_length]
      simp only [List.length_cons]
      omega
  unfold M.rowB
  rw [List.length_append, M.numB_length]
  omega

end Go.Proofs.YtlkllcnnnndllaaGreatDoor

/- Contracts for texts that came in. -/
namespace Go.Proofs.YtlkllcnnnndllaaGreatDoor
open Go.RowKit
set_option linter.unusedVariables false

theorem Strs.bl {w0 w : World} {v : Value} {l : List (List UInt8)} (h : Strs w0.heap.size w0 v l) (hb : Bl w0 w) : Strs w.heap.size w v l := Strs.below h hb (Below.size hb)
theorem row_c (v : Value) (l : List (List UInt8)) {w0 w : World} (h : Bl w0 w) (hv : Strs w0.heap.size w0 v l) (hlen : (M.rowB l).length ≤ 140737488355328) (hn : l.length ≤ 140737488355328) :
    Calls Tryz.prog 68 #[v] w fun e w' => e = .returned (.string (M.bs (M.rowB l))) ∧ Bl w0 w' := row_b v l h (hv.bl h) hlen hn
/-- the bytes of so many texts, each of so many bytes -/
theorem textsB_le (l : List (List UInt8)) (c : Nat) (h : ∀ t ∈ l, t.length ≤ c) : (M.textsB l).length ≤ l.length * (c + 9) := by
  induction l with
  | nil => simp [M.textsB]
  | cons t l ih =>
    have e : M.textsB (t :: l) = M.textB t ++ M.textsB l := by simp [M.textsB]
    have h1 := ih (fun t ht => h t (by simp [ht]))
    have h2 := h t (by simp)
    have h3 := M.numB_len (t.length : Int)
    rw [e, List.length_append, M.textB, List.length_append, List.length_cons, Nat.succ_mul]
    omega
theorem rowB_le (l : List (List UInt8)) (c : Nat) (h : ∀ t ∈ l, t.length ≤ c) : (M.rowB l).length ≤ l.length * (c + 9) + 9 := by
  have h1 := textsB_le l c h
  have h2 := M.numB_len (l.length : Int)
  unfold M.rowB
  rw [List.length_append]
  omega
theorem mem_of {l : List (List UInt8)} {i : Nat} {t : List UInt8} (h : l[i]? = some t) : t ∈ l := List.mem_of_getElem? h
/-- the first text that is too long, if there is one -/
theorem first_long (l : List (List UInt8)) (c : Nat) : (∀ t ∈ l, t.length ≤ c) ∨ ∃ (j : Nat) (t : List UInt8), l[j]? = some t ∧ c < t.length ∧ ∀ (i : Nat) (u : List UInt8), i < j → l[i]? = some u → u.length ≤ c := by
  induction l with
  | nil => left; simp
  | cons t l ih =>
    by_cases h : t.length ≤ c
    · rcases ih with h' | ⟨j, u, h1, h2, h3⟩
      · left
        intro u hu
        rcases List.mem_cons.1 hu with rfl | hu
        · exact h
        · exact h' u hu
      · right
        refine ⟨j + 1, u, by simpa using h1, h2, ?_⟩
        intro i x hi hx
        cases i with
        | zero => simp at hx; subst hx; exact h
        | succ i => exact h3 i x (by omega) (by simpa using hx)
    · right
      exact ⟨0, t, rfl, by omega, fun i u hi => by omega⟩

theorem strs_cases {w : World} {v : Value} {l : List (List UInt8)} (h : Strs w.heap.size w v l) :
    (l.length = 0 ∧ ∃ a c, v = .slice a 0 c) ∨ ∃ b off cap, v = .slice (some ⟨b, off, none⟩) l.length cap ∧ b < w.heap.size ∧ ∀ i t, l[i]? = some t → w.cell? ⟨b, off + i, none⟩ = some (.string (M.bs t)) := by
  rcases h with ⟨rfl, h⟩ | h
  · exact Or.inl ⟨rfl, h⟩
  · exact Or.inr h
theorem Bl.cell {w0 w : World} (h : Bl w0 w) {b o : Nat} (hb : b < w0.heap.size) : w.cell? ⟨b, o, none⟩ = w0.cell? ⟨b, o, none⟩ := Below.cell (p := ⟨b, o, none⟩) h hb

end Go.Proofs.YtlkllcnnnndllaaGreatDoor
