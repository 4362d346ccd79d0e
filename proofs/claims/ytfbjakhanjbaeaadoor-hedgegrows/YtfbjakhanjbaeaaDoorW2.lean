/- What sap.Num answers, for every number of 64 bits: its bytes. -/
import Derived.Test.YtfbjakhanjbaeaaDoorW1
import Derived.Test.YtfbjakhanjbaeaaDoorShelf
import Derived.Lib.BitFns
import Derived.Laws.IdiomStrings
namespace Go.Proofs.YtfbjakhanjbaeaaDoor
open Go.RowKit

theorem small_len (x : Nat) (h0 : x ≠ 0) (h : x < 256) : 1 ≤ Lib.bitLen x ∧ Lib.bitLen x ≤ 8 := by
  have h' : ∀ n : Fin 256, n.val ≠ 0 → 1 ≤ Lib.bitLen n.val ∧ Lib.bitLen n.val ≤ 8 := by decide +kernel
  exact h' ⟨x, h⟩ h0
theorem bitLen_cnt (m : Nat) (h : m < 18446744073709551616) : (Lib.bitLen m + 7) / 8 = M.cnt m := by
  unfold M.cnt
  repeat' split
  · subst_vars; decide +kernel
  · have := small_len m (by omega) (by omega); omega
  · have := small_len (m / 256) (by omega) (by omega); rw [Lib.bitLen_shift8 m (by omega) h]; omega
  · have := small_len (m / 65536) (by omega) (by omega); rw [Lib.bitLen_shift16 m (by omega) h]; omega
  · have := small_len (m / 16777216) (by omega) (by omega); rw [Lib.bitLen_shift24 m (by omega) h]; omega
  · have := small_len (m / 4294967296) (by omega) (by omega); rw [Lib.bitLen_shift32 m (by omega) h]; omega
  · have := small_len (m / 1099511627776) (by omega) (by omega); rw [Lib.bitLen_shift40 m (by omega) h]; omega
  · have := small_len (m / 281474976710656) (by omega) (by omega); rw [Lib.bitLen_shift48 m (by omega) h]; omega
  · have := small_len (m / 72057594037927936) (by omega) (by omega); rw [Lib.bitLen_shift56 m (by omega) h]; omega

theorem len64 (m : Nat) (w : World) (h : m < 18446744073709551616) :
    Calls Tryd.prog 55 #[.int .u64 m] w fun e w' => ∃ L : Nat, e = .returned (.int .i64 L) ∧ w' = w ∧ L ≤ 64 ∧ (L + 7) / 8 = M.cnt m := by
  refine (Tryd.bits_Len64 m w (by omega) (by omega)).mono ?_
  rintro e w' ⟨rfl, rfl⟩
  have h8 := M.cnt_le m
  have hb := bitLen_cnt m h
  have e1 : ((m : Int).toNat) = m := by omega
  rw [e1]
  exact ⟨_, rfl, rfl, by omega, hb⟩

def sh (m q : Nat) : Nat := m / 256 ^ q
theorem sh_succ (m q : Nat) : sh m (q + 1) = sh m q / 256 := by unfold sh; rw [Nat.pow_succ, Nat.div_div_eq_div_mul]
theorem sh_zero (m : Nat) : sh m 0 = m := by simp [sh]
theorem sh_le (m q : Nat) : sh m q ≤ m := Nat.div_le_self _ _

theorem arr9 : Tryd.prog.underlying 81 = some (.array 9 5) := by kernel_rfl
theorem slice9 {W : World} (a : Addr) (k : Nat) (hk : k ≤ 8) :
    (Instr.sliceAt 81 (.pointer (some a)) none (some (.int .i64 (1 + (k : Int)))) none).run Tryd.prog W = .ok (.slice (some a) (1 + k) 9) W := by
  have hl : Tryd.prog.arrayLen 81 = 9 := by kernel_rfl
  have he : Tryd.prog.elem 81 = 5 := by kernel_rfl
  have h := run_sliceAt_array_h (P := Tryd.prog) W 81 a (by rw [hl, he]; exact arr9) .i64 (1 + (k : Int)) (by omega) (by rw [hl]; omega)
  rw [h, hl, he, Tryd.sizeOf5]
  have e : (1 + (k : Int)).toNat = 1 + k := by omega
  simp [Result.andThen, slicedAt, e]
  cases a; simp [Addr.add]

theorem mag_nat (m : Nat) : M.mag (m : Int) = m := by unfold M.mag; rw [if_neg (by omega)]; omega

theorem conv9 (w : World) (C : Array Value) (l : List UInt8) (k : Nat) (hl : l.length = 1 + k) (hc : ∀ j (hj : j < l.length), C[j]? = some (.int .u8 (l[j].toNat : Int))) :
    (convert 64 9 (.slice (some ⟨w.heap.size, 0, none⟩) (1 + k) 9)).run Tryd.prog (w.alloc (.cells C 81)) = .ok (.string (M.bs l)) (w.alloc (.cells C 81)) := by
  rw [← hl]
  exact run_convert_bytes_back (P := Tryd.prog) _ 64 9 5 ⟨w.heap.size, 0, none⟩ 9 l Tryd.underlying64 Tryd.underlying5 Tryd.underlying9 (fun j hj => by
    have := World.cell?_alloc_mark w C 81 (0, 0) j
    have e : (⟨w.heap.size, 0, none⟩ : Addr).add j = ⟨w.heap.size, j, none⟩ := by unfold Addr.add; split <;> simp_all
    rw [e, this]; exact hc j hj)

theorem bytesK_get (k m p : Nat) (hp : p < k) : (M.bytesK k m)[p]? = some (UInt8.ofNat (sh m (k - 1 - p) % 256)) := by
  induction k generalizing m p with
  | zero => omega
  | succ k ih =>
    simp only [M.bytesK]
    by_cases h : p < k
    · rw [List.getElem?_append_left (by rw [M.bytesK_length]; exact h), ih _ _ h]
      have e : sh (m / 256) (k - 1 - p) = sh m (k + 1 - 1 - p) := by
        rw [show k + 1 - 1 - p = (k - 1 - p) + 1 by omega]
        unfold sh
        rw [Nat.div_div_eq_div_mul, Nat.pow_succ, Nat.mul_comm]
      rw [e]
    · obtain rfl : p = k := by omega
      rw [List.getElem?_append_right (by rw [M.bytesK_length]; exact Nat.le_refl _), M.bytesK_length]
      simp [sh]

theorem cellsOf (n : Int) (m f k : Nat) (hmag : M.mag n = m) (hmk : M.mark n = f) (hf : f ≤ 128) (hk : M.cnt m = k) (C : Array Value) (hC0 : C[0]? = some (.int .u8 ((f + k : Nat) : Int)))
    (hCp : ∀ p, 0 < p → p ≤ k → C[p]? = some (.int .u8 ((sh m (k - p) % 256 : Nat) : Int))) :
    ∀ j (hj : j < (M.numB n).length), C[j]? = some (.int .u8 ((M.numB n)[j].toNat : Int)) := by
  intro j hj
  have h8 := M.cnt_le m
  have hget : (M.numB n)[j]? = some (M.numB n)[j] := List.getElem?_eq_getElem hj
  rw [M.numB_length, hmag, hk] at hj
  generalize (M.numB n)[j] = x at hget
  unfold M.numB at hget
  rw [hmag, hmk, hk] at hget
  cases j with
  | zero =>
    simp only [List.getElem?_cons_zero, Option.some.injEq] at hget
    rw [hC0, ← hget]
    have e : (UInt8.ofNat (f + k)).toNat = f + k := by simp; omega
    rw [e]
  | succ j =>
    rw [List.getElem?_cons_succ, bytesK_get _ _ _ (by omega)] at hget
    simp only [Option.some.injEq] at hget
    rw [hCp (j + 1) (by omega) (by omega), ← hget]
    have e : (UInt8.ofNat (sh m (k - 1 - j) % 256)).toNat = sh m (k - 1 - j) % 256 := by simp
    rw [e, show k - (j + 1) = k - 1 - j by omega]

set_option maxHeartbeats 800000 in
theorem num_at (n fI : Int) (m f q : Nat) (w : World) (hm : m < 9223372036854775808) (hn : (n = (m : Int) ∧ f = 0 ∧ fI = 0) ∨ (n = -1 - (m : Int) ∧ f = 128 ∧ fI = 128)) (hq : q = f + M.cnt m) (hmag : M.mag n = m) (hmk : M.mark n = f) :
    Calls Tryd.prog 40 #[.int .i64 n] w fun e w' => e = .returned (.string (M.bs (M.numB n))) ∧ Below w.heap.size w w' := by
  have h8 := M.cnt_le m
  have hneg : (-1 : Int) - (-1 - (m : Int)) = m := by omega
  have hor : ∀ L : Nat, (L + 7) / 8 = M.cnt m → bits BinOp.or IntKind.u8 fI (((L : Int) + 7) / 8) = (q : Int) := by
    intro L hL
    have e : ((L : Int) + 7) / 8 = ((M.cnt m : Nat) : Int) := by omega
    have hf : fI = (f : Int) ∧ (f = 0 ∨ f = 128) := by rcases hn with ⟨_, h, h'⟩ | ⟨_, h, h'⟩ <;> simp [h, h']
    rw [e, hf.1, u8_or_nat f (M.cnt m) (by omega) (by omega), hq]
    rcases hf.2 with rfl | rfl
    · simp
    · rw [nat_join 7 128 _ (by decide) (by omega)]
  have Hor : Hid (∀ L : Nat, (L + 7) / 8 = M.cnt m → bits BinOp.or IntKind.u8 fI (((L : Int) + 7) / 8) = (q : Int)) := hor
  have Hce : Hid (∀ C : Array Value, C[0]? = some (.int .u8 (q : Int)) → (∀ p, 0 < p → p ≤ M.cnt m → C[p]? = some (.int .u8 ((sh m (M.cnt m - p) % 256 : Nat) : Int))) →
      ∀ j (hj : j < (M.numB n).length), C[j]? = some (.int .u8 ((M.numB n)[j].toNat : Int))) := fun C h1 h2 =>
    cellsOf n m f (M.cnt m) hmag hmk (by rcases hn with ⟨_, h, _⟩ | ⟨_, h, _⟩ <;> omega) rfl C (by rw [hq] at h1; exact h1) h2
  have Hle : Hid ((M.numB n).length = 1 + M.cnt m) := by show _ = _; rw [M.numB_length, hmag]
  clear hor hmag hmk hq
  generalize M.numB n = out at *
  rcases hn with ⟨rfl, rfl, rfl⟩ | ⟨rfl, rfl, rfl⟩
  all_goals
    go_enter Tryd.func40, Tryd.ntmps40
    go_wp2_with (go_at_call 55; refine (len64 m _ (by omega)).mono ?_)
    rintro e w' ⟨L, rfl, rfl, hL, hcnt⟩
    have hor := Hor.out L hcnt
    have HK : Hid (((L : Int) + 7) / 8 = (M.cnt m : Int)) := by show _ = _; omega
    clear hcnt Hor
    go_wp2
    go_loopw [4, 7] (fun u4 u7 wr => ∃ (i : Nat) (C : Array Value), i ≤ M.cnt m ∧ u7 = .int .i64 i ∧ u4 = .int .u64 (sh m (M.cnt m - i)) ∧ wr = w'.alloc (.cells C 81) ∧ C.size = 9 ∧ C[0]? = some (.int .u8 (q : Int)) ∧ ∀ p, i < p → p ≤ M.cnt m → C[p]? = some (.int .u8 ((sh m (M.cnt m - p) % 256 : Nat) : Int))) (fun _ u7 _ => (intOf u7).toNat)
    case atStart =>
      refine ⟨M.cnt m, _, Nat.le_refl _, by rw [HK.out], by rw [Nat.sub_self, sh_zero], rfl, ?_, ?_, ?_⟩
      · rfl
      · rfl
      · intro p h1 h2; omega
    case round =>
      obtain ⟨i, C, hi, rfl, rfl, rfl, hC9, hC0, hCp⟩ := hrel
      clear hor
      by_cases hlt : 0 < i
      · have hle := sh_le m (M.cnt m - i)
        obtain ⟨v0, hv0⟩ : ∃ v0, C[i]? = some v0 := ⟨C[i]'(by omega), Array.getElem?_eq_getElem (by omega)⟩
        go_wp2
        go_roundw
        case rel =>
          refine ⟨i - 1, C.setIfInBounds i (.int .u8 ((sh m (M.cnt m - i) % 256 : Nat) : Int)), by omega, by go_num, ?_, rfl, ?_, ?_, ?_⟩
          · rw [show M.cnt m - (i - 1) = M.cnt m - i + 1 by omega, sh_succ]; go_num
          · simp [hC9]
          · rw [Array.getElem?_setIfInBounds_ne (by omega)]; exact hC0
          · intro p h1 h2
            by_cases hpi : p = i
            · subst hpi; rw [Array.getElem?_setIfInBounds_self_of_lt (by omega)]
            · rw [Array.getElem?_setIfInBounds_ne (by omega)]; exact hCp p (by omega) h2
        case measure => simp [intOf]; omega
      · obtain rfl : i = 0 := by omega
        have hk := HK.out
        have hsl := slice9 (W := w'.alloc (.cells C 81)) ⟨w'.heap.size, 0, none⟩ (M.cnt m) h8
        have hcv := conv9 w' C out (M.cnt m) Hle.out (Hce.out C hC0 hCp)
        clear hCp hC0 hC9
        go_wp2
        go_ret
        exact ⟨rfl, (Below.refl _ _).alloc (Nat.le_refl _) _⟩

theorem num_any (n : Int) (w : World) (h1 : -9223372036854775808 ≤ n) (h2 : n < 9223372036854775808) :
    Calls Tryd.prog 40 #[.int .i64 n] w fun e w' => e = .returned (.string (M.bs (M.numB n))) ∧ Below w.heap.size w w' := by
  have hm := M.mag_lt n h1 h2
  by_cases hn : n < 0
  · have e1 : M.mark n = 128 := by simp [M.mark, hn]
    have e2 : M.mag n = (-1 - n).toNat := by simp [M.mag, hn]
    exact num_at n 128 (M.mag n) 128 _ w hm (Or.inr ⟨by omega, rfl, rfl⟩) rfl rfl e1
  · have e1 : M.mark n = 0 := by simp [M.mark, hn]
    have e2 : M.mag n = n.toNat := by simp [M.mag, hn]
    exact num_at n 0 (M.mag n) 0 _ w hm (Or.inl ⟨by omega, rfl, rfl⟩) rfl rfl e1

end Go.Proofs.YtfbjakhanjbaeaaDoor
