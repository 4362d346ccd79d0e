/- What recipe.readCode answers. -/
import Derived.Test.YtgjpcddjfmdobaaDoorL7
namespace Go.Proofs.YtgjpcddjfmdobaaDoor
open Go.RowKit
set_option linter.unusedVariables false

/-- what a reader of a text answers -/
def tbV : Option (List UInt8) → Value
  | none => .tuple #[.string ⟨#[]⟩, .bool false]
  | some c => .tuple #[.string (M.bs c), .bool true]
theorem indexByte_at (c : UInt8) (W : World) : Calls Tryd.prog 75 #[.string ⟨#[48, 49, 50, 51, 52, 53, 54, 55, 56, 57, 97, 98, 99, 100, 101, 102]⟩, .int .u8 c.toNat] W fun e w' => e = .returned (.int .i64 (RC.dig c)) ∧ w' = W := by
  refine (Tryd.strings_IndexByte ⟨#[48, 49, 50, 51, 52, 53, 54, 55, 56, 57, 97, 98, 99, 100, 101, 102]⟩ c.toNat W).mono ?_
  rintro e w' ⟨rfl, rfl⟩
  refine ⟨?_, rfl⟩
  show Ending.returned (.int .i64 (Lib.indexByte RC.digs ((c.toNat : Int)).toNat.toUInt8)) = _
  rw [show ((c.toNat : Int)).toNat.toUInt8 = c by simp]
  rfl
theorem readH_two (a b : UInt8) (r : List UInt8) (h1 : 0 ≤ RC.dig a) (h2 : 0 ≤ RC.dig b) : RC.readH (a :: b :: r) = (RC.readH r).map (fun c => UInt8.ofNat ((RC.dig a).toNat * 16 + (RC.dig b).toNat) :: c) := by
  rw [RC.readH]
  have e1 : decide (RC.dig a < 0) = false := by simp; omega
  have e2 : decide (RC.dig b < 0) = false := by simp; omega
  rw [e1, e2]
  simp only [Bool.or_self, Bool.false_eq_true, if_false]
  cases RC.readH r <;> rfl
theorem readH_no (a b : UInt8) (r : List UInt8) (h : RC.dig a < 0 ∨ RC.dig b < 0) : RC.readH (a :: b :: r) = none := by
  rw [RC.readH]
  rcases h with h | h <;> simp [h]
theorem dig_bd (c : UInt8) : -1 ≤ RC.dig c ∧ RC.dig c ≤ 15 := by
  have h : ∀ n : Fin 256, -1 ≤ RC.dig (UInt8.ofNat n.val) ∧ RC.dig (UInt8.ofNat n.val) ≤ 15 := by decide +kernel
  have := h ⟨c.toNat, c.toNat_lt⟩
  simpa using this
theorem or16 (x y : Int) (h1 : 0 ≤ x) (h2 : x ≤ 15) (h3 : 0 ≤ y) (h4 : y ≤ 15) : bits BinOp.or IntKind.i64 (x * 16) y % 256 = ((UInt8.ofNat (x.toNat * 16 + y.toNat)).toNat : Int) := by
  have h : ∀ a b : Fin 16, bits BinOp.or IntKind.i64 ((a.val : Int) * 16) (b.val : Int) % 256 = ((UInt8.ofNat (a.val * 16 + b.val)).toNat : Int) := by decide +kernel
  have := h ⟨x.toNat, by omega⟩ ⟨y.toNat, by omega⟩
  simp only [Int.toNat_of_nonneg h1, Int.toNat_of_nonneg h3] at this
  exact this
set_option maxRecDepth 8000 in
set_option maxHeartbeats 2000000 in
theorem readCode_at (s : List UInt8) {w W : World} (HB : Bl w W) (hs : s.length ≤ 100000) :
    Calls Tryd.prog 67 #[.string (M.bs s)] W fun e w' => e = .returned (tbV (RC.readC s)) ∧ Bl w w' := by
  have hbs := M.bs_size s
  have hem := bs_empty s
  have heq : ((M.bs s).toList == [45]) = decide (s = [45]) := by
    rw [Lib.toList_data, M.bs_toList]
    by_cases h : s = [45]
    · subst h; simp
    · simp [h]
  by_cases h0 : s = [45]
  · have hq : RC.readC s = some [] := by rw [h0]; rfl
    rw [hq]
    rw [decide_eq_true h0] at heq
    clear h0 hq
    unfold tbV
    go_enter Tryd.func67, Tryd.ntmps67
    go_wp2_with fail
    go_ret2
    exact ⟨rfl, HB⟩
  rw [decide_eq_false h0] at heq
  by_cases h1 : s = [] ∨ s.length % 2 ≠ 0 ∨ 128 < s.length
  · have hq : RC.readC s = none := by unfold RC.readC; rw [if_neg h0, if_pos h1]
    rw [hq]
    unfold tbV
    have HB0 : Hid (Bl w W) := HB
    clear h0 hq HB
    by_cases he : s = []
    · rw [decide_eq_true he] at hem
      clear h1 he
      go_enter Tryd.func67, Tryd.ntmps67
      go_wp2_with fail
      go_ret2
      exact ⟨rfl, HB0.out⟩
    · rw [decide_eq_false he] at hem
      by_cases hr : s.length % 2 ≠ 0
      · have hm : ((s.length : Int) % 2 != 0) = true := by rw [bne_iff_ne]; omega
        clear h1 he hr
        go_enter Tryd.func67, Tryd.ntmps67
        go_wp2_with fail
        go_ret2
        exact ⟨rfl, HB0.out⟩
      · have hm : ((s.length : Int) % 2 != 0) = false := by simp; omega
        have hl : 128 < s.length := by rcases h1 with h | h | h; exact absurd h he; exact absurd h hr; exact h
        clear h1 he hr
        go_enter Tryd.func67, Tryd.ntmps67
        go_wp2_with fail
        go_ret2
        exact ⟨rfl, HB0.out⟩
  have HQ : Hid (RC.readC s = RC.readH s) := by show _ = _; unfold RC.readC; rw [if_neg h0, if_neg h1]
  have he : s ≠ [] := fun e => h1 (Or.inl e)
  rw [decide_eq_false he] at hem
  have hev : s.length % 2 = 0 := by omega
  have hm : ((s.length : Int) % 2 != 0) = false := by simp; omega
  have hl : s.length ≤ 128 := by omega
  have HB0 : Hid (Bl w W) := HB
  clear h0 h1 he HB
  have HFR : Hid (Lib.IsBuilder 45 5 W.heap.size W.heap.size (Lib.byteCells []) _) := Lib.fresh_isBuilder 45 5 W
  have HAL : Hid (∀ o, Below W.heap.size W (W.alloc o)) := fun o => (Below.refl _ W).alloc (Nat.le_refl _) o
  go_enter Tryd.func67, Tryd.ntmps67
  go_wp2_with fail
  go_loopw [5, 6, 7] (fun u5 u6 u7 wr => ∃ (j : Nat) (pre : List UInt8), 2 * j ≤ s.length ∧ pre.length = j ∧ u5 = .int .i64 ((2 * j : Nat) : Int) ∧ RC.readH s = (RC.readH (s.drop (2 * j))).map (pre ++ ·) ∧ Lib.IsBuilder 45 5 W.heap.size W.heap.size (Lib.byteCells pre) wr ∧ Below W.heap.size W wr) (fun u5 _ _ _ => s.length - (intOf u5).toNat)
  case atStart => exact ⟨0, [], Nat.zero_le _, rfl, rfl, by simp, HFR.out, HAL.out _⟩
  case round =>
    obtain ⟨j, pre, hj, hpj, rfl, hrd, hbd, hbe⟩ := hrel
    clear HFR HAL
    have hsz := hbe.size
    have HBD : Hid (Lib.IsBuilder 45 5 W.heap.size W.heap.size (Lib.byteCells pre) wr) := hbd
    have HBE : Hid (Below W.heap.size W wr) := hbe
    have HRD : Hid (RC.readH s = (RC.readH (s.drop (2 * j))).map (pre ++ ·)) := hrd
    clear hbd hbe hrd
    obtain ⟨k, hkk⟩ : ∃ k, 2 * j = k := ⟨_, rfl⟩
    rw [hkk] at hj HRD ⊢
    by_cases hlt : k < s.length
    · have hlt2 : k + 1 < s.length := by omega
      have hs0 : (M.bs s)[k]'(by omega) = s[k] := by simp [M.bs, ByteArray.getElem_eq_getElem_data]
      have hs1 : (M.bs s)[k + 1]'(by omega) = s[k + 1] := by simp [M.bs, ByteArray.getElem_eq_getElem_data]
      have hdr : s.drop k = s[k] :: s[k + 1] :: s.drop (k + 2) := by rw [List.drop_eq_getElem_cons hlt, List.drop_eq_getElem_cons hlt2]
      rw [hdr] at HRD
      generalize s[k] = a at *
      generalize s[k + 1] = b at *
      clear hdr
      have hda := dig_bd a
      have hdb := dig_bd b
      have hn := readH_no a b (s.drop (k + 2))
      have hy := readH_two a b (s.drop (k + 2))
      have CA : Hid (∀ W', Calls Tryd.prog 75 #[.string ⟨#[48, 49, 50, 51, 52, 53, 54, 55, 56, 57, 97, 98, 99, 100, 101, 102]⟩, .int .u8 a.toNat] W' fun e w' => e = .returned (.int .i64 (RC.dig a)) ∧ w' = W') := indexByte_at a
      have CB : Hid (∀ W', Calls Tryd.prog 75 #[.string ⟨#[48, 49, 50, 51, 52, 53, 54, 55, 56, 57, 97, 98, 99, 100, 101, 102]⟩, .int .u8 b.toNat] W' fun e w' => e = .returned (.int .i64 (RC.dig b)) ∧ w' = W') := indexByte_at b
      generalize RC.dig a = da at *
      generalize RC.dig b = db at *
      by_cases hneg : da < 0 ∨ db < 0
      · have HN : Hid (RC.readH s = none) := by show _ = _; rw [HRD.out, hn hneg]; rfl
        clear hn hy HRD
        by_cases h1 : da < 0
        all_goals
          first
            | have h2 : db < 0 := by omega
            | skip
          clear hneg
          go_wp2_with fail
          go_quiet ((go_at_call 75; first | exact Calls.quiet_of_same (CA.out _) | exact Calls.quiet_of_same (CB.out _)))
          go_wp2_with fail
          go_ret2
          exact ⟨by rw [HQ.out, HN.out]; rfl, HB0.out.step (below_drewN HBE.out _)⟩
      · have h1 : 0 ≤ da := by omega
        have h2 : 0 ≤ db := by omega
        have HY : Hid (RC.readH s = (RC.readH (s.drop (k + 2))).map ((pre ++ [UInt8.ofNat (da.toNat * 16 + db.toNat)]) ++ ·)) := by
          show _ = _
          rw [HRD.out, hy h1 h2]
          cases RC.readH (s.drop (k + 2)) <;> simp
        have hor := or16 da db h1 hda.2 h2 hdb.2
        generalize UInt8.ofNat (da.toNat * 16 + db.toNat) = cc at *
        have HBQ : Hid (∀ n, Lib.IsBuilder 45 5 W.heap.size W.heap.size (Lib.byteCells pre) (wr.drewN n)) := fun n => builder_below HBD.out (below_drewN (Below.refl _ _) n)
        have HBD2 : Hid (∀ n, Below W.heap.size W (wr.drewN n)) := fun n => below_drewN HBE.out n
        clear hn hy HRD hneg HBD HBE
        go_wp2_with fail
        go_quiet ((go_at_call 75; first | exact Calls.quiet_of_same (CA.out _) | exact Calls.quiet_of_same (CB.out _)))
        go_wp2_with (go_at_call 53; refine (writeByte _ _ _ cc _ (HBQ.out _) (by omega) (HBD2.out _).size).mono ?_; rintro e w3 ⟨rfl, HBD3, HB3⟩)
        go_roundw
        case rel => exact ⟨j + 1, pre ++ [cc], by omega, by simp [hpj], by rw [show 2 * (j + 1) = k + 2 by omega]; go_num, by rw [show 2 * (j + 1) = k + 2 by omega]; exact HY.out, HBD3, (HBD2.out _).trans HB3⟩
        case measure => simp [intOf]; omega
    · obtain rfl : k = s.length := by omega
      go_wp2_with (go_at_call 23; refine (Tryd.Builder_String_any _ _ _ _ HBD.out hsz).mono ?_; rintro e w3 ⟨rfl, HB3⟩)
      go_ret2
      have e : RC.readH s = some pre := by rw [HRD.out]; simp [RC.readH]
      exact ⟨by rw [HQ.out, e]; rfl, HB0.out.step (HBE.out.trans HB3)⟩
end Go.Proofs.YtgjpcddjfmdobaaDoor
