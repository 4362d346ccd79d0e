/- awake answers true. -/
import Derived.Test.YtfpeohlfofcbjaaW6
namespace Go.Proofs.Ytfpeohlfofcbjaa
open Go.RowKit
set_option linter.unusedVariables false

theorem aw_read (w : World) : Calls Try.prog 16 #[.string ⟨#[2, 1, 44, 120]⟩] w fun e w' => e = .returned (.tuple #[.int .i64 300, .string ⟨#[120]⟩, .bool true]) ∧ Below w.heap.size w w' := by
  refine (readNum_l [2, 1, 44, 120] w (by decide)).mono ?_
  have e : M.readNum [2, 1, 44, 120] = some (300, [120]) := by decide +kernel
  rw [e]
  rintro e w' ⟨rfl, n, rfl⟩
  exact ⟨rfl, below_drewN (Below.refl _ _) _⟩
theorem aw_text (w : World) : Calls Try.prog 18 #[.string ⟨#[1, 2, 97, 98, 99]⟩, .int .i64 2] w fun e w' => e = .returned (.tuple #[.string ⟨#[97, 98]⟩, .string ⟨#[99]⟩, .bool true]) ∧ Below w.heap.size w w' := by
  refine (readText_l [1, 2, 97, 98, 99] 2 w (by decide)).mono ?_
  have e : M.readText [1, 2, 97, 98, 99] 2 = some ([97, 98], [99]) := by decide +kernel
  rw [e]
  rintro e w' ⟨rfl, n, rfl⟩
  exact ⟨rfl, below_drewN (Below.refl _ _) _⟩
theorem aw_n1 (w : World) : Calls Try.prog 10 #[.int .i64 300] w fun e w' => e = .returned (.string ⟨#[2, 1, 44]⟩) ∧ Below w.heap.size w w' := by
  have h := num_any 300 w (by omega) (by omega)
  have e : M.numB 300 = [2, 1, 44] := by decide +kernel
  rw [e] at h; exact h
theorem aw_n2 (w : World) : Calls Try.prog 10 #[.int .i64 (-2)] w fun e w' => e = .returned (.string ⟨#[129, 1]⟩) ∧ Below w.heap.size w w' := by
  have h := num_any (-2) w (by omega) (by omega)
  have e : M.numB (-2) = [129, 1] := by decide +kernel
  rw [e] at h; exact h
theorem aw_n3 (w : World) : Calls Try.prog 10 #[.int .i64 0] w fun e w' => e = .returned (.string ⟨#[0]⟩) ∧ Below w.heap.size w w' := by
  have h := num_any 0 w (by omega) (by omega)
  have e : M.numB 0 = [0] := by decide +kernel
  rw [e] at h; exact h
theorem aw_row (w : World) (c : Nat) : Calls Try.prog 14 #[.slice (some ⟨w.heap.size, 0, none⟩) 2 c] (w.alloc (.cells #[.string ⟨#[97]⟩, .string ⟨#[]⟩] 9)) fun e w' => e = .returned (.string ⟨#[1, 2, 1, 1, 97, 0]⟩) ∧ Below w.heap.size w w' := by
  refine (row_any _ [[97], []] (w.alloc (.cells #[.string ⟨#[97]⟩, .string ⟨#[]⟩] 9)) ?_ (by decide +kernel) (by decide)).mono ?_
  · refine Or.inr ⟨w.heap.size, 0, c, rfl, by simp, ?_⟩
    intro i t ht
    have hc := World.cell?_alloc_mark w #[.string ⟨#[97]⟩, .string ⟨#[]⟩] 9 (0, 0) i
    rw [Nat.zero_add, hc]
    match i, ht with
    | 0, ht => simp at ht; subst ht; rfl
    | 1, ht => simp at ht; subst ht; rfl
    | i + 2, ht => simp at ht
  · have e : M.rowB [[97], []] = [1, 2, 1, 1, 97, 0] := by decide +kernel
    rw [e]
    rintro e w' ⟨rfl, hb⟩
    exact ⟨rfl, ((Below.refl _ w).alloc (Nat.le_refl _) _).trans (hb.mono (by simp))⟩

set_option maxHeartbeats 800000 in
theorem awake_any (w : World) : Calls Try.prog 9 #[] w fun e w' => e = .returned (.bool true) ∧ Below w.heap.size w w' := by
  go_enter Try.func9, Try.ntmps9
  go_wp2_with (go_at_call 16; refine (aw_read _).mono ?_)
  rintro e w1 ⟨rfl, hb1⟩
  have HB1 : Hid (Below w.heap.size w w1) := hb1
  clear hb1
  go_wp2_with (go_at_call 18; refine (aw_text _).mono ?_)
  rintro e w2 ⟨rfl, hb2⟩
  have HB2 : Hid (Below w.heap.size w w2) := HB1.out.trans (hb2.mono HB1.out.size)
  clear hb2 HB1
  go_wp2_with fail
  refine (aw_n1 _).mono ?_
  rintro e w3 ⟨rfl, hb3⟩
  have HB3 : Hid (Below w.heap.size w w3) := HB2.out.trans (hb3.mono HB2.out.size)
  clear hb3 HB2
  go_wp2_with fail
  refine (aw_n2 _).mono ?_
  rintro e w4 ⟨rfl, hb4⟩
  have HB4 : Hid (Below w.heap.size w w4) := HB3.out.trans (hb4.mono HB3.out.size)
  clear hb4 HB3
  go_wp2_with fail
  refine (aw_n3 _).mono ?_
  rintro e w5 ⟨rfl, hb5⟩
  have HB5 : Hid (Below w.heap.size w w5) := HB4.out.trans (hb5.mono HB4.out.size)
  clear hb5 HB4
  go_wp2_with fail
  refine (aw_row _ _).mono ?_
  rintro e w6 ⟨rfl, hb6⟩
  have HB6 : Hid (Below w.heap.size w w6) := HB5.out.trans (hb6.mono HB5.out.size)
  clear hb6 HB5
  go_wp2_with fail
  go_ret
  exact ⟨rfl, HB6.out⟩

end Go.Proofs.Ytfpeohlfofcbjaa
