/- What the reference's Good and Fits answer. -/
import Derived.Test.YtahdmhenkjbimaaDoorC5
import Derived.Test.YtahdmhenkjbimaaDoorX3
namespace Go.Proofs.YtahdmhenkjbimaaDoor
open Go.RowKit
set_option linter.unusedVariables false
set_option linter.unusedSimpArgs false

theorem rGood_at (whole : List UInt8) (size : Int) (a : Option Addr) (n cap : Nat) (w : World) (hw : whole.length = 32) :
    Calls Tryd.prog 22 #[.agg (mv whole size a n cap)] w fun e w' => e = .returned (.bool (goodB size n)) ∧ Below w.heap.size w w' := by
  have h32 := mv_32 whole size a n cap hw
  have h33 := mv_33 whole size a n cap hw
  generalize mv whole size a n cap = C at *
  have HB : Hid (Below w.heap.size w (w.alloc (.cells C 26))) := (Below.refl _ w).alloc (Nat.le_refl _) _
  by_cases h1 : 0 ≤ size
  · by_cases h2 : size ≤ 512
    · obtain ⟨k, rfl⟩ := Int.eq_ofNat_of_zero_le h1
      obtain ⟨q, hq1, hq2⟩ : ∃ q, goodB (k : Int) n = q ∧ ((n : Int) == (S.nch k : Int)) = q := ⟨_, rfl, by
        unfold goodB
        by_cases h : n = S.nch k
        · simp [h]; omega
        · simp [h]; omega⟩
      have hd : Int.tdiv ((k : Int) + 63) 64 = (S.nch k : Int) := by unfold S.nch; rw [Int.tdiv_eq_ediv_of_nonneg (by omega)]; omega
      have hwr : IntKind.i64.wrap ((k : Int) + 63) = (k : Int) + 63 := by rw [IntKind.wrap_i64]; omega
      have hn : S.nch k ≤ 1000000 := by unfold S.nch; omega
      rw [hq1]
      clear hq1
      go_enter Tryd.func22, Tryd.ntmps22
      go_wp2_with fail
      go_ret
      exact ⟨rfl, HB.out⟩
    · have hg : goodB size n = false := by unfold goodB; simp; omega
      rw [hg]
      have hd : decide (size ≤ 512) = false := by simp; omega
      go_enter Tryd.func22, Tryd.ntmps22
      go_wp2_with fail
      go_ret
      exact ⟨rfl, HB.out⟩
  · have hg : goodB size n = false := by unfold goodB; simp; omega
    rw [hg]
    have hd : decide (0 ≤ size) = false := by simp; omega
    go_enter Tryd.func22, Tryd.ntmps22
    go_wp2_with fail
    go_ret
    exact ⟨rfl, HB.out⟩

theorem decide_and_true {p q : Prop} [Decidable p] [Decidable q] (h : p) : decide (p ∧ q) = decide q := by simp [h]
theorem decide_and_false {p q : Prop} [Decidable p] [Decidable q] (h : ¬ p) : decide (p ∧ q) = false := by simp [h]

end Go.Proofs.YtahdmhenkjbimaaDoor
