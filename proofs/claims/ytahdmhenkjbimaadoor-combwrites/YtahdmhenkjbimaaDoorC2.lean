/- Manifests as values; what comb.sized and comb.Good answer. -/
import Derived.Test.YtahdmhenkjbimaaDoorC1
namespace Go.Proofs.YtahdmhenkjbimaaDoor
open Go.RowKit
set_option linter.unusedVariables false

/-- a manifest's 34 cells: the 32 bytes of Whole, Size, Parts -/
def mv (whole : List UInt8) (size : Int) (a : Option Addr) (n cap : Nat) : Array Value := (whole.map vb ++ [Value.int .i64 size, Value.slice a n cap]).toArray
theorem mv_size (whole : List UInt8) (size : Int) (a : Option Addr) (n cap : Nat) (h : whole.length = 32) : (mv whole size a n cap).size = 34 := by simp [mv, h]
theorem mv_32 (whole : List UInt8) (size : Int) (a : Option Addr) (n cap : Nat) (h : whole.length = 32) : (mv whole size a n cap)[32]? = some (.int .i64 size) := by
  unfold mv; rw [List.getElem?_toArray, List.getElem?_append_right (by simp; omega)]; simp [h]
theorem mv_33 (whole : List UInt8) (size : Int) (a : Option Addr) (n cap : Nat) (h : whole.length = 32) : (mv whole size a n cap)[33]? = some (.slice a n cap) := by
  unfold mv; rw [List.getElem?_toArray, List.getElem?_append_right (by simp; omega)]; simp [h]
theorem mv_one (whole : List UInt8) (size : Int) (a : Option Addr) (n cap : Nat) : (mv whole size a n cap).all (·.oneCell') = true := by
  rw [Array.all_eq_true_iff_forall_mem]
  intro x hx
  simp only [mv, List.mem_toArray, List.mem_append, List.mem_map, List.mem_cons, List.not_mem_nil, or_false] at hx
  rcases hx with ⟨y, _, rfl⟩ | rfl | rfl <;> rfl
theorem mv_range (whole : List UInt8) (size : Int) (a : Option Addr) (n cap : Nat) {w : World} {b : Nat} {T : TypeId} (hC : w.heap[b]? = some (.cells (mv whole size a n cap) T (0, 0))) (h : whole.length = 32) : w.rangeAt b 0 (whole.map vb) := fun j v hv => by
  have hj : j < 32 := by have := (List.getElem?_eq_some_iff.1 hv).1; simpa [h] using this
  rw [Nat.zero_add, cell_of_row _ _ j _ _ _ hC]
  unfold mv
  rw [List.getElem?_toArray, List.getElem?_append_left (by simp; omega)]; exact hv

/-- whether a manifest can be -/
def goodB (size : Int) (n : Nat) : Bool := decide (0 ≤ size ∧ size ≤ 512 ∧ n = S.nch size.toNat)

theorem sized_at (size : Int) (n : Nat) (w : World) : Calls Tryd.prog 28 #[.int .i64 size, .int .i64 (n : Int)] w fun e w' => e = .returned (.bool (goodB size n)) ∧ w' = w := by
  by_cases h1 : 0 ≤ size
  · by_cases h2 : size ≤ 512
    · obtain ⟨k, rfl⟩ := Int.eq_ofNat_of_zero_le h1
      obtain ⟨q, hq1, hq2⟩ : ∃ q, goodB (k : Int) n = q ∧ ((n : Int) == (S.nch k : Int)) = q := ⟨_, rfl, by
        unfold goodB
        by_cases h : n = S.nch k
        · simp [h]; omega
        · simp [h]; omega⟩
      rw [hq1]
      clear hq1
      go_enter Tryd.func28, Tryd.ntmps28
      go_wp2_with (go_at_call 34; refine (chunks_at k _ (by omega)).mono ?_; rintro e w' ⟨rfl, hw⟩; rw [hw]; clear hw w')
      go_ret
      exact ⟨rfl, rfl⟩
    · have hg : goodB size n = false := by unfold goodB; simp; omega
      rw [hg]
      have hd : decide (size ≤ 512) = false := by simp; omega
      go_enter Tryd.func28, Tryd.ntmps28
      go_wp2_with fail
      go_ret
      exact ⟨rfl, rfl⟩
  · have hg : goodB size n = false := by unfold goodB; simp; omega
    rw [hg]
    have hd : decide (0 ≤ size) = false := by simp; omega
    go_enter Tryd.func28, Tryd.ntmps28
    go_wp2_with fail
    go_ret
    exact ⟨rfl, rfl⟩

theorem Good_at (whole : List UInt8) (size : Int) (a : Option Addr) (n cap : Nat) (w : World) (hw : whole.length = 32) :
    Calls Tryd.prog 17 #[.agg (mv whole size a n cap)] w fun e w' => e = .returned (.bool (goodB size n)) ∧ Below w.heap.size w w' := by
  have h32 := mv_32 whole size a n cap hw
  have h33 := mv_33 whole size a n cap hw
  generalize mv whole size a n cap = C at *
  have HB : Hid (Below w.heap.size w (w.alloc (.cells C 26))) := (Below.refl _ w).alloc (Nat.le_refl _) _
  go_enter Tryd.func17, Tryd.ntmps17
  go_wp2_with (go_at_call 28; refine (sized_at size n _).mono ?_; rintro e w' ⟨rfl, rfl⟩)
  go_ret
  exact ⟨rfl, HB.out⟩
end Go.Proofs.YtahdmhenkjbimaaDoor
