/- What apiaryref01.Num, Text and Row answer: the same bytes. -/
import Derived.Test.YtaceemaedpkigaaDoorGA
namespace Go.Proofs.YtaceemaedpkigaaDoor
open Go.RowKit
set_option linter.unusedVariables false

theorem cnt_succ (q : Nat) (h0 : 0 < q) (h : q < 18446744073709551616) : M.cnt q = M.cnt (q / 256) + 1 := by
  by_cases hq : q / 256 = 0
  · rw [hq]
    exact M.cnt_unique q 1 (by omega) (by simp; omega) (by simp; omega) (by omega)
  · have hp := M.cnt_pos (q / 256) hq
    have h1 := M.cnt_lo (q / 256) hp
    have h2 := M.cnt_hi (q / 256) (by omega)
    have h8 := M.cnt_le (q / 256)
    obtain ⟨k, hk⟩ : ∃ k, M.cnt (q / 256) = k + 1 := ⟨M.cnt (q / 256) - 1, by omega⟩
    rw [hk] at h1 h2 h8 ⊢
    simp only [Nat.add_sub_cancel] at h1
    rw [Nat.pow_succ] at h2
    have hk7 : k ≤ 6 := by
      rcases Nat.lt_or_ge 6 k with h | h
      · have : k = 7 := by omega
        subst this
        simp at h1
        omega
      · exact h
    refine M.cnt_unique q (k + 1 + 1) (by omega) ?_ ?_ (by omega)
    · simp only [Nat.add_sub_cancel, Nat.pow_succ]; omega
    · simp only [Nat.pow_succ]; omega
theorem bytesK_step (q : Nat) (h0 : 0 < q) (h : q < 18446744073709551616) : M.bytesK (M.cnt q) q = M.bytesK (M.cnt (q / 256)) (q / 256) ++ [UInt8.ofNat (q % 256)] := by
  rw [cnt_succ q h0 h]; rfl

theorem conv1 (w : World) (X : Int) (c : UInt8) (hX : X = (c.toNat : Int)) :
    (convert 59 9 (.slice (some ⟨w.heap.size, 0, none⟩) 1 1)).run Tryd.prog (w.alloc (.cells #[.int .u8 X] 5)) = .ok (.string (M.bs [c])) (w.alloc (.cells #[.int .u8 X] 5)) :=
  run_convert_bytes_back (P := Tryd.prog) _ 59 9 5 ⟨w.heap.size, 0, none⟩ 1 [c] Tryd.underlying59 Tryd.underlying5 Tryd.underlying9 (fun j hj => by
    have h := World.cell?_alloc_mark w #[.int .u8 X] 5 (0, 0) j
    have e : (⟨w.heap.size, 0, none⟩ : Addr).add j = ⟨w.heap.size, j, none⟩ := by unfold Addr.add; split <;> simp_all
    rw [e, h]
    have hj0 : j = 0 := by simpa using hj
    subst hj0
    simp [hX])

end Go.Proofs.YtaceemaedpkigaaDoor
