/- What the reference's turn answers. -/
import Derived.Test.YtfghjadhpajmeaaDoorS3
import Derived.BigQuiet
namespace Go.Proofs.YtfghjadhpajmeaaDoor
open Go.RowKit
set_option linter.unusedVariables false
attribute [local go_sem ↓] zero47

theorem rrot_val (n k : Nat) (x : UInt32) (h : n + k = 32) : bits .or .u32 (vi x / 2 ^ n) (vi x * 2 ^ k % 4294967296) = vi (S.rotr n x) := by
  have e1 : (2 : Int) ^ k = ((2 ^ k : Nat) : Int) := by simp
  have e2 : (2 : Int) ^ n = ((2 ^ n : Nat) : Int) := by simp
  obtain rfl : k = 32 - n := by omega
  rw [← IntKind.wrap_u32', e1, e2, u_mul, u_shr, u_or]
  unfold S.rotr S.shr
  rw [UInt32.or_comm]
theorem rturn (x : UInt32) (n k : Nat) (h : n + k = 32) (h1 : 1 ≤ n) (h2 : n ≤ 31) (w : World) :
    Calls Tryd.prog 64 #[vw x, .int .i64 (n : Int)] w fun e w' => e = .returned (vw (S.rotr n x)) ∧ ∃ m, w' = w.drewN m := by
  have hr := rrot_val n k x h
  have hr' := hr
  rw [← IntKind.wrap_u32'] at hr'
  have hk : (32 : Int) - (n : Int) = (k : Int) := by omega
  have hk' : IntKind.i64.wrap (k : Int) = (k : Int) := by rw [IntKind.wrap_i64]; omega
  have hn0 : (0 : Int) ≤ (n : Int) := by omega
  have hk0 : (0 : Int) ≤ (k : Int) := by omega
  have hn32 : (n : Int) < 32 := by omega
  have hk32 : (k : Int) < 32 := by omega
  go_enter Tryd.func64, Tryd.ntmps64
  go_wp2_with fail
  go_quiet (fail)
  go_wp2_with fail
  go_ret
  exact ⟨rfl, _, rfl⟩

def kArr : Array Value := (S.kList.map vw).toArray
theorem kArr_size : kArr.size = 64 := by decide +kernel
theorem kArr_one : kArr.all (·.oneCell') = true := all_oneCell_toArray (fun v hv => by obtain ⟨x, _, rfl⟩ := List.mem_map.1 hv; rfl)
set_option maxRecDepth 8000 in
set_option maxHeartbeats 2000000 in
theorem rconsts (w : World) :
    Calls Tryd.prog 46 #[] w fun e w' => e = .returned (.agg kArr) ∧ Below w.heap.size w w' := by
  have hz64 := zero64_size
  have HZ : Hid ((w.alloc (.cells zero64 84)).heap[w.heap.size]? = some (.cells zero64 84 (0, 0))) := heap_alloc_new _ _
  have HB : Hid (Below w.heap.size w (w.alloc (.cells zero64 84))) := (Below.refl _ w).alloc (Nat.le_refl _) _
  go_enter Tryd.func46, Tryd.ntmps46
  go_wp2_with (refine wpList_store_row rfl 84 _ _ rfl w.heap.size kArr rfl (by kernel_rfl) 84 zero64 HZ.out (by rw [kArr_size]; exact info47) (by rw [kArr_size]; decide +kernel) kArr_one ?_)
  (try simp only [Exit.inBlock, Exit.then])
  refine bodyPost_ret (results_cell_row rfl _ _ _ 84 kArr (0, 0) _ rfl (setRow_heap _ _ _ _ _ _ HZ.out) und47 rfl (by rw [kArr_size]; exact info47)) rfl ?_
  exact ⟨rfl, below_setRow HB.out (Nat.le_refl _) _⟩
end Go.Proofs.YtfghjadhpajmeaaDoor
