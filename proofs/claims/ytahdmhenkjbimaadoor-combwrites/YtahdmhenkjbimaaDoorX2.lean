/- What the reference's block answers: the state behind a block. -/
import Derived.Test.YtahdmhenkjbimaaDoorX1
import Derived.Test.YtahdmhenkjbimaaDoorMath
import Derived.Lib.Strings
import Derived.BigRegion
namespace Go.Proofs.YtahdmhenkjbimaaDoor
open Go.RowKit
set_option linter.unusedVariables false
attribute [local go_sem ↓] zero47

theorem indexS (l : List UInt8) (i : Nat) (hi : i < l.length) (z : Int) (hz : z = (i : Int)) (W : World) : (Instr.index 9 (.string (M.bs l)) (.int .i64 z)).run Tryd.prog W = .ok (vb (S.by8 l i)) W := by
  subst hz
  have hs := M.bs_size l
  have hb : S.by8 l i = l[i] := by simp [S.by8, hi]
  have h2 : (M.bs l)[i]'(by omega) = l[i] := by simp [M.bs]; rfl
  simp [Instr.index, run_underlying Tryd.underlying9, asIntOf, go_sem, hs, hi, hb, h2]
theorem alloc_at (W : World) (n : Nat) (h : W.heap.size = n) (o : Obj) : (W.alloc o).heap[n]? = some o := by subst h; exact heap_alloc_new _ _
theorem setRow_at (W : World) (n : Nat) (h : W.heap.size = n) (old cs : Array Value) (T : TypeId) : (W.alloc (.cells old T)).setRow n cs = W.alloc (.cells cs T) := by subst h; exact World.setRow_alloc_new _ _ _ _
theorem zero64_one : zero64.all (·.oneCell') = true := by kernel_rfl
theorem or4 (c0 c1 c2 c3 : UInt8) : bits .or .u32 (bits .or .u32 (bits .or .u32 ((c0.toNat : Int) % 4294967296 * 16777216 % 4294967296) ((c1.toNat : Int) % 4294967296 * 65536 % 4294967296)) ((c2.toNat : Int) % 4294967296 * 256 % 4294967296)) ((c3.toNat : Int) % 4294967296) = vi (S.word c0 c1 c2 c3) := by
  have h0 := c0.toNat_lt
  have h1 := c1.toNat_lt
  have h2 := c2.toNat_lt
  have h3 := c3.toNat_lt
  have e0 : (c0.toNat : Int) % 4294967296 * 16777216 % 4294967296 = ((c0.toNat * 16777216 : Nat) : Int) := by omega
  have e1 : (c1.toNat : Int) % 4294967296 * 65536 % 4294967296 = ((c1.toNat * 65536 : Nat) : Int) := by omega
  have e2 : (c2.toNat : Int) % 4294967296 * 256 % 4294967296 = ((c2.toNat * 256 : Nat) : Int) := by omega
  have e3 : (c3.toNat : Int) % 4294967296 = ((c3.toNat : Nat) : Int) := by omega
  rw [e0, e1, e2, e3, u32_or_nat _ _ (by omega) (by omega), nat_join 24 _ _ (by omega) (by omega), u32_or_nat _ _ (by omega) (by omega), nat_join 16 _ _ (by omega) (by omega), u32_or_nat _ _ (by omega) (by omega), nat_join 8 _ _ (by omega) (by omega)]
  unfold vi S.word
  rw [UInt32.toNat_ofNat_of_lt' (by show _ < 4294967296; omega)]
  omega
def stA (s : S.St) : Array Value := (s.toL.map vw).toArray
theorem stA_size (s : S.St) : (stA s).size = 8 := rfl
theorem stA_one (s : S.St) : (stA s).all (·.oneCell') = true := by kernel_rfl
theorem atSt_stA (s : S.St) (j : Nat) (hj : j < 8) : (stA s)[j]? = some (vw (s.toL.getD j 0)) := by
  rcases j with _ | _ | _ | _ | _ | _ | _ | _ | j
  all_goals first | rfl | omega
def zero8 : Array Value := (List.replicate 8 (Value.int .u32 0)).toArray
theorem zero59 (W : World) : (zeroValue 80).run Tryd.prog W = .ok (.agg zero8) W := by kernel_rfl
theorem info59 : (Tryd.prog.info? 80).map (·.size) = some 8 := by kernel_rfl

end Go.Proofs.YtahdmhenkjbimaaDoor
