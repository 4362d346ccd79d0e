/- What stamp.New, (*Press).Len, Sum, Add and stamp.Of do. -/
import Derived.Test.YtfbjakhanjbaeaaDoorS6
import Derived.Test.YtfbjakhanjbaeaaDoorS8
namespace Go.Proofs.YtfbjakhanjbaeaaDoor
open Go.RowKit
set_option linter.unusedVariables false

/-- the program's tables lie in their variables -/
structure GW (w : World) : Prop where
  k : KW w
  s : ∀ i, i < 8 → w.cell? ⟨0, i, none⟩ = some (vw (S.init.toL.getD i 0))
  z : 2 ≤ w.heap.size
theorem GW.below {B : Nat} {w w' : World} (h : GW w) (hb : Below B w w') (hB : 2 ≤ B) : GW w' :=
  ⟨fun t ht => by rw [hb.cell (p := ⟨1, t, none⟩) (show 1 < B by omega)]; exact h.k t ht, fun i hi => by rw [hb.cell (p := ⟨0, i, none⟩) (show 0 < B by omega)]; exact h.s i hi, Nat.le_trans h.z hb.size⟩
theorem GW.off {b : Nat} {w w' : World} (h : GW w) (o : Off b w w') (hb : 2 ≤ b) : GW w' := by
  have := h.z
  exact ⟨h.k.off o (by omega) (by omega), fun i hi => by rw [o.cell (p := ⟨0, i, none⟩) (show 0 < w.heap.size by omega) (show 0 ≠ b by omega)]; exact h.s i hi, Nat.le_trans h.z o.size⟩

def newC : Array Value := ((S.init.toL.map vw) ++ List.replicate 64 (Value.int .u8 0) ++ [Value.int .i64 0, Value.int .i64 0]).toArray
theorem newC_pc : PC newC S.init (List.replicate 64 0) 0 0 := by
  refine ⟨by simp [newC, S.St.toL], fun i hi => ?_, fun i hi => ?_, ?_, ?_⟩
  · unfold newC
    rw [List.getElem?_toArray, List.append_assoc, List.getElem?_append_left (by simp [S.St.toL]; omega)]
    rcases i with _ | _ | _ | _ | _ | _ | _ | _ | i
    all_goals first | rfl | omega
  · unfold newC
    rw [List.getElem?_toArray, List.getElem?_append_left (by simp [S.St.toL]; omega), List.getElem?_append_right (by simp [S.St.toL]), List.getElem?_replicate, if_pos (by simp [S.St.toL]; omega)]
    have : S.by8 (List.replicate 64 0) i = 0 := by8_zeroB i hi
    rw [this]; rfl
  · unfold newC; rw [List.getElem?_toArray, List.getElem?_append_right (by simp [S.St.toL])]; simp [S.St.toL]
  · unfold newC; rw [List.getElem?_toArray, List.getElem?_append_right (by simp [S.St.toL])]; simp [S.St.toL]
theorem newC_pr (w : World) : PrN w.heap.size [] 0 (w.alloc (.cells newC 95)) :=
  ⟨newC, List.replicate 64 0, heap_alloc_new _ _, newC_pc, rfl, by simp⟩
def zero74 : Array Value := (List.replicate 8 (Value.int .u32 0) ++ List.replicate 64 (Value.int .u8 0) ++ [Value.int .i64 0, Value.int .i64 0]).toArray
theorem zero54 (W : World) : (zeroValue 95).run Tryd.prog W = .ok (.agg zero74) W := by kernel_rfl
theorem fold54 : List.foldl (fun cs x => cs.setIfInBounds x.snd x.fst) zero74 (S.init.toL.map vw).zipIdx = newC := by kernel_rfl
theorem New_at (w : World) (hG : Hid (GW w)) : Calls Tryd.prog 42 #[] w fun e w' => e = .returned (.pointer (some ⟨w.heap.size, 0, none⟩)) ∧ w' = w.alloc (.cells newC 95) := by
  have hrow : w.rangeAt 0 0 (S.init.toL.map vw) := fun j v hv => by
    have hj : j < 8 := (List.getElem?_eq_some_iff.1 hv).1
    rw [Nat.zero_add, hG.out.s j hj, ← hv, List.getElem?_map]
    rcases j with _ | _ | _ | _ | _ | _ | _ | _ | j
    all_goals first | rfl | omega
  obtain ⟨Z, hz, hZ, hf⟩ : ∃ Z : Array Value, (∀ W, (zeroValue 95).run Tryd.prog W = .ok (.agg Z) W) ∧ Z.size = 74 ∧ List.foldl (fun cs x => cs.setIfInBounds x.snd x.fst) Z (S.init.toL.map vw).zipIdx = newC :=
    ⟨zero74, zero54, by simp [zero74], fold54⟩
  generalize hL : S.init.toL.map vw = L at *
  have hLl : L.length = 8 := by rw [← hL]; rfl
  clear hL
  go_enter Tryd.func42, Tryd.ntmps42
  go_wp2_with (refine wpList_load_mid rfl 92 _ rfl 0 0 rfl L _ hrow und52 rfl (by rw [hLl]; exact info52) ?_)
  go_ret
  exact ⟨rfl, rfl⟩
end Go.Proofs.YtfbjakhanjbaeaaDoor
