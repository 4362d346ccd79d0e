/- New, and what a nil shelf answers. -/
import Derived.Test.YtgnajmiccbcacaaDoorH4
import Derived.Laws.MakeOwn
namespace Go.Proofs.YtgnajmiccbcacaaDoor
open Go.RowKit
set_option linter.unusedVariables false

def s0 : H.Sl := ⟨[], [], false⟩
def new (n : Nat) : H.Sh := ⟨false, 0, 0, 0, List.replicate n s0⟩
def zSl : Array Value := #[.string ⟨#[]⟩, .string ⟨#[]⟩, .bool false]
theorem made (n : Nat) : madeCells zSl (n * 3) = (H.slC (List.replicate n s0)).toArray := by
  have hl := H.slC_length (List.replicate n s0)
  rw [List.length_replicate] at hl
  apply Array.ext
  · rw [size_madeCells]; simp [hl]; omega
  · intro i h1 h2
    rw [size_madeCells] at h1
    have hq : (List.replicate n s0)[i / 3]? = some s0 := by rw [List.getElem?_replicate, if_pos (by omega)]
    obtain ⟨e0, e1, e2⟩ := H.slC_at _ _ _ hq
    have hg : ∀ v, (H.slC (List.replicate n s0))[i]? = some v → (H.slC (List.replicate n s0)).toArray[i] = v := fun v hv => by
      simp [List.getElem?_eq_some_iff] at hv
      simpa using hv.2
    have hz : (madeCells zSl (n * 3))[i] = zSl[i % 3]! := by simp [madeCells, zSl]
    rw [hz]
    rcases (by omega : i % 3 = 0 ∨ i % 3 = 1 ∨ i % 3 = 2) with r | r | r
    · have : i = i / 3 * 3 := by omega
      rw [r, hg (.string (M.bs s0.text)) (by rw [this]; exact e0)]; rfl
    · have : i = i / 3 * 3 + 1 := by omega
      rw [r, hg (.string (M.bs s0.sure)) (by rw [this]; exact e1)]; rfl
    · have : i = i / 3 * 3 + 2 := by omega
      rw [r, hg (.bool s0.un) (by rw [this]; exact e2)]; rfl
theorem info_parts {o : Option TypeInfo} {z : Option Value} {s b : Nat} (h : o.map (fun i => (i.zero, i.size, i.bytes)) = some (z, s, b)) : ∃ i, o = some i ∧ i.zero = z ∧ i.size = s ∧ i.bytes = b := by
  cases o with
  | none => simp at h
  | some i => simp at h; exact ⟨i, rfl, h⟩
set_option maxHeartbeats 1000000 in
theorem shNew_at (n : Nat) (hn : n ≤ 128) (w : World) :
    Calls Tryd.prog 9 #[.int .i64 (n : Int)] w fun e w' => ∃ b c, e = .returned (.pointer (some ⟨b, 0, none⟩)) ∧ w.heap.size ≤ b ∧ w.heap.size ≤ c ∧ SW w b c (new n) w' := by
  obtain ⟨i, hi, hz, hs, hb⟩ : ∃ i, Tryd.prog.info? 90 = some i ∧ i.zero = some (.agg zSl) ∧ i.size = 3 ∧ i.bytes = 40 :=
    info_parts (show (Tryd.prog.info? 90).map (fun i => (i.zero, i.size, i.bytes)) = some (some (.agg zSl), 3, 40) by kernel_rfl)
  have hmk := run_make (P := Tryd.prog) w 62 90 i (.agg zSl) Tryd.underlying62 hi hz .i64 .i64 (n : Int) (n : Int) (by omega) (by omega) (by rw [hb]; omega) (by omega)
  rw [hs, Int.toNat_natCast, show (Value.agg zSl).cells = zSl from rfl, made n] at hmk
  clear hi hz hs hb
  have hn' : (n : Int) ≤ 128 := by omega
  have hn0 : (0 : Int) ≤ (n : Int) := by omega
  go_enter Tryd.func9, Tryd.ntmps9
  go_wp2_with fail
  go_ret
  refine ⟨w.heap.size + 1, w.heap.size, rfl, by omega, by omega, ?_, ?_, by omega, ?_⟩
  · have h1 : (w.alloc (.cells (H.slC (List.replicate n s0)).toArray 90)).heap.size = w.heap.size + 1 := by simp
    have := heap_alloc_new (w.alloc (.cells (H.slC (List.replicate n s0)).toArray 90)) (.cells (H.shC (new n) w.heap.size).toArray 66)
    rw [h1] at this
    simpa [H.shC, new] using this
  · rw [Below.heap_alloc _ _ _ (by simp)]; exact heap_alloc_new _ _
  · exact Off2.of_below (((Below.refl _ w).alloc (Nat.le_refl _) _).alloc (by simp) _)

theorem reach_nil (W : World) : Calls Tryd.prog 60 #[.pointer none] W fun e w' => e = .returned (.int .i64 2) ∧ w' = W := by
  go_enter Tryd.func60, Tryd.ntmps60
  go_wp2_with fail
  go_ret
  exact ⟨rfl, rfl⟩
theorem reachSlot_nil (x : Int) (W : World) : Calls Tryd.prog 43 #[.pointer none, .int .i64 x] W fun e w' => e = .returned (.int .i64 2) ∧ w' = W := by
  have C : Hid (∀ W, Calls Tryd.prog 60 #[.pointer none] W fun e w' => e = .returned (.int .i64 2) ∧ w' = W) := reach_nil
  go_enter Tryd.func43, Tryd.ntmps43
  go_wp2_with (go_at_call 60; refine (C.out _).mono ?_; rintro e w' ⟨rfl, rfl⟩)
  go_ret
  exact ⟨rfl, rfl⟩
theorem Read_nil (x : Int) (W : World) : Calls Tryd.prog 51 #[.pointer none, .int .i64 x] W fun e w' => e = .returned (.tuple #[.string ⟨#[]⟩, .int .i64 2]) ∧ w' = W := by
  have C : Hid (∀ W, Calls Tryd.prog 43 #[.pointer none, .int .i64 x] W fun e w' => e = .returned (.int .i64 2) ∧ w' = W) := reachSlot_nil x
  go_enter Tryd.func51, Tryd.ntmps51
  go_wp2_with (go_at_call 43; refine (C.out _).mono ?_; rintro e w' ⟨rfl, rfl⟩)
  go_ret2
  exact ⟨rfl, rfl⟩
theorem Write_nil (x : Int) (t : ByteArray) (W : World) : Calls Tryd.prog 15 #[.pointer none, .int .i64 x, .string t] W fun e w' => e = .returned (.int .i64 2) ∧ w' = W := by
  have C : Hid (∀ W, Calls Tryd.prog 43 #[.pointer none, .int .i64 x] W fun e w' => e = .returned (.int .i64 2) ∧ w' = W) := reachSlot_nil x
  go_enter Tryd.func15, Tryd.ntmps15
  go_wp2_with (go_at_call 43; refine (C.out _).mono ?_; rintro e w' ⟨rfl, rfl⟩)
  go_ret
  exact ⟨rfl, rfl⟩
theorem Sync_nil (W : World) : Calls Tryd.prog 48 #[.pointer none] W fun e w' => e = .returned (.int .i64 2) ∧ w' = W := by
  have C : Hid (∀ W, Calls Tryd.prog 60 #[.pointer none] W fun e w' => e = .returned (.int .i64 2) ∧ w' = W) := reach_nil
  go_enter Tryd.func48, Tryd.ntmps48
  go_wp2_with (go_at_call 60; refine (C.out _).mono ?_; rintro e w' ⟨rfl, rfl⟩)
  go_ret
  exact ⟨rfl, rfl⟩
theorem Down_nil (W : World) : Calls Tryd.prog 28 #[.pointer none] W fun e w' => e = .returned (.bool true) ∧ w' = W := by
  go_enter Tryd.func28, Tryd.ntmps28
  go_wp2_with fail
  go_ret
  exact ⟨rfl, rfl⟩
theorem shLen_nil (W : World) : Calls Tryd.prog 30 #[.pointer none] W fun e w' => e = .returned (.int .i64 0) ∧ w' = W := by
  go_enter Tryd.func30, Tryd.ntmps30
  go_wp2_with fail
  go_ret
  exact ⟨rfl, rfl⟩
end Go.Proofs.YtgnajmiccbcacaaDoor
