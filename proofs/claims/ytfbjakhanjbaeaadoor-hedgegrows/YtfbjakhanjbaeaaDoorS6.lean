/- What stamp's state.digest answers: the state's 32 bytes. -/
import Derived.Test.YtfbjakhanjbaeaaDoorS5
namespace Go.Proofs.YtfbjakhanjbaeaaDoor
open Go.RowKit
set_option linter.unusedVariables false

theorem und27 : Tryd.prog.underlying 24 = some (.array 32 5) := by kernel_rfl
theorem und52 : Tryd.prog.underlying 92 = some (.array 8 90) := by kernel_rfl
theorem info27 : (Tryd.prog.info? 24).map (·.size) = some 32 := by kernel_rfl
theorem info52 : (Tryd.prog.info? 92).map (·.size) = some 8 := by kernel_rfl
def zero32 : Array Value := (List.replicate 32 (Value.int .u8 0)).toArray
theorem zero27 (W : World) : (zeroValue 24).run Tryd.prog W = .ok (.agg zero32) W := by kernel_rfl
theorem zero32_size : zero32.size = 32 := by simp [zero32]
attribute [local go_sem ↓] zero27
/-- a digest as a value -/
def dg (d : List UInt8) : Array Value := (d.map vb).toArray
theorem dg_size (d : List UInt8) : (dg d).size = d.length := by simp [dg]
theorem dg_one (d : List UInt8) : (dg d).all (·.oneCell') = true := all_oneCell_toArray (fun v hv => by obtain ⟨x, _, rfl⟩ := List.mem_map.1 hv; rfl)
def dAt (s : S.St) (i : Nat) : UInt8 := UInt8.ofNat ((s.toL.getD (i / 4) 0).toNat / 2 ^ (24 - 8 * (i % 4)))
theorem shr_byte (x : UInt32) (e : Nat) : vi x / 2 ^ e % 256 = ((UInt8.ofNat (x.toNat / 2 ^ e)).toNat : Int) := by
  unfold vi
  rw [UInt8.toNat_ofNat']
  simp

set_option maxHeartbeats 1600000 in
theorem digest (s : S.St) (SA : Array Value) (hsz : SA.size = 8) (hSA : Hid (AtSt SA s)) (w : World) :
    Calls Tryd.prog 60 #[.agg SA] w fun e w' => e = .returned (.agg (dg (S.digB s))) ∧ Below w.heap.size w w' := by
  go_enter Tryd.func60, Tryd.ntmps60
  go_wp2_with fail
  go_loopw [4, 5] (fun u4 u5 wr => ∃ (k : Nat) (C : Array Value), k ≤ 32 ∧ u5 = .int .i64 k ∧ wr = ((w.alloc (.cells SA 92)).alloc (.cells zero32 24)).alloc (.cells C 24) ∧ C.size = 32 ∧ ∀ j, j < k → C[j]? = some (vb (dAt s j)))
    (fun _ u5 _ => 32 - (intOf u5).toNat)
  case atStart => exact ⟨0, zero32, by omega, rfl, rfl, zero32_size, fun j hj => by omega⟩
  case round =>
    obtain ⟨k, C, hk, rfl, rfl, hC, hCj⟩ := hrel
    have HC : Hid (∀ j, j < k → C[j]? = some (vb (dAt s j))) := hCj
    clear hCj
    by_cases hlt : k < 32
    · have hx := hSA.out (k / 4) (by omega)
      obtain ⟨v0, hv0⟩ : ∃ v, C[k]? = some v := ⟨C[k]'(by omega), Array.getElem?_eq_getElem (by omega)⟩
      have hb := shr_byte (s.toL.getD (k / 4) 0) (24 - 8 * (k % 4))
      obtain ⟨e, he⟩ : ∃ e, e = 24 - 8 * (k % 4) := ⟨_, rfl⟩
      rw [← he] at hb
      have heI : (24 : Int) - (k : Int) % 4 * 8 = (e : Int) := by omega
      have heI2 : (24 : Int) - (k : Int).tmod 4 * 8 = (e : Int) := by rw [Int.tmod_eq_emod_of_nonneg (by omega)]; omega
      have HE : Hid (e = 24 - 8 * (k % 4)) := he
      have he32 : e ≤ 32 := by omega
      clear he
      obtain ⟨x, hxe⟩ : ∃ x, x = s.toL.getD (k / 4) 0 := ⟨_, rfl⟩
      rw [← hxe] at hx hb
      have HX : Hid (x = s.toL.getD (k / 4) 0) := hxe
      clear hxe
      go_wp2_with fail
      go_roundw
      case rel =>
        have hv : (x.toNat : Int) / 2 ^ e % 256 = ((dAt s k).toNat : Int) := by
          have := shr_byte x e
          unfold vi at this
          rw [this, HE.out, HX.out]; rfl
        rw [hv]
        refine ⟨k + 1, _, by omega, by go_num, rfl, by simp [hC], fun j hj => ?_⟩
        by_cases hjk : j = k
        · subst hjk; rw [Array.getElem?_setIfInBounds_self_of_lt (by omega)]
        · rw [Array.getElem?_setIfInBounds_ne (by omega)]; exact HC.out j (by omega)
      case measure => simp [intOf]; omega
    · have hdf : decide ((k : Int) < 32) = false := by simp; omega
      have hCd : C = dg (S.digB s) := by
        apply Array.ext_getElem?
        intro i
        by_cases hi : i < 32
        · rw [HC.out i (by omega)]
          simp [dg, S.digB, hi, dAt]
        · rw [Array.getElem?_eq_none (by omega), Array.getElem?_eq_none (by rw [dg_size, S.digB_length]; omega)]
      have hone : C.all (·.oneCell') = true := by rw [hCd]; exact dg_one _
      have H1 : Hid ((((w.alloc (.cells SA 92)).alloc (.cells zero32 24)).alloc (.cells C 24)).heap[w.heap.size + 1]? = some (.cells zero32 24 (0, 0))) := by
        show _ = _
        rw [Below.heap_alloc _ _ _ (by simp)]
        have := heap_alloc_new (w.alloc (.cells SA 92)) (.cells zero32 24)
        rw [show (w.alloc (.cells SA 92)).heap.size = w.heap.size + 1 by simp] at this
        exact this
      have H2 : Hid ((((w.alloc (.cells SA 92)).alloc (.cells zero32 24)).alloc (.cells C 24)).heap[w.heap.size + 1 + 1]? = some (.cells C 24 (0, 0))) := by
        have := heap_alloc_new ((w.alloc (.cells SA 92)).alloc (.cells zero32 24)) (.cells C 24)
        rw [show ((w.alloc (.cells SA 92)).alloc (.cells zero32 24)).heap.size = w.heap.size + 1 + 1 by simp] at this
        exact this
      have HW : Hid (Below w.heap.size w (((w.alloc (.cells SA 92)).alloc (.cells zero32 24)).alloc (.cells C 24))) :=
        (((Below.refl _ w).alloc (Nat.le_refl _) _).alloc (by simp) _).alloc (by simp; omega) _
      have HF : Hid (C = dg (S.digB s)) := hCd
      clear hCd HC hSA
      generalize (((w.alloc (.cells SA 92)).alloc (.cells zero32 24)).alloc (.cells C 24)) = W2 at *
      go_wp2_with (first
        | refine wpList_load_row rfl 24 _ rfl _ rfl 24 C (0, 0) _ H2.out und27 rfl (by rw [hC]; exact info27) ?_
        | refine wpList_store_row rfl 24 _ _ rfl _ C rfl rfl 24 zero32 H1.out (by rw [hC]; exact info27) (by rw [zero32_size, hC]) hone ?_)
      (try simp only [Exit.inBlock, Exit.then])
      refine bodyPost_ret (results_cell_row rfl _ _ _ 24 C (0, 0) _ rfl (setRow_heap _ _ _ _ _ _ H1.out) und27 rfl (by rw [hC]; exact info27)) rfl ?_
      exact ⟨by rw [HF.out], below_setRow HW.out (by omega) _⟩
end Go.Proofs.YtfbjakhanjbaeaaDoor
