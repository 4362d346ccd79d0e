/- What stamp.Hex answers: a digest's 64 digits. -/
import Derived.Test.YtkbggcmjicaifaaDoorS12
namespace Go.Proofs.YtkbggcmjicaifaaDoor
open Go.RowKit
set_option linter.unusedVariables false

def digits : List UInt8 := [48, 49, 50, 51, 52, 53, 54, 55, 56, 57, 97, 98, 99, 100, 101, 102]
def hexd (n : Nat) : UInt8 := digits.getD n 0
/-- digit j of a digest -/
def hexAt (d : List UInt8) (j : Nat) : UInt8 := if j % 2 = 0 then hexd ((S.by8 d (j / 2)).toNat / 16) else hexd ((S.by8 d (j / 2)).toNat % 16)
def hexB (d : List UInt8) : List UInt8 := (List.range 64).map (hexAt d)
theorem hexB_length (d) : (hexB d).length = 64 := by simp [hexB]
theorem hexB_at (d : List UInt8) (j : Nat) (h : j < 64) : (hexB d)[j]? = some (hexAt d j) := by simp [hexB, h]

def zero64b : Array Value := (List.replicate 64 (Value.int .u8 0)).toArray
theorem zero51 (W : World) : (zeroValue 83).run Tryd.prog W = .ok (.agg zero64b) W := by kernel_rfl
theorem zero64b_size : zero64b.size = 64 := by simp [zero64b]
attribute [local go_sem ↓] zero51
theorem index27 (BA : Array Value) (k : Nat) (v : Value) (hk : k < 32) (h : BA[k]? = some v) (W : World) : (Instr.index 27 (.agg BA) (.int .i64 k)).run Tryd.prog W = .ok v W := by
  simp [Instr.index, run_underlying und27, asIntOf, go_sem, hk, h, Tryd.sizeOf5]
def digS : ByteArray := ⟨#[48, 49, 50, 51, 52, 53, 54, 55, 56, 57, 97, 98, 99, 100, 101, 102]⟩
theorem digS_at (n : Nat) (h : n < 16) (k : IntKind) (W : World) : (Instr.index 9 (.string digS) (.int k n)).run Tryd.prog W = .ok (vb (hexd n)) W := by
  have hs : digS.size = 16 := rfl
  have e : digS[n]? = some (hexd n) := by
    have hh : ∀ m : Fin 16, digS[m.val]? = some (hexd m.val) := by decide +kernel
    exact hh ⟨n, h⟩
  simp [Instr.index, run_underlying Tryd.underlying9, asIntOf, go_sem, e]
theorem conv64 (W : World) (b : Nat) (C : Array Value) (T : TypeId) (l : List UInt8) (hl : l.length = 64) (hC : W.heap[b]? = some (.cells C T (0, 0))) (hc : ∀ j (hj : j < l.length), C[j]? = some (.int .u8 (l[j].toNat : Int))) :
    (convert 57 9 (.slice (some ⟨b, 0, none⟩) 64 64)).run Tryd.prog W = .ok (.string (M.bs l)) W := by
  rw [← hl]
  exact run_convert_bytes_back (P := Tryd.prog) _ 57 9 5 ⟨b, 0, none⟩ _ l Tryd.underlying57 Tryd.underlying5 Tryd.underlying9 (fun j hj => by
    rw [Addr.add_mid, Nat.zero_add, cell_of_row _ _ j C _ _ hC]; exact hc j hj)

set_option maxHeartbeats 1600000 in
theorem Hex_at (d : List UInt8) (hd : d.length = 32) (w : World) :
    Calls Tryd.prog 33 #[.agg (dg d)] w fun e w' => e = .returned (.string (M.bs (hexB d))) ∧ Below w.heap.size w w' := by
  have hA : Hid (∀ k, k < 32 → (dg d)[k]? = some (vb (S.by8 d k))) := fun k hk => dg_at d k (by omega)
  have hsA : (dg d).size = 32 := by rw [dg_size, hd]
  generalize dg d = A at *
  have HR : Hid (((w.alloc (.cells A 27)).alloc (.cells zero64b 83)).heap[w.heap.size]? = some (.cells A 27 (0, 0))) := by
    show _ = _; rw [Below.heap_alloc _ _ _ (by simp)]; exact heap_alloc_new _ _
  have hds := digS_at
  unfold digS at hds
  have HDS : Hid (∀ n, n < 16 → ∀ (k : IntKind) (W : World), (Instr.index 9 (.string ⟨#[48, 49, 50, 51, 52, 53, 54, 55, 56, 57, 97, 98, 99, 100, 101, 102]⟩) (.int k (n : Nat))).run Tryd.prog W = .ok (vb (hexd n)) W) := hds
  clear hds
  go_enter Tryd.func33, Tryd.ntmps33
  go_wp2_with (refine wpList_load_row rfl 27 _ rfl _ rfl 27 A (0, 0) _ HR.out und27 rfl (by rw [hsA]; exact info27) ?_)
  clear HR
  go_loopw [4, 5, 7] (fun u4 u5 u7 wr => ∃ (k : Nat) (C : Array Value), k ≤ 32 ∧ u7 = .int .i64 k ∧ wr = (w.alloc (.cells A 27)).alloc (.cells C 83) ∧ C.size = 64 ∧ ∀ j, j < 2 * k → C[j]? = some (vb (hexAt d j)))
    (fun _ _ u7 _ => 32 - (intOf u7).toNat)
  case atStart => exact ⟨0, zero64b, by omega, rfl, rfl, zero64b_size, fun j hj => by omega⟩
  case round =>
    obtain ⟨k, C, hk, rfl, rfl, hC, hCj⟩ := hrel
    have HC : Hid (∀ j, j < 2 * k → C[j]? = some (vb (hexAt d j))) := hCj
    clear hCj
    by_cases hlt : k < 32
    · have hx := index27 A k _ hlt (hA.out k hlt)
      obtain ⟨x, hxe⟩ : ∃ x, x = S.by8 d k := ⟨_, rfl⟩
      rw [← hxe] at hx
      have HX : Hid (x = S.by8 d k) := hxe
      clear hxe
      have hx8 := x.toNat_lt
      have d1 := HDS.out (x.toNat / 16) (by omega)
      have d2 := HDS.out (x.toNat % 16) (by omega)
      have e1 : ((x.toNat : Int) / 16) = ((x.toNat / 16 : Nat) : Int) := by omega
      have e2 : bits .and .u8 (x.toNat : Int) 15 = ((x.toNat % 16 : Nat) : Int) := by
        have hh : ∀ n : Fin 256, bits .and .u8 (n.val : Int) 15 = ((n.val % 16 : Nat) : Int) := by decide +kernel
        exact hh ⟨x.toNat, hx8⟩
      obtain ⟨n1, hn1⟩ : ∃ n, n = x.toNat / 16 := ⟨_, rfl⟩
      obtain ⟨n2, hn2⟩ : ∃ n, n = x.toNat % 16 := ⟨_, rfl⟩
      rw [← hn1] at d1 e1
      rw [← hn2] at d2 e2
      have HN1 : Hid (n1 = x.toNat / 16) := hn1
      have HN2 : Hid (n2 = x.toNat % 16) := hn2
      clear hn1 hn2
      obtain ⟨v0, hv0⟩ : ∃ v, C[2 * k]? = some v := ⟨C[2 * k]'(by omega), Array.getElem?_eq_getElem (by omega)⟩
      obtain ⟨v1, hv1⟩ : ∃ v, C[2 * k + 1]? = some v := ⟨C[2 * k + 1]'(by omega), Array.getElem?_eq_getElem (by omega)⟩
      go_wp2_with fail
      go_roundw
      case rel =>
        refine ⟨k + 1, _, by omega, by go_num, rfl, by simp [hC], fun j hj => ?_⟩
        by_cases h1 : j = 2 * k + 1
        · subst h1
          rw [Array.getElem?_setIfInBounds_self_of_lt (by simp; omega)]
          unfold hexAt
          rw [if_neg (by omega), show (2 * k + 1) / 2 = k by omega, HN2.out, HX.out]
        · rw [Array.getElem?_setIfInBounds_ne (by omega)]
          by_cases h2 : j = 2 * k
          · subst h2
            rw [Array.getElem?_setIfInBounds_self_of_lt (by omega)]
            unfold hexAt
            rw [if_pos (by omega), show 2 * k / 2 = k by omega, HN1.out, HX.out]
          · rw [Array.getElem?_setIfInBounds_ne (by omega)]; exact HC.out j (by omega)
      case measure => simp [intOf]; omega
    · have hdf : decide ((k : Int) < 32) = false := by simp; omega
      have hcv := conv64 ((w.alloc (.cells A 27)).alloc (.cells C 83)) (w.heap.size + 1) C 83 (hexB d) (hexB_length d) (by
        have := heap_alloc_new (w.alloc (.cells A 27)) (.cells C 83)
        rwa [show (w.alloc (.cells A 27)).heap.size = w.heap.size + 1 by simp] at this) (fun j hj => by
        rw [hexB_length] at hj
        rw [HC.out j (by omega)]
        have e : (hexB d)[j]? = some (hexB d)[j] := List.getElem?_eq_getElem (by rw [hexB_length]; exact hj)
        rw [hexB_at d j hj] at e
        exact congrArg (fun x => some (vb x)) (Option.some.inj e))
      clear HC HDS hA
      go_wp2_with fail
      go_ret
      exact ⟨rfl, ((Below.refl _ w).alloc (Nat.le_refl _) _).alloc (by simp) _⟩
end Go.Proofs.YtkbggcmjicaifaaDoor
