/- slices.IndexFunc and slices.ContainsFunc at a function value with its receiver or what it captured. -/
import Derived.Test.YthpdmeoljdmncaaZ2
namespace Go.Proofs.Ythpdmeoljdmncaa
open Go.RowKit
set_option linter.unusedVariables false

set_option maxRecDepth 8000 in
set_option maxHeartbeats 2000000 in
theorem IndexA_b (f : FuncId) (r : Value) (p : RC.Ac → Bool) (l : List RC.Ac) (a : Option Addr) (c : Nat) {w W : World} (HB : Bl w W)
    (hent : ∀ args w, (callFunc f args).run Try.prog w = .ok (.enter f args) w) (hv : Acts W.heap.size W a l) (hn : l.length ≤ maxLen)
    (hf : ∀ (W' : World) (t : RC.Ac) (x : Option Addr) (c : Nat), t ∈ l → Bl W W' → Strs W'.heap.size W' (.slice x t.2.1.length c) t.2.1 → Calls Try.prog f #[r, .agg (acL t x c).toArray] W' fun e w' => e = .returned (.bool (p t)) ∧ Bl W' w') :
    Calls Try.prog 27 #[.slice a l.length c, .func (.func f) #[r] #[]] W fun e w' => e = .returned (.int .i64 (idxI p l)) ∧ Bl w w' := by
  have HV : Hid (Acts W.heap.size W a l) := hv
  have HF0 : Hid (∀ (W' : World) (t : RC.Ac) (x : Option Addr) (c : Nat), t ∈ l → Bl W W' → Strs W'.heap.size W' (.slice x t.2.1.length c) t.2.1 → Calls Try.prog f #[r, .agg (acL t x c).toArray] W' fun e w' => e = .returned (.bool (p t)) ∧ Bl W' w') := hf
  have HB0 : Hid (Bl w W) := HB
  obtain ⟨fs, hum⟩ := undAc
  clear hv hf HB
  unfold maxLen at hn
  go_enter Try.func27, Try.ntmps27
  go_wp2_with fail
  go_loopw [5, 8] (fun u5 u8 wr => ∃ k : Nat, k ≤ l.length ∧ u8 = .int .i64 k ∧ (∀ i e, i < k → l[i]? = some e → p e = false) ∧ Bl W wr) (fun _ u8 _ => l.length - (intOf u8).toNat)
  case atStart => exact ⟨0, Nat.zero_le _, rfl, fun i e hi => by omega, Bl.refl W⟩
  case round =>
    obtain ⟨k, hk, rfl, hpre, hbl⟩ := hrel
    have HP : Hid (∀ i e, i < k → l[i]? = some e → p e = false) := hpre
    have HBR : Hid (Bl W wr) := hbl
    clear hpre hbl
    by_cases hlt : k < l.length
    · obtain ⟨t, ht⟩ : ∃ t, l[k]? = some t := ⟨l[k], List.getElem?_eq_getElem hlt⟩
      obtain ⟨b, off, x, c2, rfl, hb, hr, hs⟩ := HV.out.bl HBR.out k t ht
      have HR : Hid (wr.rangeAt b (off + k * 3) (acL t x c2)) := hr
      obtain ⟨q, hq⟩ : ∃ q, p t = q := ⟨_, rfl⟩
      have CN : Hid (Calls Try.prog f #[r, .agg (acL t x c2).toArray] wr fun e w' => e = .returned (.bool q) ∧ Bl W w') := by
        show Calls _ _ _ _ _
        rw [← hq]
        refine (HF0.out wr t x c2 (List.mem_of_getElem? ht) HBR.out hs).mono ?_
        rintro e w' ⟨rfl, hb'⟩
        exact ⟨rfl, HBR.out.step hb'⟩
      have HF : Hid (q = true → idxI p l = (k : Int)) := fun h => idxI_of HP.out ht (by rw [hq]; exact h)
      have HE : Hid (q = false → ∀ i e, i < k + 1 → l[i]? = some e → p e = false) := fun h i e hi he => by
        rcases (by omega : i < k ∨ i = k) with h' | rfl
        · exact HP.out i e h' he
        · rw [ht] at he; cases he; rw [hq]; exact h
      have hi := infoAc t x c2
      clear ht hq hr hs HF0 HV
      generalize acL t x c2 = SL at *
      cases q
      · go_wp2_with (first
          | (refine wpList_load_mid rfl 41 _ rfl b (off + k * 3) rfl SL _ HR.out hum rfl hi ?_)
          | (go_at_fn f; refine CN.out.mono ?_; rintro e w' ⟨rfl, hy⟩))
        go_roundw
        case rel => exact ⟨k + 1, by omega, by go_num, HE.out trivial, hy⟩
        case measure => simp [intOf]; omega
      · go_wp2_with (first
          | (refine wpList_load_mid rfl 41 _ rfl b (off + k * 3) rfl SL _ HR.out hum rfl hi ?_)
          | (go_at_fn f; refine CN.out.mono ?_; rintro e w' ⟨rfl, hy⟩))
        go_ret
        exact ⟨by rw [HF.out trivial]; rfl, HB0.out.step hy⟩
    · obtain rfl : k = l.length := by omega
      have HF : Hid (idxI p l = -1) := idxI_none HP.out
      go_wp2_with fail
      go_ret
      exact ⟨by rw [HF.out]; rfl, HB0.out.step HBR.out⟩
theorem ContainsA_b (f : FuncId) (r : Value) (p : RC.Ac → Bool) (l : List RC.Ac) (a : Option Addr) (c : Nat) {w W : World}
    (CI : Calls Try.prog 27 #[.slice a l.length c, .func (.func f) #[r] #[]] W fun e w' => e = .returned (.int .i64 (idxI p l)) ∧ Bl w w') :
    Calls Try.prog 42 #[.slice a l.length c, .func (.func f) #[r] #[]] W fun e w' => e = .returned (.bool (l.any p)) ∧ Bl w w' := by
  have HA : Hid (decide (0 ≤ idxI p l) = l.any p) := idxI_any _ l
  generalize idxI p l = i at *
  have CX : Hid (Calls Try.prog 27 #[.slice a l.length c, .func (.func f) #[r] #[]] W fun e w' => e = .returned (.int .i64 i) ∧ Bl w w') := CI
  clear CI
  go_enter Try.func42, Try.ntmps42
  go_wp2_with (go_at_call 27; refine CX.out.mono ?_; rintro e w' ⟨rfl, HB⟩)
  go_ret
  exact ⟨by rw [← HA.out]; rfl, HB⟩
set_option maxRecDepth 8000 in
set_option maxHeartbeats 2000000 in
theorem IndexA_c (f : FuncId) (caps : Array Value) (p : RC.Ac → Bool) (l : List RC.Ac) (a : Option Addr) (c : Nat) {w W : World} (HB : Bl w W)
    (hent : ∀ args w, (callFunc f args).run Try.prog w = .ok (.enter f args) w) (hv : Acts W.heap.size W a l) (hn : l.length ≤ maxLen)
    (hf : ∀ (W' : World) (t : RC.Ac) (x : Option Addr) (c : Nat), t ∈ l → Bl W W' → Strs W'.heap.size W' (.slice x t.2.1.length c) t.2.1 → Calls Try.prog f (#[.agg (acL t x c).toArray] ++ caps) W' fun e w' => e = .returned (.bool (p t)) ∧ Bl W' w') :
    Calls Try.prog 27 #[.slice a l.length c, .func (.func f) #[] caps] W fun e w' => e = .returned (.int .i64 (idxI p l)) ∧ Bl w w' := by
  have HV : Hid (Acts W.heap.size W a l) := hv
  have HF0 : Hid (∀ (W' : World) (t : RC.Ac) (x : Option Addr) (c : Nat), t ∈ l → Bl W W' → Strs W'.heap.size W' (.slice x t.2.1.length c) t.2.1 → Calls Try.prog f (#[.agg (acL t x c).toArray] ++ caps) W' fun e w' => e = .returned (.bool (p t)) ∧ Bl W' w') := hf
  have HB0 : Hid (Bl w W) := HB
  obtain ⟨fs, hum⟩ := undAc
  clear hv hf HB
  unfold maxLen at hn
  go_enter Try.func27, Try.ntmps27
  go_wp2_with fail
  go_loopw [5, 8] (fun u5 u8 wr => ∃ k : Nat, k ≤ l.length ∧ u8 = .int .i64 k ∧ (∀ i e, i < k → l[i]? = some e → p e = false) ∧ Bl W wr) (fun _ u8 _ => l.length - (intOf u8).toNat)
  case atStart => exact ⟨0, Nat.zero_le _, rfl, fun i e hi => by omega, Bl.refl W⟩
  case round =>
    obtain ⟨k, hk, rfl, hpre, hbl⟩ := hrel
    have HP : Hid (∀ i e, i < k → l[i]? = some e → p e = false) := hpre
    have HBR : Hid (Bl W wr) := hbl
    clear hpre hbl
    by_cases hlt : k < l.length
    · obtain ⟨t, ht⟩ : ∃ t, l[k]? = some t := ⟨l[k], List.getElem?_eq_getElem hlt⟩
      obtain ⟨b, off, x, c2, rfl, hb, hr, hs⟩ := HV.out.bl HBR.out k t ht
      have HR : Hid (wr.rangeAt b (off + k * 3) (acL t x c2)) := hr
      obtain ⟨q, hq⟩ : ∃ q, p t = q := ⟨_, rfl⟩
      have CN : Hid (Calls Try.prog f (#[.agg (acL t x c2).toArray] ++ caps) wr fun e w' => e = .returned (.bool q) ∧ Bl W w') := by
        show Calls _ _ _ _ _
        rw [← hq]
        refine (HF0.out wr t x c2 (List.mem_of_getElem? ht) HBR.out hs).mono ?_
        rintro e w' ⟨rfl, hb'⟩
        exact ⟨rfl, HBR.out.step hb'⟩
      have HF : Hid (q = true → idxI p l = (k : Int)) := fun h => idxI_of HP.out ht (by rw [hq]; exact h)
      have HE : Hid (q = false → ∀ i e, i < k + 1 → l[i]? = some e → p e = false) := fun h i e hi he => by
        rcases (by omega : i < k ∨ i = k) with h' | rfl
        · exact HP.out i e h' he
        · rw [ht] at he; cases he; rw [hq]; exact h
      have hi := infoAc t x c2
      clear ht hq hr hs HF0 HV
      generalize acL t x c2 = SL at *
      cases q
      · go_wp2_with (first
          | (refine wpList_load_mid rfl 41 _ rfl b (off + k * 3) rfl SL _ HR.out hum rfl hi ?_)
          | (go_at_fn f; refine CN.out.mono ?_; rintro e w' ⟨rfl, hy⟩))
        go_roundw
        case rel => exact ⟨k + 1, by omega, by go_num, HE.out trivial, hy⟩
        case measure => simp [intOf]; omega
      · go_wp2_with (first
          | (refine wpList_load_mid rfl 41 _ rfl b (off + k * 3) rfl SL _ HR.out hum rfl hi ?_)
          | (go_at_fn f; refine CN.out.mono ?_; rintro e w' ⟨rfl, hy⟩))
        go_ret
        exact ⟨by rw [HF.out trivial]; rfl, HB0.out.step hy⟩
    · obtain rfl : k = l.length := by omega
      have HF : Hid (idxI p l = -1) := idxI_none HP.out
      go_wp2_with fail
      go_ret
      exact ⟨by rw [HF.out]; rfl, HB0.out.step HBR.out⟩
set_option maxRecDepth 8000 in
set_option maxHeartbeats 2000000 in
theorem IndexS_c (f : FuncId) (caps : Array Value) (p : List UInt8 → Bool) (l : List (List UInt8)) (a : Option Addr) (c : Nat) (W : World)
    (hent : ∀ args w, (callFunc f args).run Try.prog w = .ok (.enter f args) w) (hv : SA W a l) (hn : l.length ≤ maxLen)
    (hf : ∀ (t : List UInt8), t ∈ l → Calls Try.prog f (#[.string (M.bs t)] ++ caps) W fun e w' => e = .returned (.bool (p t)) ∧ w' = W) :
    Calls Try.prog 80 #[.slice a l.length c, .func (.func f) #[] caps] W fun e w' => e = .returned (.int .i64 (idxI p l)) ∧ w' = W := by
  have HV : Hid (SA W a l) := hv
  have HF0 : Hid (∀ (t : List UInt8), t ∈ l → Calls Try.prog f (#[.string (M.bs t)] ++ caps) W fun e w' => e = .returned (.bool (p t)) ∧ w' = W) := hf
  clear hv hf
  unfold maxLen at hn
  go_enter Try.func80, Try.ntmps80
  go_wp2_with fail
  go_loop [5, 8] (fun u5 u8 => ∃ k : Nat, k ≤ l.length ∧ u8 = .int .i64 k ∧ ∀ i e, i < k → l[i]? = some e → p e = false) (fun _ u8 => l.length - (intOf u8).toNat)
  case atStart => exact ⟨0, Nat.zero_le _, rfl, fun i e hi => by omega⟩
  case round =>
    obtain ⟨k, hk, rfl, hpre⟩ := hrel
    have HP : Hid (∀ i e, i < k → l[i]? = some e → p e = false) := hpre
    clear hpre
    by_cases hlt : k < l.length
    · obtain ⟨t, ht⟩ : ∃ t, l[k]? = some t := ⟨l[k], List.getElem?_eq_getElem hlt⟩
      obtain ⟨b, off, rfl, hc⟩ := HV.out k t ht
      obtain ⟨q, hq⟩ : ∃ q, p t = q := ⟨_, rfl⟩
      have CN : Hid (Calls Try.prog f (#[.string (M.bs t)] ++ caps) W fun e w' => e = .returned (.bool q) ∧ w' = W) := by
        show Calls _ _ _ _ _
        rw [← hq]; exact HF0.out t (List.mem_of_getElem? ht)
      have HF : Hid (q = true → idxI p l = (k : Int)) := fun h => idxI_of HP.out ht (by rw [hq]; exact h)
      have HE : Hid (q = false → ∀ i e, i < k + 1 → l[i]? = some e → p e = false) := fun h i e hi he => by
        rcases (by omega : i < k ∨ i = k) with h' | rfl
        · exact HP.out i e h' he
        · rw [ht] at he; cases he; rw [hq]; exact h
      clear ht hq HF0 HV
      cases q
      · go_wp2_with (go_at_fn f; refine CN.out.mono ?_; rintro e w' ⟨rfl, rfl⟩)
        go_round
        case rel => exact ⟨k + 1, by omega, by go_num, HE.out trivial⟩
        case measure => simp [intOf]; omega
      · go_wp2_with (go_at_fn f; refine CN.out.mono ?_; rintro e w' ⟨rfl, rfl⟩)
        go_ret
        exact ⟨by rw [HF.out trivial]; rfl, rfl⟩
    · obtain rfl : k = l.length := by omega
      have HF : Hid (idxI p l = -1) := idxI_none HP.out
      go_wp2_with fail
      go_ret
      exact ⟨by rw [HF.out]; rfl, rfl⟩
theorem ContainsS_c (f : FuncId) (caps : Array Value) (p : List UInt8 → Bool) (l : List (List UInt8)) (a : Option Addr) (c : Nat) (W : World)
    (CI : Calls Try.prog 80 #[.slice a l.length c, .func (.func f) #[] caps] W fun e w' => e = .returned (.int .i64 (idxI p l)) ∧ w' = W) :
    Calls Try.prog 57 #[.slice a l.length c, .func (.func f) #[] caps] W fun e w' => e = .returned (.bool (l.any p)) ∧ w' = W := by
  have HA : Hid (decide (0 ≤ idxI p l) = l.any p) := idxI_any _ l
  generalize idxI p l = i at *
  have CX : Hid (Calls Try.prog 80 #[.slice a l.length c, .func (.func f) #[] caps] W fun e w' => e = .returned (.int .i64 i) ∧ w' = W) := CI
  clear CI
  go_enter Try.func57, Try.ntmps57
  go_wp2_with (go_at_call 80; refine CX.out.mono ?_; rintro e w' ⟨rfl, rfl⟩)
  go_ret
  exact ⟨by rw [← HA.out]; rfl, rfl⟩
end Go.Proofs.Ythpdmeoljdmncaa
