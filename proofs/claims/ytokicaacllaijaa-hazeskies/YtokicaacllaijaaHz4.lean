/- Count, and the reference's. -/
import Derived.Test.YtokicaacllaijaaHz1
import Derived.Test.YtokicaacllaijaaRegT
namespace Go.Proofs.Ytokicaacllaijaa
open Go.RowKit
set_option linter.unusedVariables false
set_option linter.unusedSimpArgs false
attribute [local go_sem ↓] zeroH zeroD

def popT : ByteArray := ⟨#[0, 1, 1, 2, 1, 2, 2, 3, 1, 2, 2, 3, 2, 3, 3, 4, 1, 2, 2, 3, 2, 3, 3, 4, 2, 3, 3, 4, 3, 4, 4, 5, 1, 2, 2, 3, 2, 3, 3, 4, 2, 3, 3, 4, 3, 4, 4, 5, 2, 3, 3, 4, 3, 4, 4, 5, 3, 4, 4, 5, 4, 5, 5, 6, 1, 2, 2, 3, 2, 3, 3, 4, 2, 3, 3, 4, 3, 4, 4, 5, 2, 3, 3, 4, 3, 4, 4, 5, 3, 4, 4, 5, 4, 5, 5, 6, 2, 3, 3, 4, 3, 4, 4, 5, 3, 4, 4, 5, 4, 5, 5, 6, 3, 4, 4, 5, 4, 5, 5, 6, 4, 5, 5, 6, 5, 6, 6, 7, 1, 2, 2, 3, 2, 3, 3, 4, 2, 3, 3, 4, 3, 4, 4, 5, 2, 3, 3, 4, 3, 4, 4, 5, 3, 4, 4, 5, 4, 5, 5, 6, 2, 3, 3, 4, 3, 4, 4, 5, 3, 4, 4, 5, 4, 5, 5, 6, 3, 4, 4, 5, 4, 5, 5, 6, 4, 5, 5, 6, 5, 6, 6, 7, 2, 3, 3, 4, 3, 4, 4, 5, 3, 4, 4, 5, 4, 5, 5, 6, 3, 4, 4, 5, 4, 5, 5, 6, 4, 5, 5, 6, 5, 6, 6, 7, 3, 4, 4, 5, 4, 5, 5, 6, 4, 5, 5, 6, 5, 6, 6, 7, 4, 5, 5, 6, 5, 6, 6, 7, 5, 6, 6, 7, 6, 7, 7, 8]⟩
set_option maxRecDepth 4000 in
theorem popT_size : popT.size = 256 := by rfl
theorem popT_all : ∀ n : Fin 256, (popT.data[n.val]?.getD 0).toNat = HZ.pc (UInt8.ofNat n.val) := by decide +kernel
theorem ones_end (x : UInt8) (h : x.toNat < popT.size) : wrap64 ((popT[x.toNat]'h).toNat : Int) = (HZ.pc x : Int) := by
  have e : (popT[x.toNat]'h).toNat = HZ.pc x := by
    have := popT_all ⟨x.toNat, x.toNat_lt⟩
    have hd : popT.data[x.toNat]? = some (popT[x.toNat]'h) := Array.getElem?_eq_getElem (xs := popT.data) h
    simp only [hd, Option.getD_some, UInt8.ofNat_toNat] at this
    exact this
  rw [e]
  have := HZ.pc_le x
  unfold wrap64
  omega
set_option maxRecDepth 8000 in
set_option maxHeartbeats 2000000 in
theorem ones_x (x : UInt8) (W : World) : Calls Try.prog 31 #[.int .u8 (x.toNat : Int)] W fun e w' => e = .returned (.int .i64 (HZ.pc x : Int)) ∧ w' = W := by
  have hx := x.toNat_lt
  go_enter Try.func31, Try.ntmps31
  go_wp2_with fail
  go_ret
  exact ⟨congrArg (fun z => Ending.returned (Value.int .i64 z)) (ones_end x hx), rfl⟩
set_option maxRecDepth 8000 in
set_option maxHeartbeats 2000000 in
theorem Count_x (h : HZ.H) (W : World) : Calls Try.prog 17 #[.agg (hC h).toArray] W fun e w' => e = .returned (.int .i64 (h.ct : Int)) ∧ Bl W w' := by
  have HB0 : Hid (Bl W (W.alloc (.cells (hC h).toArray tH))) := (Bl.refl W).alloc _
  have RH : (W.alloc (.cells (hC h).toArray tH)).rangeAt W.heap.size 0 (hC h) := range_of (heap_alloc_new W _)
  have HIH : Hid ((Try.prog.info? tH).map (·.size) = some (hC h).length) := by show _ = _; rw [hC_len]; exact infoH
  have HX : Hid (∀ i : Nat, i < 64 → ∀ U, (Instr.index tH (.agg (hC h).toArray) (.int .i64 (i : Int))).run Try.prog U = .ok (.int .u8 ((h.b i).toNat : Int)) U) := fun i hi => idx_agg _ _ 64 _ i _ undH hi Try.sizeOf5 Try.isAgg5 (by show (hC h).toArray[i]? = some (vb (h.b i)); simpa using hC_at h hi)
  have CO : Hid (∀ (x : UInt8) W, Calls Try.prog 31 #[.int .u8 (x.toNat : Int)] W fun e w' => e = .returned (.int .i64 (HZ.pc x : Int)) ∧ w' = W) := ones_x
  have HCT : Hid (h.ct = h.cn (8 * 64)) := rfl
  have HCB : Hid (∀ i, h.cn (8 * (i + 1)) = h.cn (8 * i) + HZ.pc (h.b i)) := h.cn_byte
  have HCL : Hid (∀ n, h.cn n ≤ n) := h.cn_le
  have HC0 : Hid (h.cn (8 * 0) = 0) := rfl
  generalize hC h = LH at *
  go_enter Try.func17, Try.ntmps17
  go_wp2_with (first
    | (refine wl_midG (by rfl) tH _ rfl W.heap.size 0 rfl LH _ RH undH rfl HIH.out ?_))
  clear RH
  go_loopw [3, 7] (fun u3 u7 wr => ∃ i : Nat, i ≤ 64 ∧ u3 = .int .i64 (h.cn (8 * i) : Int) ∧ u7 = .int .i64 (i : Int) ∧ Bl W wr) (fun _ u7 _ => 64 - (intOf u7).toNat)
  case atStart => exact ⟨0, by omega, by rw [HC0.out]; rfl, rfl, HB0.out⟩
  case round =>
    obtain ⟨i, hi, rfl, rfl, hb⟩ := hrel
    have HB : Hid (Bl W wr) := hb
    clear hb
    by_cases hlt : i < 64
    · have hix := HX.out i hlt
      have HN := HCB.out i
      have C1 : Hid (∀ W, Calls Try.prog 31 #[.int .u8 ((h.b i).toNat : Int)] W fun e w' => e = .returned (.int .i64 (HZ.pc (h.b i) : Int)) ∧ w' = W) := CO.out _
      have hp := HZ.pc_le (h.b i)
      have hc := HCL.out (8 * i)
      have HN2 : Hid (h.cn (8 * (i + 1)) = h.cn (8 * i) + HZ.pc (h.b i)) := HN
      clear HX HN HCB HCL CO
      generalize HZ.pc (h.b i) = p at *
      generalize (h.b i).toNat = x at *
      generalize h.cn (8 * i) = c at *
      go_wp2_with (first
        | (go_at_call 31; refine (C1.out _).mono ?_; rintro e w' ⟨rfl, hw⟩; rw [hw]; clear hw))
      go_roundw
      case rel => exact ⟨i + 1, by omega, by rw [HN2.out]; go_num, by go_num, HB.out⟩
      case measure => simp [intOf]; omega
    · obtain rfl : i = 64 := by omega
      have HE : Hid (h.ct = h.cn (8 * 64)) := HCT.out
      generalize h.cn (8 * 64) = c at *
      go_wp2_with fail
      go_ret
      exact ⟨by rw [HE.out]; rfl, HB.out⟩
set_option maxRecDepth 8000 in
set_option maxHeartbeats 2000000 in
theorem rCount_x (h : HZ.H) (W : World) : Calls Try.prog 18 #[.agg (hC h).toArray] W fun e w' => e = .returned (.int .i64 (h.ct : Int)) ∧ Bl W w' := by
  have HB0 : Hid (Bl W (W.alloc (.cells (hC h).toArray tH))) := (Bl.refl W).alloc _
  have HD0 : Hid ((W.alloc (.cells (hC h).toArray tH)).heap[W.heap.size]? = some (.cells (hC h).toArray tH (0, 0))) := heap_alloc_new W _
  have HIH : Hid ((Try.prog.info? tH).map (·.size) = some (hC h).length) := by show _ = _; rw [hC_len]; exact infoH
  have CB : Hid (∀ (n : Nat) W, n < 512 → Calls Try.prog 29 #[.agg (hC h).toArray, .int .i64 (n : Int)] W fun e w' => e = .returned (.bool (h.bit n)) ∧ Bl W w') := fun n W hn => bit_x h n hn W
  have HCN : Hid (∀ n, h.cn (n + 1) = h.cn n + if h.bit n = true then 1 else 0) := fun n => rfl
  have HCT : Hid (h.ct = h.cn 512) := rfl
  have HCL : Hid (∀ n, h.cn n ≤ n) := h.cn_le
  have HC0 : Hid (h.cn 0 = 0) := rfl
  generalize hC h = LH at *
  go_enter Try.func18, Try.ntmps18
  go_wp2_with fail
  go_loopw [3, 4] (fun u3 u4 wr => ∃ n : Nat, n ≤ 512 ∧ u3 = .int .i64 (h.cn n : Int) ∧ u4 = .int .i64 (n : Int) ∧ Bl W wr ∧ wr.heap[W.heap.size]? = some (.cells LH.toArray tH (0, 0))) (fun _ u4 _ => 512 - (intOf u4).toNat)
  case atStart => exact ⟨0, by omega, by rw [HC0.out]; rfl, rfl, HB0.out, HD0.out⟩
  case round =>
    clear HB0 HD0
    obtain ⟨n, hn, rfl, rfl, hb, hd⟩ := hrel
    have HB : Hid (Bl W wr) := hb
    have HD : Hid (wr.heap[W.heap.size]? = some (.cells LH.toArray tH (0, 0))) := hd
    have RH : wr.rangeAt W.heap.size 0 LH := range_of hd
    clear hb hd
    by_cases hlt : n < 512
    · have C1 : Hid (Calls Try.prog 29 #[.agg LH.toArray, .int .i64 (n : Int)] wr fun e w' => e = .returned (.bool (h.bit n)) ∧ Bl wr w') := CB.out n wr hlt
      have HN2 := HCN.out n
      have HN3 : Hid (h.cn (n + 1) = h.cn n + if h.bit n = true then 1 else 0) := HN2
      have hc := HCL.out n
      clear HN2 HCN HCL CB
      generalize h.cn n = c at *
      cases hbn : h.bit n
      · rw [hbn] at C1 HN3
        clear hbn
        have HN4 : Hid (h.cn (n + 1) = c) := by show _ = _; rw [HN3.out]; simp
        clear HN3
        go_wp2_with (first
          | (refine wl_midG (by rfl) tH _ rfl W.heap.size 0 rfl LH _ RH undH rfl HIH.out ?_)
          | (go_at_call 29; refine (C1.out).mono ?_; clear C1 RH; rintro e w' ⟨rfl, HB1⟩))
        go_roundw
        case rel => exact ⟨n + 1, by omega, by rw [HN4.out], by go_num, HB.out.step HB1, HB1.heap HD.out⟩
        case measure => simp [intOf]; omega
      · rw [hbn] at C1 HN3
        clear hbn
        have HN4 : Hid (h.cn (n + 1) = c + 1) := by show _ = _; rw [HN3.out]; simp
        clear HN3
        go_wp2_with (first
          | (refine wl_midG (by rfl) tH _ rfl W.heap.size 0 rfl LH _ RH undH rfl HIH.out ?_)
          | (go_at_call 29; refine (C1.out).mono ?_; clear C1 RH; rintro e w' ⟨rfl, HB1⟩))
        go_roundw
        case rel => exact ⟨n + 1, by omega, by rw [HN4.out]; go_num, by go_num, HB.out.step HB1, HB1.heap HD.out⟩
        case measure => simp [intOf]; omega
    · obtain rfl : n = 512 := by omega
      have HE : Hid (h.ct = h.cn 512) := HCT.out
      clear RH
      generalize h.cn 512 = c at *
      go_wp2_with fail
      go_ret
      exact ⟨by rw [HE.out]; rfl, HB.out⟩
end Go.Proofs.Ytokicaacllaijaa
