/- Join. -/
import Derived.Test.YtokicaacllaijaaHzC
namespace Go.Proofs.Ytokicaacllaijaa
open Go.RowKit
set_option linter.unusedVariables false
set_option linter.unusedSimpArgs false
attribute [local go_sem ↓] zeroH zeroD

set_option maxRecDepth 8000 in
set_option maxHeartbeats 4000000 in
theorem Join_x (l : List HZ.H) (a : Option Addr) (c : Nat) (hn : l.length ≤ maxLen) (W : World) (hv : RS lyH W a l) :
    Calls Try.prog 10 #[.slice a l.length c] W fun e w' => e = .returned (.agg (hC (HZ.jo l)).toArray) ∧ Bl W w' := by
  unfold maxLen at hn
  have HB0 : Hid (Bl W ((W.alloc (.cells zH tH)).alloc (.cells zH tH))) := ((Bl.refl W).alloc _).alloc _
  have HD0 : Hid (((W.alloc (.cells zH tH)).alloc (.cells zH tH)).heap[W.heap.size]? = some (.cells zH tH (0, 0))) := by
    show _ = _
    rw [Below.heap_alloc _ _ _ (by simp)]; exact heap_alloc_new W _
  have HZ0 : Hid (((W.alloc (.cells zH tH)).alloc (.cells zH tH)).heap[W.heap.size + 1]? = some (.cells zH tH (0, 0))) := by
    show _ = _
    simpa using heap_alloc_new (W.alloc (.cells zH tH)) (.cells zH tH)
  have HS0 : ((W.alloc (.cells zH tH)).alloc (.cells zH tH)).heap.size = W.heap.size + 2 := by simp
  have HV : Hid (RS lyH W a l) := hv
  clear hv
  generalize hw1 : (W.alloc (.cells zH tH)).alloc (.cells zH tH) = W1 at *
  go_enter Try.func10, Try.ntmps10
  go_wp2_with fail
  clear hw1
  go_loopw [10, 15] (fun u10 u15 wr => ∃ k : Nat, k ≤ l.length ∧ u10 = .int .i64 (k : Int) ∧ Bl W wr ∧ W.heap.size + 2 ≤ wr.heap.size ∧ wr.heap[W.heap.size]? = some (.cells zH tH (0, 0)) ∧ wr.heap[W.heap.size + 1]? = some (.cells (hC (HZ.jo (l.take k))).toArray tH (0, 0))) (fun u10 _ _ => l.length - (intOf u10).toNat)
  case atStart => exact ⟨0, by omega, rfl, HB0.out, by omega, HD0.out, HZ0.out⟩
  case round =>
    clear HB0 HD0 HZ0 HS0
    obtain ⟨k, hk, rfl, hb, hsz, hd, hz⟩ := hrel
    by_cases hlt : k < l.length
    · obtain ⟨x, hx⟩ : ∃ x, l[k]? = some x := ⟨l[k], List.getElem?_eq_getElem hlt⟩
      have hvr := HV.out.bl hb
      obtain ⟨b, off, rfl, hbl, hra⟩ := hvr k x hx
      have HRA : wr.rangeAt b (off + k * 64) (hC x) := hra
      have HSC : Hid (HZ.jo (l.take (k + 1)) = (HZ.jo (l.take k)).or x) := HZ.jo_succ hx
      have HAT : Hid (∀ i : Nat, i < 64 → ∀ U, (Instr.index tH (.agg (hC x).toArray) (.int .i64 (i : Int))).run Try.prog U = .ok (.int .u8 ((x.b i).toNat : Int)) U) := fun i hi => idx_agg _ _ 64 _ i _ undH hi Try.sizeOf5 Try.isAgg5 (by show (hC x).toArray[i]? = some (vb (x.b i)); simpa using hC_at x hi)
      have HDI : Hid ((Try.prog.info? tH).map (·.size) = some (hC x).length) := by show _ = _; rw [hC_len]; exact infoH
      have HDL := hC_len x
      have HDO : Hid (∀ u ∈ hC x, u.oneCell' = true) := hC_one x
      generalize hg0 : HZ.jo (l.take k) = g0 at *
      have HOR : Hid (∀ i, g0.orN x (i + 1) = (g0.orN x i).set i ((g0.orN x i).b i ||| x.b i)) := fun i => rfl
      have HO0 : Hid (g0.orN x 0 = g0) := rfl
      have HO4 : Hid (g0.orN x 64 = g0.or x) := rfl
      have HBW : Hid (Bl W wr) := hb
      have HDW : Hid (wr.heap[W.heap.size]? = some (.cells zH tH (0, 0))) := hd
      have HZW : Hid (wr.heap[W.heap.size + 1]? = some (.cells (hC g0).toArray tH (0, 0))) := hz
      clear hx hvr hra hb hd hz hg0
      generalize hC x = LX at *
      go_wp2_with (first
        | (refine wl_midG (by rfl) tH _ rfl b (off + k * 64) rfl LX _ HRA undH rfl HDI.out ?_)
        | (refine wl_rowU rfl tH _ _ rfl wr.heap.size LX rfl rfl tH zH (heap_alloc_new wr _) 64 infoH HDL zH_size HDO.out ?_; intro U0 hU0 hO0 hs0)
        | (refine wl_midG (by rfl) tH _ rfl wr.heap.size 0 rfl LX _ (range_of hU0) undH rfl HDI.out ?_))
      have HBa : Bl wr U0 := hO0.bl ((Bl.refl wr).alloc _) (by simp)
      have hsz1 : W.heap.size + 2 ≤ U0.heap.size := by have := HBa.size; omega
      have HB : Bl W U0 := HBW.out.step HBa
      have HD : U0.heap[W.heap.size]? = some (.cells zH tH (0, 0)) := HBa.heap HDW.out
      have HZZ : U0.heap[W.heap.size + 1]? = some (.cells (hC g0).toArray tH (0, 0)) := HBa.heap HZW.out
      clear HBa hU0 hO0 hs0 HBW HDW HZW HRA
      go_loopw [15] (fun u15 wr => ∃ i : Nat, i ≤ 64 ∧ u15 = .int .i64 (i : Int) ∧ Bl W wr ∧ W.heap.size + 2 ≤ wr.heap.size ∧ wr.heap[W.heap.size]? = some (.cells zH tH (0, 0)) ∧ wr.heap[W.heap.size + 1]? = some (.cells (hC (g0.orN x i)).toArray tH (0, 0))) (fun u15 _ => 64 - (intOf u15).toNat)
      case atStart => exact ⟨0, by omega, rfl, HB, hsz1, HD, by rw [HO0.out]; exact HZZ⟩
      case round =>
        clear HB HD HZZ hsz1
        obtain ⟨i, hi, rfl, hb, hsz2, hd, hz⟩ := hrel
        have HB : Hid (Bl W wr) := hb
        have HD : Hid (wr.heap[W.heap.size]? = some (.cells zH tH (0, 0))) := hd
        by_cases hlti : i < 64
        · have hix := HAT.out i hlti
          have HON : Hid (g0.orN x (i + 1) = (g0.orN x i).set i ((g0.orN x i).b i ||| x.b i)) := HOR.out i
          clear HAT HOR HO0 HO4 HSC
          generalize g0.orN x i = g at *
          have HSET : Hid ((hC g).set i (vb (g.b i ||| x.b i)) = hC (g.set i (g.b i ||| x.b i))) := hC_set _ _ _
          rw [← HON.out] at HSET
          have hcl : wr.cell? ⟨W.heap.size + 1, i, none⟩ = some (.int .u8 ((g.b i).toNat : Int)) := cell_of hz (hC_at g hlti)
          have hor := or_val (g.b i) (x.b i)
          have HGL : Hid ((hC g).length = 64) := hC_len g
          have HZZ : Hid (wr.heap[W.heap.size + 1]? = some (.cells (hC g).toArray tH (0, 0))) := hz
          clear HON hb hz hd
          unfold vb at HSET
          generalize (g.b i ||| x.b i).toNat = z at *
          generalize (g.b i).toNat = p at *
          generalize (x.b i).toNat = y at *
          generalize hC g = LG at *
          have hi1 : (i : Int) < 64 := by omega
          go_wp2_with (first
            | (refine wl_setU rfl 5 _ _ rfl (W.heap.size + 1) i (.int .u8 (z : Int)) rfl (by first | rfl | exact congrArg (Value.int .u8) hor) rfl infoU8 LG (hC (g0.orN x (i + 1))) tH HZZ.out (by rw [HGL.out]; omega) HSET.out ?_; intro U1 hU1 hO1))
          have HB9 : Bl W U1 := hO1.bl HB.out (by omega)
          have HD9 : U1.heap[W.heap.size]? = some (.cells zH tH (0, 0)) := by rw [hO1.block _ (by omega) (by omega)]; exact HD.out
          have HS9 : W.heap.size + 2 ≤ U1.heap.size := Nat.le_trans hsz2 hO1.size
          go_roundw
          case rel => exact ⟨i + 1, by omega, by go_num, HB9, HS9, HD9, hU1⟩
          case measure => simp [intOf]; omega
        · obtain rfl : i = 64 := by omega
          have HZZ : Hid (wr.heap[W.heap.size + 1]? = some (.cells (hC (HZ.jo (l.take (k + 1)))).toArray tH (0, 0))) := by
            show _ = _
            rw [HSC.out, ← HO4.out]; exact hz
          clear hd hb hz HAT HOR HO0 HO4 HSC
          go_wp2_with fail
          go_roundw
          case rel => exact ⟨k + 1, by omega, by go_num, HB.out, hsz2, HD.out, HZZ.out⟩
          case measure => simp [intOf]; omega
    · obtain rfl : k = l.length := by omega
      rw [List.take_length] at hz
      have HZZ : wr.rangeAt (W.heap.size + 1) 0 (hC (HZ.jo l)) := range_of hz
      have HD : Hid (wr.heap[W.heap.size]? = some (.cells zH tH (0, 0))) := hd
      have HB : Hid (Bl W wr) := hb
      have HI : Hid ((Try.prog.info? tH).map (·.size) = some (hC (HZ.jo l)).length) := by show _ = _; rw [hC_len]; exact infoH
      have HL : Hid ((hC (HZ.jo l)).length = 64) := hC_len _
      have HO : Hid (∀ u ∈ hC (HZ.jo l), u.oneCell' = true) := hC_one _
      clear hd hb hz
      generalize hLG : hC (HZ.jo l) = LG at *
      have HLG : Hid (hC (HZ.jo l) = LG) := hLG
      clear hLG
      go_wp2_with (first
        | (refine wl_midG (by rfl) tH _ rfl (W.heap.size + 1) 0 rfl LG _ HZZ undH rfl HI.out ?_)
        | (refine wl_rowU rfl tH _ _ rfl W.heap.size LG rfl rfl tH zH HD.out 64 infoH HL.out zH_size HO.out ?_; intro U0 hU0 hO0 hs0))
      (try simp only [Exit.inBlock, Exit.then])
      refine bodyPost_ret (results_cell_row rfl _ _ _ tH LG.toArray (0, 0) _ rfl hU0 undH rfl (by simpa using HI.out)) rfl ?_
      exact ⟨by rw [HLG.out], hO0.bl HB.out (by omega)⟩
end Go.Proofs.Ytokicaacllaijaa
