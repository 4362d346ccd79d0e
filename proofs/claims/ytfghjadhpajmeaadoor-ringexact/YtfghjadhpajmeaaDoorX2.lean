/- What the reference's block answers: the state behind a block. -/
import Derived.Test.YtfghjadhpajmeaaDoorX1
import Derived.Test.YtfghjadhpajmeaaDoorMath
import Derived.Lib.Strings
import Derived.BigRegion
namespace Go.Proofs.YtfghjadhpajmeaaDoor
open Go.RowKit
set_option linter.unusedVariables false
attribute [local go_sem ↓] zero47

theorem rturnZ (x : UInt32) (n : Int) (h1 : 1 ≤ n) (h2 : n ≤ 31) (w : World) :
    Calls Tryd.prog 64 #[vw x, .int .i64 n] w fun e w' => e = .returned (vw (S.rotr n.toNat x)) ∧ ∃ m, w' = w.drewN m := by
  have := rturn x n.toNat (32 - n.toNat) (by omega) (by omega) (by omega) w
  rwa [show (n.toNat : Int) = n by omega] at this
theorem indexS (l : List UInt8) (i : Nat) (hi : i < l.length) (z : Int) (hz : z = (i : Int)) (W : World) : (Instr.index 9 (.string (M.bs l)) (.int .i64 z)).run Tryd.prog W = .ok (vb (S.by8 l i)) W := by
  subst hz
  have hs := M.bs_size l
  have hb : S.by8 l i = l[i] := by simp [S.by8, hi]
  have h2 : (M.bs l)[i]'(by omega) = l[i] := by simp [M.bs]; rfl
  simp [Instr.index, run_underlying Tryd.underlying9, asIntOf, go_sem, hs, hi, hb, h2]
theorem alloc_at (W : World) (n : Nat) (h : W.heap.size = n) (o : Obj) : (W.alloc o).heap[n]? = some o := by subst h; exact heap_alloc_new _ _
theorem setRow_at (W : World) (n : Nat) (h : W.heap.size = n) (old cs : Array Value) (T : TypeId) : (W.alloc (.cells old T)).setRow n cs = W.alloc (.cells cs T) := by subst h; exact World.setRow_alloc_new _ _ _ _
theorem zero64_one : zero64.all (·.oneCell') = true := by kernel_rfl
theorem or4 (c0 c1 c2 c3 : UInt8) : bits .or .u32 (bits .or .u32 (bits .or .u32 ((c0.toNat : Int) % 4294967296 * 16777216 % 4294967296) ((c1.toNat : Int) % 4294967296 * 65536 % 4294967296)) ((c2.toNat : Int) % 4294967296 * 256 % 4294967296)) ((c3.toNat : Int) % 4294967296) = vi (S.word c0 c1 c2 c3) := by
  have h0 := c0.toNat_lt
  have h1 := c1.toNat_lt
  have h2 := c2.toNat_lt
  have h3 := c3.toNat_lt
  have e0 : (c0.toNat : Int) % 4294967296 * 16777216 % 4294967296 = ((c0.toNat * 16777216 : Nat) : Int) := by omega
  have e1 : (c1.toNat : Int) % 4294967296 * 65536 % 4294967296 = ((c1.toNat * 65536 : Nat) : Int) := by omega
  have e2 : (c2.toNat : Int) % 4294967296 * 256 % 4294967296 = ((c2.toNat * 256 : Nat) : Int) := by omega
  have e3 : (c3.toNat : Int) % 4294967296 = ((c3.toNat : Nat) : Int) := by omega
  rw [e0, e1, e2, e3, u32_or_nat _ _ (by omega) (by omega), nat_join 24 _ _ (by omega) (by omega), u32_or_nat _ _ (by omega) (by omega), nat_join 16 _ _ (by omega) (by omega), u32_or_nat _ _ (by omega) (by omega), nat_join 8 _ _ (by omega) (by omega)]
  unfold vi S.word
  rw [UInt32.toNat_ofNat_of_lt' (by show _ < 4294967296; omega)]
  omega
def stA (s : S.St) : Array Value := (s.toL.map vw).toArray
theorem stA_size (s : S.St) : (stA s).size = 8 := rfl
theorem stA_one (s : S.St) : (stA s).all (·.oneCell') = true := by kernel_rfl
theorem atSt_stA (s : S.St) (j : Nat) (hj : j < 8) : (stA s)[j]? = some (vw (s.toL.getD j 0)) := by
  rcases j with _ | _ | _ | _ | _ | _ | _ | _ | j
  all_goals first | rfl | omega
def zero8 : Array Value := (List.replicate 8 (Value.int .u32 0)).toArray
theorem zero59 (W : World) : (zeroValue 83).run Tryd.prog W = .ok (.agg zero8) W := by kernel_rfl
theorem info59 : (Tryd.prog.info? 83).map (·.size) = some 8 := by kernel_rfl

set_option maxRecDepth 8000 in
set_option maxHeartbeats 4000000 in
theorem rblock (s : S.St) (blk : List UInt8) (hl : blk.length = 64) (w : World) :
    Calls Tryd.prog 47 #[.agg (stA s), .agg kArr, .string (M.bs blk)] w fun e w' => e = .returned (.agg (stA (S.mix s blk))) ∧ Below w.heap.size w w' := by
  have hz := zero59
  have hzs := zero64_size
  have hks := kArr_size
  go_enter Tryd.func47, Tryd.ntmps47
  go_wp2_with (refine wpList_store_row rfl 84 _ _ rfl _ zero64 rfl rfl 84 zero64 (alloc_at _ _ (by simp) _) (by rw [hzs]; exact info47) rfl zero64_one ?_; rw [setRow_at _ _ (by simp)])
  have HB0 : Hid (Below w.heap.size w ((((w.alloc (.cells (stA s) 83)).alloc (.cells kArr 84)).alloc (.cells zero8 83)).alloc (.cells zero64 84))) := ((((Below.refl _ w).alloc (Nat.le_refl _) _).alloc (by simp) _).alloc (by simp <;> omega) _).alloc (by simp <;> omega) _
  have HR0 : Hid (((((w.alloc (.cells (stA s) 83)).alloc (.cells kArr 84)).alloc (.cells zero8 83)).alloc (.cells zero64 84)).heap[w.heap.size]? = some (.cells (stA s) 83 (0, 0))) := by
    show _ = _
    rw [Below.heap_alloc _ _ _ (by simp <;> omega), Below.heap_alloc _ _ _ (by simp <;> omega), Below.heap_alloc _ _ _ (by simp)]; exact heap_alloc_new _ _
  have HR1 : Hid (((((w.alloc (.cells (stA s) 83)).alloc (.cells kArr 84)).alloc (.cells zero8 83)).alloc (.cells zero64 84)).heap[w.heap.size + 1]? = some (.cells kArr 84 (0, 0))) := by
    show _ = _
    rw [Below.heap_alloc _ _ _ (by simp <;> omega), Below.heap_alloc _ _ _ (by simp)]; exact alloc_at _ _ (by simp) _
  have HR2 : Hid (((((w.alloc (.cells (stA s) 83)).alloc (.cells kArr 84)).alloc (.cells zero8 83)).alloc (.cells zero64 84)).heap[w.heap.size + 1 + 1]? = some (.cells zero8 83 (0, 0))) := by
    show _ = _
    rw [Below.heap_alloc _ _ _ (by simp)]; exact alloc_at _ _ (by simp) _
  have HR3 : Hid (((((w.alloc (.cells (stA s) 83)).alloc (.cells kArr 84)).alloc (.cells zero8 83)).alloc (.cells zero64 84)).heap[w.heap.size + 1 + 1 + 1]? = some (.cells zero64 84 (0, 0))) := alloc_at _ _ (by simp) _
  have hsz0 : ((((w.alloc (.cells (stA s) 83)).alloc (.cells kArr 84)).alloc (.cells zero8 83)).alloc (.cells zero64 84)).heap.size = w.heap.size + 4 := by simp
  generalize (((w.alloc (.cells (stA s) 83)).alloc (.cells kArr 84)).alloc (.cells zero8 83)).alloc (.cells zero64 84) = W0 at *
  have HSZ : Hid (W0.heap.size = w.heap.size + 4) := hsz0
  clear hsz0
  generalize hn0 : w.heap.size = n at *
  have HN : Hid (w.heap.size = n) := hn0
  clear hn0
  go_loopw [8] (fun u8 wr => ∃ (k : Nat) (C : Array Value), k ≤ 16 ∧ u8 = .int .i64 k ∧ wr.heap[n + 1 + 1 + 1]? = some (.cells C 84 (0, 0)) ∧ C.size = 64 ∧ (∀ j, j < k → C[j]? = some (vw (S.w16 blk j))) ∧ Below (n + 1 + 1 + 1) W0 wr) (fun u8 _ => 16 - (intOf u8).toNat)
  case atStart => exact ⟨0, zero64, by omega, rfl, HR3.out, hzs, fun j hj => by omega, Below.refl _ _⟩
  case round =>
    obtain ⟨k, C, hk, rfl, hC, hCs, hCj, hB⟩ := hrel
    clear HR3
    have HC : Hid (wr.heap[n + 1 + 1 + 1]? = some (.cells C 84 (0, 0))) := hC
    have HCJ : Hid (∀ j, j < k → C[j]? = some (vw (S.w16 blk j))) := hCj
    have HB : Hid (Below (n + 1 + 1 + 1) W0 wr) := hB
    clear hC hCj hB
    by_cases hlt : k < 16
    · have x0 := indexS blk (4 * k) (by omega) (4 * (k : Int)) (by omega)
      have x1 := indexS blk (4 * k + 1) (by omega) (4 * (k : Int) + 1) (by omega)
      have x2 := indexS blk (4 * k + 2) (by omega) (4 * (k : Int) + 2) (by omega)
      have x3 := indexS blk (4 * k + 3) (by omega) (4 * (k : Int) + 3) (by omega)
      have y0 : IntKind.i64.wrap (4 * (k : Int)) = 4 * (k : Int) := wrap_i64_of (by omega) (by omega)
      have y1 : IntKind.i64.wrap (4 * (k : Int) + 1) = 4 * (k : Int) + 1 := wrap_i64_of (by omega) (by omega)
      have y2 : IntKind.i64.wrap (4 * (k : Int) + 2) = 4 * (k : Int) + 2 := wrap_i64_of (by omega) (by omega)
      have y3 : IntKind.i64.wrap (4 * (k : Int) + 3) = 4 * (k : Int) + 3 := wrap_i64_of (by omega) (by omega)
      have i0 : (0 : Int) ≤ (k : Int) := by omega
      have i1 : (k : Int) < 64 := by omega
      have i2 : (k : Int) < 16 := by omega
      obtain ⟨v, hv⟩ : ∃ v, C[k]? = some v := ⟨C[k]'(by omega), Array.getElem?_eq_getElem (by omega)⟩
      have hc : wr.cell? ⟨n + 1 + 1 + 1, k, none⟩ = some v := by rw [cell_of_row _ _ k C _ _ HC.out]; exact hv
      have hf : wr.frozen? ⟨n + 1 + 1 + 1, k, none⟩ = false := by have := HC.out; simp [World.frozen?, this]
      obtain ⟨c0, e0⟩ : ∃ c0, S.by8 blk (4 * k) = c0 := ⟨_, rfl⟩
      obtain ⟨c1, e1⟩ : ∃ c1, S.by8 blk (4 * k + 1) = c1 := ⟨_, rfl⟩
      obtain ⟨c2, e2⟩ : ∃ c2, S.by8 blk (4 * k + 2) = c2 := ⟨_, rfl⟩
      obtain ⟨c3, e3⟩ : ∃ c3, S.by8 blk (4 * k + 3) = c3 := ⟨_, rfl⟩
      rw [e0] at x0
      rw [e1] at x1
      rw [e2] at x2
      rw [e3] at x3
      have HC0 : Hid (S.by8 blk (4 * k) = c0) := e0
      have HC1 : Hid (S.by8 blk (4 * k + 1) = c1) := e1
      have HC2 : Hid (S.by8 blk (4 * k + 2) = c2) := e2
      have HC3 : Hid (S.by8 blk (4 * k + 3) = c3) := e3
      clear e0 e1 e2 e3
      clear hv hl
      go_wp2_with fail
      go_region
      have ho := or4 c0 c1 c2 c3
      have HW16 : Hid (S.word c0 c1 c2 c3 = S.w16 blk k) := by show _ = _; rw [← HC0.out, ← HC1.out, ← HC2.out, ← HC3.out]; rfl
      rw [ho]
      clear x0 x1 x2 x3 y0 y1 y2 y3 hc hf ho
      go_wp2_with fail
      go_roundw
      case rel =>
        refine ⟨k + 1, _, by omega, by go_num, heap_setCell_row HC.out, by simp [hCs], fun j hj => ?_, (HB.out.drew).setCell (Nat.le_refl _) _⟩
        by_cases hjk : j = k
        · subst hjk; rw [Array.getElem?_setIfInBounds_self_of_lt (by omega), HW16.out]
        · rw [Array.getElem?_setIfInBounds_ne (by omega)]; exact HCJ.out j (by omega)
      case measure => simp [intOf]; omega
    · have HD : Hid (∀ j, j < 16 → C[j]? = some (vw ((S.ws16 blk).getD j 0))) := fun j hj => by
        rw [HCJ.out j (by omega)]; simp [S.ws16, hj]
      clear HCJ
      have hdf : decide ((k : Int) < 16) = false := by simp; omega
      go_wp2_with fail
      have HC2 : Hid (wr.heap[n + 1 + 1 + 1]? = some (.cells C 84 (0, 0))) := HC.out
      have HB2 : Hid (Below (n + 1 + 1 + 1) W0 wr) := HB.out
      clear HC HB
      generalize wr = W1 at *
      go_loopw [9, 10, 11] (fun u9 u10 u11 wr => ∃ (k : Nat) (D : Array Value), k ≤ 48 ∧ u9 = .int .i64 ((k : Int) + 16) ∧ wr.heap[n + 1 + 1 + 1]? = some (.cells D 84 (0, 0)) ∧ Below (n + 1 + 1 + 1) W0 wr ∧ D.size = 64 ∧ ∀ j, j < 16 + k → D[j]? = some (vw ((S.ext (S.ws16 blk) k).getD j 0)))
        (fun u9 _ _ _ => 64 - (intOf u9).toNat)
      case atStart => exact ⟨0, C, by omega, rfl, HC2.out, HB2.out, hCs, HD.out⟩
      case round =>
        clear hdf hlt
        clear hk
        obtain ⟨k, D, hk, rfl, hD, hB, hDs, hDj⟩ := hrel
        clear HD HB2 HC2
        by_cases hlt : k < 48
        · have cell : ∀ j, j < 16 + k → wr.cell? ⟨n + 1 + 1 + 1, j, none⟩ = some (vw ((S.ext (S.ws16 blk) k).getD j 0)) := fun j hj => by
            rw [cell_of_row _ _ j D _ _ hD]; exact hDj j hj
          have frz : ∀ j, wr.frozen? ⟨n + 1 + 1 + 1, j, none⟩ = false := fun j => by
            simp [World.frozen?, hD]
          obtain ⟨l, hl'⟩ : ∃ l, l = S.ext (S.ws16 blk) k := ⟨_, rfl⟩
          rw [← hl'] at cell
          have c14 := cell (k + 14) (by omega)
          have c9 := cell (k + 9) (by omega)
          have c1 := cell (k + 1) (by omega)
          have c0 := cell k (by omega)
          obtain ⟨v16, d16⟩ : ∃ v, D[k + 16]? = some v := ⟨D[k + 16]'(by omega), Array.getElem?_eq_getElem (by omega)⟩
          have c16 : wr.cell? ⟨n + 1 + 1 + 1, k + 16, none⟩ = some v16 := by rw [cell_of_row _ _ _ D _ _ hD]; exact d16
          have f16 := frz (k + 16)
          have i0 : (0 : Int) ≤ (k : Int) := by omega
          have j0 : (k : Int) < 64 := by omega
          have i1 : (0 : Int) ≤ (k : Int) + 1 := by omega
          have j1 : (k : Int) + 1 < 64 := by omega
          have i9 : (0 : Int) ≤ (k : Int) + 9 := by omega
          have j9 : (k : Int) + 9 < 64 := by omega
          have i14 : (0 : Int) ≤ (k : Int) + 14 := by omega
          have j14 : (k : Int) + 14 < 64 := by omega
          have i16 : (0 : Int) ≤ (k : Int) + 16 := by omega
          have j16 : (k : Int) + 16 < 64 := by omega
          have s2 : IntKind.i64.wrap ((k : Int) + 16 - 2) = (k : Int) + 14 := by rw [wrap_i64_of (by omega) (by omega)]; omega
          have s7 : IntKind.i64.wrap ((k : Int) + 16 - 7) = (k : Int) + 9 := by rw [wrap_i64_of (by omega) (by omega)]; omega
          have s15 : IntKind.i64.wrap ((k : Int) + 16 - 15) = (k : Int) + 1 := by rw [wrap_i64_of (by omega) (by omega)]; omega
          have s0 : IntKind.i64.wrap (k : Int) = (k : Int) := wrap_i64_of (by omega) (by omega)
          have s16 : IntKind.i64.wrap ((k : Int) + 16 - 16) = (k : Int) := by rw [wrap_i64_of (by omega) (by omega)]; omega
          have q2 : (k : Int) + 16 - 2 = (k : Int) + 14 := by omega
          have q15 : (k : Int) + 16 - 15 = (k : Int) + 1 := by omega
          have t14 : ((k : Int) + 14).toNat = k + 14 := by omega
          have t9 : ((k : Int) + 9).toNat = k + 9 := by omega
          have t1 : ((k : Int) + 1).toNat = k + 1 := by omega
          have t16 : ((k : Int) + 16).toNat = k + 16 := by omega
          have ha := u_add
          have ha' := u_add'
          have hx := u_xor
          have HL : Hid (S.nextW l = S.ss1 (l.getD (k + 14) 0) + l.getD (k + 9) 0 + S.ss0 (l.getD (k + 1) 0) + l.getD k 0) := by
            show _ = _
            have hlen : l.length = k + 16 := by rw [hl', S.ext_length, S.ws16_length]; omega
            unfold S.nextW
            rw [hlen, show k + 16 - 2 = k + 14 by omega, show k + 16 - 7 = k + 9 by omega, show k + 16 - 15 = k + 1 by omega, show k + 16 - 16 = k by omega]
          have HD : Hid (wr.heap[n + 1 + 1 + 1]? = some (.cells D 84 (0, 0))) := hD
          have HB : Hid (Below (n + 1 + 1 + 1) W0 wr) := hB
          have HJ : Hid (∀ j, j < 16 + k → D[j]? = some (vw (l.getD j 0))) := by rw [hl']; exact hDj
          have Hl : Hid (l = S.ext (S.ws16 blk) k) := hl'
          clear cell frz hD hB hDj hl'
          generalize l.getD (k + 14) 0 = x14 at *
          generalize l.getD (k + 9) 0 = x9 at *
          generalize l.getD (k + 1) 0 = x1 at *
          generalize l.getD k 0 = x0 at *
          have hd1 : vi x14 / 1024 = vi (S.shr 10 x14) := u_shr x14 10
          have hd2 : vi x1 / 8 = vi (S.shr 3 x1) := u_shr x1 3
          go_wp2_with fail
          go_region_held3 (fun w' => w'.cell? ⟨n + 1 + 1 + 1, k + 9, none⟩ = some (vw x9) ∧ w'.cell? ⟨n + 1 + 1 + 1, k, none⟩ = some (vw x0)) (first | exact ⟨setCell_apart (by omega) c9, setCell_apart (by omega) c0⟩ | go_keep)
            ((go_at_call 64; refine (rturnZ _ _ (by decide) (by decide) _).mono ?_; rintro e w' ⟨rfl, mm, rfl⟩))
          clear s0 s2 s7 s15 s16 t14 t9 t1 t16 i0 i1 i9 i14 i16 j0 j1 j9 j14 j16 ha ha' hx c0 c1 c9 c14 c16 f16 q2 q15 hd1 hd2
          go_wp2_with fail
          go_roundw
          case rel =>
            refine ⟨k + 1, D.setIfInBounds (k + 16) (vw (S.ss1 x14 + x9 + S.ss0 x1 + x0)), by omega, by go_num, heap_setCell_row HD.out, (below_drewN HB.out _).setCell (Nat.le_refl _) _, by simp [hDs], fun j hj => ?_⟩
            rw [← HL.out, Hl.out]
            have hlen : (S.ext (S.ws16 blk) k).length = k + 16 := by rw [S.ext_length, S.ws16_length]; omega
            show (D.setIfInBounds (k + 16) (vw (S.nextW (S.ext (S.ws16 blk) k))))[j]? = some (vw ((S.ext (S.ws16 blk) k ++ [S.nextW (S.ext (S.ws16 blk) k)]).getD j 0))
            by_cases hjk : j = k + 16
            · subst hjk
              rw [Array.getElem?_setIfInBounds_self_of_lt (by omega)]
              simp [List.getD, hlen]
            · rw [Array.getElem?_setIfInBounds_ne (by omega), HJ.out j (by omega), Hl.out]
              simp only [List.getD_eq_getElem?_getD]
              rw [List.getElem?_append_left (by omega)]
          case measure => simp [intOf]; omega
        · have hk48 : k = 48 := by omega
          have hdf : decide ((k : Int) + 16 < 64) = false := by simp; omega
          have HW : Hid (∀ j, j < 64 → wr.cell? ⟨n + 1 + 1 + 1, j, none⟩ = some (vw ((S.sched blk).getD j 0))) := fun j hj => by
            rw [cell_of_row _ _ j D _ _ hD, hDj j (by omega), hk48]; rfl
          have HHr : Hid (wr.heap[n]? = some (.cells (stA s) 83 (0, 0))) := by show _ = _; rw [hB.block n (by omega)]; exact HR0.out
          have HKr : Hid (∀ j, j < 64 → wr.cell? ⟨n + 1, j, none⟩ = some (vw (S.kw j))) := fun j hj => by
            have h1 : wr.heap[n + 1]? = some (.cells kArr 84 (0, 0)) := by rw [hB.block (n + 1) (by omega)]; exact HR1.out
            rw [cell_of_row _ _ j kArr _ _ h1]
            have kl : S.kList.length = 64 := by decide
            unfold kArr
            rw [List.getElem?_toArray, List.getElem?_map, List.getElem?_eq_getElem (by omega)]
            simp [S.kw, List.getD_eq_getElem?_getD, kl, hj]
          have HZr : Hid (wr.heap[n + 1 + 1]? = some (.cells zero8 83 (0, 0))) := by show _ = _; rw [hB.block (n + 1 + 1) (by omega)]; exact HR2.out
          have hwz : n + 4 ≤ wr.heap.size := by have := hB.size; have := HSZ.out; omega
          have hlt4 : n + 1 + 1 + 1 < wr.heap.size := by omega
          have HB3 : Hid (Below n w wr) := HB0.out.trans (hB.mono (by omega))
          have hs8 := stA_size s
          have hone := stA_one s
          have hnw : n < wr.heap.size := by omega
          clear hDj hD hB HR0 HR1 HR2 HSZ hDs hk48
          have HNE : Hid ((wr.alloc (.cells zero8 83)).heap[n]? = some (.cells (stA s) 83 (0, 0))) := by show _ = _; rw [Below.heap_alloc _ _ _ hnw]; exact HHr.out
          go_wp2_with (first
            | refine wpList_load_row rfl 83 _ rfl _ rfl 83 (stA s) (0, 0) _ (by first | exact HHr.out | exact HNE.out) und46 rfl (by rw [hs8]; exact info59) ?_
            | (refine wpList_store_row rfl 83 _ _ rfl _ (stA s) rfl rfl 83 zero8 (heap_alloc_new _ _) (by rw [hs8]; exact info59) rfl hone ?_; rw [World.setRow_alloc_new]))
          have HV : Hid ((wr.alloc (.cells (stA s) 83)).heap[wr.heap.size]? = some (.cells (stA s) 83 (0, 0))) := heap_alloc_new _ _
          have HBA : Hid (Below wr.heap.size wr (wr.alloc (.cells (stA s) 83))) := (Below.refl _ wr).alloc (Nat.le_refl _) _
          have HB4 : Hid (Below n w (wr.alloc (.cells (stA s) 83))) := HB3.out.trans (HBA.out.mono (by omega))
          have HW4 : Hid (∀ j, j < 64 → (wr.alloc (.cells (stA s) 83)).cell? ⟨n + 1 + 1 + 1, j, none⟩ = some (vw ((S.sched blk).getD j 0))) := fun j hj => by
            rw [HBA.out.cell (p := ⟨n + 1 + 1 + 1, j, none⟩) (show n + 1 + 1 + 1 < wr.heap.size by omega)]; exact HW.out j hj
          have HK4 : Hid (∀ j, j < 64 → (wr.alloc (.cells (stA s) 83)).cell? ⟨n + 1, j, none⟩ = some (vw (S.kw j))) := fun j hj => by
            rw [HBA.out.cell (p := ⟨n + 1, j, none⟩) (show n + 1 < wr.heap.size by omega)]; exact HKr.out j hj
          have HH4 : Hid ((wr.alloc (.cells (stA s) 83)).heap[n]? = some (.cells (stA s) 83 (0, 0))) := by show _ = _; rw [HBA.out.block n (by omega)]; exact HHr.out
          have HZ4 : Hid ((wr.alloc (.cells (stA s) 83)).heap[n + 1 + 1]? = some (.cells zero8 83 (0, 0))) := by show _ = _; rw [HBA.out.block (n + 1 + 1) (by omega)]; exact HZr.out
          generalize wr.alloc (.cells (stA s) 83) = W4 at *
          generalize wr.heap.size = q at *
          clear HW HKr HHr HZr HB3 HBA HNE hdf
          go_loopw [13, 14, 15, 16, 17] (fun u13 u14 u15 u16 u17 wr => ∃ t : Nat, t ≤ 64 ∧ u13 = .int .i64 t ∧ wr.heap[q]? = some (.cells (stA (S.rnds (S.sched blk) s t)) 83 (0, 0)) ∧ Below q W4 wr) (fun u13 _ _ _ _ _ => 64 - (intOf u13).toNat)
          case atStart => exact ⟨0, by omega, rfl, HV.out, Below.refl _ _⟩
          case round =>
            clear HV
            obtain ⟨t, ht, rfl, hV, hB⟩ := hrel
            by_cases hlt2 : t < 64
            · have HE : Hid (S.rnds (S.sched blk) s (t + 1) = S.round (S.rnds (S.sched blk) s t) (S.kw t) ((S.sched blk).getD t 0)) := rfl
              have cK : wr.cell? ⟨n + 1, t, none⟩ = some (vw (S.kw t)) := by rw [hB.cell (p := ⟨n + 1, t, none⟩) (show n + 1 < q by omega)]; exact HK4.out t hlt2
              have cW : wr.cell? ⟨n + 1 + 1 + 1, t, none⟩ = some (vw ((S.sched blk).getD t 0)) := by rw [hB.cell (p := ⟨n + 1 + 1 + 1, t, none⟩) (show n + 1 + 1 + 1 < q by omega)]; exact HW4.out t hlt2
              have HB : Hid (Below q W4 wr) := hB
              generalize S.rnds (S.sched blk) s t = r at *
              generalize (S.sched blk).getD t 0 = wt at *
              generalize S.kw t = kt at *
              have HV : Hid (wr.heap[q]? = some (.cells (stA r) 83 (0, 0))) := hV
              have cv : ∀ i, wr.cell? ⟨q, i, none⟩ = (stA r)[i]? := fun i => cell_of_row _ _ i (stA r) _ _ hV
              have v0 : wr.cell? ⟨q, 0, none⟩ = some (vw r.a) := cv 0
              have v1 : wr.cell? ⟨q, 1, none⟩ = some (vw r.b) := cv 1
              have v2 : wr.cell? ⟨q, 2, none⟩ = some (vw r.c) := cv 2
              have v3 : wr.cell? ⟨q, 3, none⟩ = some (vw r.d) := cv 3
              have v4 : wr.cell? ⟨q, 4, none⟩ = some (vw r.e) := cv 4
              have v5 : wr.cell? ⟨q, 5, none⟩ = some (vw r.f) := cv 5
              have v6 : wr.cell? ⟨q, 6, none⟩ = some (vw r.g) := cv 6
              have v7 : wr.cell? ⟨q, 7, none⟩ = some (vw r.h) := cv 7
              have i0 : (0 : Int) ≤ (t : Int) := by omega
              have j0 : (t : Int) < 64 := by omega
              have ha := u_add
              have ha' := u_add'
              have hx := u_xor
              have hn := u_and
              have hN := u_not
              have hr8 := stA_size r
              clear cv hV hB hs8 hone
              go_wp2_with fail
              go_quiet ((go_at_call 64; exact Calls.quiet_of (rturnZ _ _ (by decide) (by decide) _)))
              go_wp2_with fail
              obtain ⟨W5, hW5⟩ : ∃ W5, W5 = wr.drewN nq := ⟨_, rfl⟩
              have HV5 : Hid (W5.heap[q]? = some (.cells (stA r) 83 (0, 0))) := by rw [hW5]; exact HV.out
              have HB5 : Hid (Below q W4 W5) := by rw [hW5]; exact below_drewN HB.out _
              have w0 : W5.cell? ⟨q, 0, none⟩ = some (vw r.a) := by rw [hW5]; exact v0
              have w1 : W5.cell? ⟨q, 1, none⟩ = some (vw r.b) := by rw [hW5]; exact v1
              have w2 : W5.cell? ⟨q, 2, none⟩ = some (vw r.c) := by rw [hW5]; exact v2
              have w3 : W5.cell? ⟨q, 3, none⟩ = some (vw r.d) := by rw [hW5]; exact v3
              have w4 : W5.cell? ⟨q, 4, none⟩ = some (vw r.e) := by rw [hW5]; exact v4
              have w5 : W5.cell? ⟨q, 5, none⟩ = some (vw r.f) := by rw [hW5]; exact v5
              have w6 : W5.cell? ⟨q, 6, none⟩ = some (vw r.g) := by rw [hW5]; exact v6
              rw [← hW5]
              clear hW5 v0 v1 v2 v3 v4 v5 v6 v7 cK cW HV HB
              go_quiet ((go_at_call 64; exact Calls.quiet_of (rturnZ _ _ (by decide) (by decide) _)))
              go_wp2_with (refine wpList_store_row rfl 83 _ _ rfl _ (stA (S.round r kt wt)) rfl rfl 83 (stA r) HV5.out (by rw [stA_size]; exact info59) (by rw [stA_size, stA_size]) (stA_one _) ?_)
              go_roundw
              case rel =>
                refine ⟨t + 1, by omega, by go_num, ?_, below_setRow (below_drewN HB5.out _) (Nat.le_refl _) _⟩
                rw [HE.out]
                exact setRow_heap _ _ _ _ _ _ HV5.out
              case measure => simp [intOf]; omega
            · have ht64 : t = 64 := by omega
              subst ht64
              have hdf : ¬ ((64 : Nat) : Int) < 64 := by omega
              have HV5 : Hid (wr.heap[q]? = some (.cells (stA (S.rnds (S.sched blk) s 64)) 83 (0, 0))) := hV
              have HH5 : Hid (wr.heap[n]? = some (.cells (stA s) 83 (0, 0))) := by show _ = _; rw [hB.block n (by omega)]; exact HH4.out
              have HZ5 : Hid (wr.heap[n + 1 + 1]? = some (.cells zero8 83 (0, 0))) := by show _ = _; rw [hB.block (n + 1 + 1) (by omega)]; exact HZ4.out
              have HB5 : Hid (Below n w wr) := HB4.out.trans (hB.mono (by omega))
              have HM : Hid (S.mix s blk = s.add (S.rnds (S.sched blk) s 64)) := rfl
              generalize S.rnds (S.sched blk) s 64 = r at *
              have hnr : n < wr.heap.size := by
                rcases Nat.lt_or_ge n wr.heap.size with h | h
                · exact h
                · have := HH5.out; rw [Array.getElem?_eq_none h] at this; simp at this
              have hqr : q < wr.heap.size := by
                rcases Nat.lt_or_ge q wr.heap.size with h | h
                · exact h
                · have := HV5.out; rw [Array.getElem?_eq_none h] at this; simp at this
              clear hV hB HH4 HZ4 HB4 HK4 HW4 hlt2 ht
              go_wp2_with fail
              generalize wr = W6 at *
              go_loopw [18] (fun u18 wr => ∃ (i : Nat) (D : Array Value), i ≤ 8 ∧ u18 = .int .i64 i ∧ wr.heap[n]? = some (.cells D 83 (0, 0)) ∧ D.size = 8 ∧ (∀ j, j < 8 → D[j]? = some (vw (if j < i then s.toL.getD j 0 + r.toL.getD j 0 else s.toL.getD j 0))) ∧ Off n W6 wr) (fun u18 _ => 8 - (intOf u18).toNat)
              case atStart => exact ⟨0, stA s, by omega, rfl, HH5.out, rfl, fun j hj => by rw [if_neg (by omega)]; exact atSt_stA s j hj, Off.refl _ _⟩
              case round =>
                clear HH5
                obtain ⟨i, D, hi, rfl, hD, hDs, hDj, hO⟩ := hrel
                have HD : Hid (wr.heap[n]? = some (.cells D 83 (0, 0))) := hD
                have HO : Hid (Off n W6 wr) := hO
                have HJ : Hid (∀ j, j < 8 → D[j]? = some (vw (if j < i then s.toL.getD j 0 + r.toL.getD j 0 else s.toL.getD j 0))) := hDj
                clear hdf hD hO hDj
                by_cases hlt3 : i < 8
                · have hc : wr.cell? ⟨n, i, none⟩ = some (vw (s.toL.getD i 0)) := by rw [cell_of_row _ _ i D _ _ HD.out, HJ.out i hlt3, if_neg (by omega)]
                  have hf : wr.frozen? ⟨n, i, none⟩ = false := by have := HD.out; simp [World.frozen?, this]
                  have hv : wr.cell? ⟨q, i, none⟩ = some (vw (r.toL.getD i 0)) := by
                    rw [HO.out.cell (p := ⟨q, i, none⟩) hqr (show q ≠ n by omega), cell_of_row _ _ i (stA r) _ _ HV5.out]; exact atSt_stA r i hlt3
                  have ha := u_add
                  have ha' := u_add'
                  have i0 : (0 : Int) ≤ (i : Int) := by omega
                  have j0 : (i : Int) < 8 := by omega
                  have HX : Hid (∀ j, j < 8 → (D.setIfInBounds i (vw (s.toL.getD i 0 + r.toL.getD i 0)))[j]? = some (vw (if j < i + 1 then s.toL.getD j 0 + r.toL.getD j 0 else s.toL.getD j 0))) := by
                    intro j hj
                    by_cases hji : j = i
                    · subst hji
                      rw [Array.getElem?_setIfInBounds_self_of_lt (by omega), if_pos (by omega)]
                    · rw [Array.getElem?_setIfInBounds_ne (by omega), HJ.out j hj]
                      by_cases hjl : j < i
                      · rw [if_pos hjl, if_pos (by omega)]
                      · rw [if_neg hjl, if_neg (by omega)]
                  generalize s.toL.getD i 0 = x at *
                  generalize r.toL.getD i 0 = y at *
                  go_wp2_with fail
                  go_region
                  go_wp2_with fail
                  go_roundw
                  case rel => exact ⟨i + 1, D.setIfInBounds i (vw (x + y)), by omega, by go_num, heap_setCell_row HD.out, by simp [hDs], HX.out, (HO.out.setCell _ _).drew⟩
                  case measure => simp [intOf]; omega
                · have hdf : decide ((i : Int) < 8) = false := by simp; omega
                  have hfin : D = stA (S.mix s blk) := by
                    rw [HM.out]
                    apply Array.ext_getElem?
                    intro j
                    by_cases hj : j < 8
                    · rw [HJ.out j hj, if_pos (by omega), atSt_stA _ j hj]
                      rcases j with _ | _ | _ | _ | _ | _ | _ | _ | j
                      all_goals first | rfl | omega
                    · rw [Array.getElem?_eq_none (by omega), Array.getElem?_eq_none (by rw [stA_size]; omega)]
                  have HF : Hid (D = stA (S.mix s blk)) := hfin
                  have hone : D.all (·.oneCell') = true := by rw [hfin]; exact stA_one _
                  clear hfin
                  have HZ6 : Hid (wr.heap[n + 1 + 1]? = some (.cells zero8 83 (0, 0))) := by show _ = _; rw [HO.out.block (n + 1 + 1) (by omega) (by omega)]; exact HZ5.out
                  have HB6 : Hid (Below n w wr) := HB5.out.trans (HO.out.below (Nat.le_refl _) (by omega))
                  have hz8 : zero8.size = 8 := rfl
                  clear HJ HM
                  go_wp2_with (first
                    | refine wpList_load_row rfl 83 _ rfl _ rfl 83 D (0, 0) _ HD.out und46 rfl (by rw [hDs]; exact info59) ?_
                    | refine wpList_store_row rfl 83 _ _ rfl _ D rfl rfl 83 zero8 HZ6.out (by rw [hDs]; exact info59) (by rw [hz8, hDs]) hone ?_)
                  (try simp only [Exit.inBlock, Exit.then])
                  refine bodyPost_ret (results_cell_row rfl _ _ _ 83 D (0, 0) _ rfl (setRow_heap _ _ _ _ _ _ HZ6.out) und46 rfl (by rw [hDs]; exact info59)) rfl ?_
                  have hb := below_setRow HB6.out (g := n + 1 + 1) (by omega) D
                  rw [HN.out, HF.out]
                  rw [HF.out] at hb
                  exact ⟨rfl, hb⟩
end Go.Proofs.YtfghjadhpajmeaaDoor
