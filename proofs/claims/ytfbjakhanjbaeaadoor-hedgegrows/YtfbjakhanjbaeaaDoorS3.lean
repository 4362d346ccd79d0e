/- What stamp's (*state).mix does: the state behind a block. -/
import Derived.Test.YtfbjakhanjbaeaaDoorS2
namespace Go.Proofs.YtfbjakhanjbaeaaDoor
open Go.RowKit
set_option linter.unusedVariables false

/-- all memory that there was is as it was, but for block b -/
structure Off (b : Nat) (w w' : World) : Prop where
  os : w'.os = w.os
  tape : w'.tape = w.tape
  output : w'.output = w.output
  size : w.heap.size ≤ w'.heap.size
  block : ∀ k, k < w.heap.size → k ≠ b → w'.heap[k]? = w.heap[k]?
theorem Off.refl (b : Nat) (w : World) : Off b w w := ⟨rfl, rfl, rfl, Nat.le_refl _, fun _ _ _ => rfl⟩
theorem Off.trans {b : Nat} {w w' w'' : World} (h : Off b w w') (k : Off b w' w'') : Off b w w'' :=
  ⟨k.os.trans h.os, k.tape.trans h.tape, k.output.trans h.output, Nat.le_trans h.size k.size, fun i hi hb => (k.block i (Nat.lt_of_lt_of_le hi h.size) hb).trans (h.block i hi hb)⟩
theorem Off.of_below {b : Nat} {w w' : World} (h : Below w.heap.size w w') : Off b w w' := ⟨h.os, h.tape, h.output, h.size, fun k hk _ => h.block k hk⟩
theorem Off.drew {b : Nat} {a w : World} (h : Off b a w) : Off b a w.drew := ⟨h.os, h.tape, h.output, h.size, h.block⟩
theorem Off.setCell {b : Nat} {a w : World} (h : Off b a w) (i : Nat) (v : Value) : Off b a (w.setCell ⟨b, i, none⟩ v) :=
  ⟨h.os, h.tape, h.output, by have := h.size; simp [World.setCell]; exact this, fun k hk hb => by rw [Below.heap_setCell _ _ _ _ hb]; exact h.block k hk hb⟩
theorem Off.setRow {b : Nat} {a w : World} (h : Off b a w) (cs : Array Value) : Off b a (w.setRow b cs) :=
  ⟨h.os, h.tape, h.output, by have := h.size; simp [World.setRow]; exact this, fun k hk hb => by
    rw [← h.block k hk hb]
    show (w.heap.modify b _)[k]? = _
    rw [Array.getElem?_modify, if_neg (by omega)]⟩
theorem Off.cell {b : Nat} {w w' : World} (h : Off b w w') {p : Addr} (hp : p.block < w.heap.size) (hb : p.block ≠ b) : w'.cell? p = w.cell? p := World.cell?_of_block (w := w) (h.block p.block hp hb)
theorem Off.below {b B : Nat} {w w' : World} (h : Off b w w') (h1 : B ≤ b) (h2 : B ≤ w.heap.size) : Below B w w' :=
  ⟨h.os, h.tape, h.output, h.size, fun k hk => h.block k (by omega) (by omega)⟩

/-- the program's words k lie in their variable -/
def KW (w : World) : Prop := ∀ t, t < 64 → w.cell? ⟨1, t, none⟩ = some (vw (S.kw t))
theorem KW.off {b : Nat} {w w' : World} (h : KW w) (o : Off b w w') (h1 : 1 < w.heap.size) (hb : b ≠ 1) : KW w' := fun t ht => by
  rw [o.cell (p := ⟨1, t, none⟩) h1 (by exact fun e => hb e.symm)]; exact h t ht

theorem u_not (x : UInt32) : bits BinOp.xor IntKind.u32 (if IntKind.u32.signed = true then -1 else IntKind.u32.max) (vi x) = vi (~~~x) := by
  have e : (if IntKind.u32.signed = true then (-1 : Int) else IntKind.u32.max) = vi 0xffffffff := by decide
  rw [e, u_xor]
  congr 1

theorem drewN_eq (w : World) (n : Nat) : (w.drewN n).heap = w.heap ∧ (w.drewN n).os = w.os ∧ (w.drewN n).tape = w.tape ∧ (w.drewN n).output = w.output := ⟨rfl, rfl, rfl, rfl⟩
theorem below_drewN {B : Nat} {a w : World} (h : Below B a w) (n : Nat) : Below B a (w.drewN n) := ⟨h.os, h.tape, h.output, h.size, h.block⟩

attribute [local go_sem ↓] zero47
theorem sched_size (blk : List UInt8) : ((S.sched blk).map vw).toArray.size = 64 := by simp [S.sched, S.ext_length, S.ws16_length]
theorem sched_one (blk : List UInt8) : (((S.sched blk).map vw).toArray).all (·.oneCell') = true :=
  all_oneCell_toArray (fun v hv => by obtain ⟨x, _, rfl⟩ := List.mem_map.1 hv; rfl)
theorem sched_at (blk : List UInt8) (t : Nat) (h : t < 64) : ((S.sched blk).map vw).toArray[t]? = some (vw ((S.sched blk).getD t 0)) := by
  have hl : (S.sched blk).length = 64 := by simp [S.sched, S.ext_length, S.ws16_length]
  rw [List.getElem?_toArray, List.getElem?_map, List.getElem?_eq_getElem (by omega)]
  simp [List.getD_eq_getElem?_getD, hl, h]

theorem und46 : Tryd.prog.underlying 91 = some (.array 8 90) := by kernel_rfl
theorem index46 (BA : Array Value) (k : Nat) (v : Value) (hk : k < 8) (h : BA[k]? = some v) (W : World) : (Instr.index 91 (.agg BA) (.int .i64 k)).run Tryd.prog W = .ok v W := by
  simp [Instr.index, run_underlying und46, asIntOf, go_sem, hk, h, Tryd.sizeOf90]

/-- a value that holds the eight words of a state, in order -/
def AtSt (C : Array Value) (s : S.St) : Prop := ∀ i, i < 8 → C[i]? = some (vw (s.toL.getD i 0))

set_option maxRecDepth 4000 in
set_option maxHeartbeats 4000000 in
theorem mix (s : S.St) (blk : List UInt8) (BA : Array Value) (hsz : BA.size = 64) (hBA : Hid (∀ k, k < 64 → BA[k]? = some (vb (S.by8 blk k)))) (b : Nat) (T : TypeId) (C : Array Value) (w : World)
    (hC : Hid (w.heap[b]? = some (.cells C T (0, 0)))) (hS : Hid (AtSt C s)) (hK : Hid (KW w)) (hb : 2 ≤ b) (hsC : 8 ≤ C.size) :
    Calls Tryd.prog 66 #[.pointer (some ⟨b, 0, none⟩), .agg BA] w fun e w' => e = .returned (.tuple #[]) ∧
      (∃ D, w'.heap[b]? = some (.cells D T (0, 0)) ∧ D.size = C.size ∧ AtSt D (S.mix s blk) ∧ ∀ i, 8 ≤ i → D[i]? = C[i]?) ∧ Off b w w' := by
  have hbw : b < w.heap.size := by
    rcases Nat.lt_or_ge b w.heap.size with h | h
    · exact h
    · have := hC.out; rw [Array.getElem?_eq_none h] at this; simp at this
  obtain ⟨WA, hWA⟩ : ∃ WA, WA = ((S.sched blk).map vw).toArray := ⟨_, rfl⟩
  have hWs : WA.size = 64 := by rw [hWA]; exact sched_size blk
  have hW1 : Hid (WA.all (·.oneCell') = true) := by show _ = _; rw [hWA]; exact sched_one blk
  have hWt : Hid (∀ t, t < 64 → WA[t]? = some (vw ((S.sched blk).getD t 0))) := by rw [hWA]; exact sched_at blk
  have CS : Hid (∀ W, Calls Tryd.prog 71 #[.agg BA] W fun e w' => e = .returned (.agg WA) ∧ Below W.heap.size W w') := by rw [hWA]; exact spread blk BA hsz hBA
  clear hWA hBA
  have hr0 : Hid ((w.alloc (.cells BA 93)).heap[w.heap.size]? = some (.cells BA 93 (0, 0))) := heap_alloc_new _ _
  go_enter Tryd.func66, Tryd.ntmps66
  go_wp2_with (first
    | (go_at_call 71; refine (CS.out _).mono ?_; clear hr0; rintro e w1 ⟨rfl, HB1⟩)
    | refine wpList_load_row rfl 93 _ rfl _ rfl 93 BA (0, 0) _ hr0.out und51 rfl (by rw [hsz]; exact info51) ?_
    | refine wpList_store_row rfl 97 _ _ rfl _ WA rfl rfl 97 zero64 (heap_alloc_new _ _) (by rw [hWs]; exact info47) (by rw [zero64_size, hWs]) hW1.out ?_)
  have hb0 : b < (w.alloc (.cells BA 93)).heap.size := by simp; omega
  have hO1 : Off b w w1 := (Off.of_below ((Below.refl _ w).alloc (Nat.le_refl _) _)).trans (Off.of_below HB1)
  have hn1 := hO1.size
  have hC1 : w1.heap[b]? = some (.cells C T (0, 0)) := by rw [HB1.block b hb0, Below.heap_alloc _ _ _ hbw]; exact hC.out
  rw [World.setRow_alloc_new]
  have hO2 : Off b w (w1.alloc (.cells WA 97)) := hO1.trans (Off.of_below ((Below.refl _ w1).alloc (Nat.le_refl _) _))
  have hC2 : (w1.alloc (.cells WA 97)).heap[b]? = some (.cells C T (0, 0)) := by rw [Below.heap_alloc _ _ _ (by omega)]; exact hC1
  have hW2 : (w1.alloc (.cells WA 97)).heap[w1.heap.size]? = some (.cells WA 97 (0, 0)) := heap_alloc_new _ _
  have hz2 : w1.heap.size < (w1.alloc (.cells WA 97)).heap.size := by simp
  generalize (w1.alloc (.cells WA 97)) = W1 at *
  have hn1b : b < w1.heap.size := by omega
  generalize w1.heap.size = n1 at *
  clear hC1 hO1 HB1 hb0 hC hn1
  have cst : ∀ i, i < 8 → W1.cell? ⟨b, i, none⟩ = some (vw (s.toL.getD i 0)) := fun i hi => by rw [cell_of_row _ _ i C _ _ hC2]; exact hS.out i hi
  have k0 : W1.cell? ⟨b, 0, none⟩ = some (vw s.a) := cst 0 (by decide)
  have k1 : W1.cell? ⟨b, 1, none⟩ = some (vw s.b) := cst 1 (by decide)
  have k2 : W1.cell? ⟨b, 2, none⟩ = some (vw s.c) := cst 2 (by decide)
  have k3 : W1.cell? ⟨b, 3, none⟩ = some (vw s.d) := cst 3 (by decide)
  have k4 : W1.cell? ⟨b, 4, none⟩ = some (vw s.e) := cst 4 (by decide)
  have k5 : W1.cell? ⟨b, 5, none⟩ = some (vw s.f) := cst 5 (by decide)
  have k6 : W1.cell? ⟨b, 6, none⟩ = some (vw s.g) := cst 6 (by decide)
  have k7 : W1.cell? ⟨b, 7, none⟩ = some (vw s.h) := cst 7 (by decide)
  have HK1 : Hid (KW W1) := hK.out.off hO2 (by omega) (by omega)
  have HWC : Hid (∀ t, t < 64 → W1.cell? ⟨n1, t, none⟩ = some (vw ((S.sched blk).getD t 0))) := fun t ht => by rw [cell_of_row _ _ t WA _ _ hW2]; exact hWt.out t ht
  have HC2 : Hid (W1.heap[b]? = some (.cells C T (0, 0))) := hC2
  have HO2 : Hid (Off b w W1) := hO2
  clear cst hC2 hW2 hO2 hK hWt hW1 w1
  go_quiet (fail)
  clear k0 k1 k2 k3 k4 k5 k6 k7
  go_wp2_with fail
  go_loopw [5, 6, 7, 8, 9, 10, 11, 12, 13, 14, 15, 52] (fun u5 u6 u7 u8 u9 u10 u11 u12 u13 u14 u15 u52 wr => ∃ t : Nat, t ≤ 64 ∧ u52 = .int .i64 t ∧ Below W1.heap.size W1 wr ∧
      u5 = vw (S.rnds (S.sched blk) s t).a ∧ u6 = vw (S.rnds (S.sched blk) s t).b ∧ u7 = vw (S.rnds (S.sched blk) s t).c ∧ u8 = vw (S.rnds (S.sched blk) s t).d ∧
      u9 = vw (S.rnds (S.sched blk) s t).e ∧ u10 = vw (S.rnds (S.sched blk) s t).f ∧ u11 = vw (S.rnds (S.sched blk) s t).g ∧ u12 = vw (S.rnds (S.sched blk) s t).h)
    (fun _ _ _ _ _ _ _ _ _ _ _ u52 _ => 64 - (intOf u52).toNat)
  case atStart => exact ⟨0, by omega, rfl, below_drewN (Below.refl _ _) _, rfl, rfl, rfl, rfl, rfl, rfl, rfl, rfl⟩
  case round =>
    obtain ⟨t, ht, rfl, hB, rfl, rfl, rfl, rfl, rfl, rfl, rfl, rfl⟩ := hrel
    have HB : Hid (Below W1.heap.size W1 wr) := hB
    clear hB
    by_cases hlt : t < 64
    · have cK : wr.cell? ⟨1, t, none⟩ = some (vw (S.kw t)) := by rw [HB.out.cell (p := ⟨1, t, none⟩) (show 1 < W1.heap.size by omega)]; exact HK1.out t hlt
      have cW : wr.cell? ⟨n1, t, none⟩ = some (vw ((S.sched blk).getD t 0)) := by rw [HB.out.cell (p := ⟨n1, t, none⟩) hz2]; exact HWC.out t hlt
      have i0 : (0 : Int) ≤ (t : Int) := by omega
      have j0 : (t : Int) < 64 := by omega
      have HE : Hid (S.rnds (S.sched blk) s (t + 1) = S.round (S.rnds (S.sched blk) s t) (S.kw t) ((S.sched blk).getD t 0)) := rfl
      generalize S.rnds (S.sched blk) s t = r at *
      generalize (S.sched blk).getD t 0 = wt at *
      generalize S.kw t = kt at *
      have ha := u_add
      have ha' := u_add'
      have hx := u_xor
      have hn := u_and
      have hN := u_not
      go_wp2_with fail
      go_quiet ((go_at_call 72; exact Calls.quiet_of_same (bs1 _ _)))
      go_wp2_with (go_at_call 73; refine (bs0 _ _).mono ?_; rintro e w' ⟨rfl, rfl⟩)
      go_roundw
      case rel =>
        refine ⟨t + 1, by omega, by go_num, below_drewN HB.out _, ?_⟩
        rw [HE.out]
        exact ⟨rfl, rfl, rfl, rfl, rfl, rfl, rfl, rfl⟩
      case measure => simp [intOf]; omega
    · have h64 : Hid (t = 64) := by show _ = _; omega
      have hdf : decide ((t : Int) < 64) = false := by simp; omega
      obtain ⟨r, hr⟩ : ∃ r, r = S.rnds (S.sched blk) s t := ⟨_, rfl⟩
      rw [← hr]
      have HR : Hid (r = S.rnds (S.sched blk) s t) := hr
      clear hr
      go_wp2_with fail
      generalize hRA : (#[vw r.a, vw r.b, vw r.c, vw r.d, vw r.e, vw r.f, vw r.g, vw r.h] : Array Value) = RA
      have HRA : Hid (∀ k, k < 8 → RA[k]? = some (vw (r.toL.getD k 0))) := by
        intro k hk
        rw [← hRA]
        rcases k with _ | _ | _ | _ | _ | _ | _ | _ | k
        all_goals first | rfl | omega
      clear hRA
      have HCr : Hid (wr.heap[b]? = some (.cells C T (0, 0))) := by show _ = _; rw [HB.out.block b (by omega)]; exact HC2.out
      have HOr : Hid (Off b w wr) := HO2.out.trans (Off.of_below HB.out)
      clear HB HO2 HC2 HWC HK1
      go_loopw [16, 17, 112] (fun u16 u17 u112 wq => ∃ (k : Nat) (D : Array Value), k ≤ 8 ∧ u112 = .int .i64 k ∧ wq.heap[b]? = some (.cells D T (0, 0)) ∧ D.size = C.size ∧
          (∀ j, j < 8 → D[j]? = some (vw (if j < k then s.toL.getD j 0 + r.toL.getD j 0 else s.toL.getD j 0))) ∧ (∀ j, 8 ≤ j → D[j]? = C[j]?) ∧ Off b w wq)
        (fun _ _ u112 _ => 8 - (intOf u112).toNat)
      case atStart => exact ⟨0, C, by omega, rfl, HCr.out, rfl, fun j hj => by rw [if_neg (by omega)]; exact hS.out j hj, fun _ _ => rfl, HOr.out⟩
      case round =>
        obtain ⟨k, D, hk, rfl, hD, hDs, hDj, hD8, hO⟩ := hrel
        have HD : Hid (wr.heap[b]? = some (.cells D T (0, 0))) := hD
        have HO : Hid (Off b w wr) := hO
        have HJ : Hid (∀ j, j < 8 → D[j]? = some (vw (if j < k then s.toL.getD j 0 + r.toL.getD j 0 else s.toL.getD j 0))) := hDj
        have H8 : Hid (∀ j, 8 ≤ j → D[j]? = C[j]?) := hD8
        clear hdf hD hO hDj hD8 HCr HOr
        by_cases hlt : k < 8
        · have hx := index46 RA k _ hlt (HRA.out k hlt)
          have hc : wr.cell? ⟨b, k, none⟩ = some (vw (s.toL.getD k 0)) := by rw [cell_of_row _ _ k D _ _ HD.out, HJ.out k hlt, if_neg (by omega)]
          have hf : wr.frozen? ⟨b, k, none⟩ = false := by have := HD.out; simp [World.frozen?, this]
          have ha := u_add
          have ha' := u_add'
          have i0 : (0 : Int) ≤ (k : Int) := by omega
          have j0 : (k : Int) < 8 := by omega
          have HX : Hid (∀ x y, x = s.toL.getD k 0 → y = r.toL.getD k 0 → ∀ j, j < 8 → (D.setIfInBounds k (vw (x + y)))[j]? = some (vw (if j < k + 1 then s.toL.getD j 0 + r.toL.getD j 0 else s.toL.getD j 0))) := by
            rintro x y rfl rfl j hj
            by_cases hjk : j = k
            · subst hjk
              rw [Array.getElem?_setIfInBounds_self_of_lt (by omega), if_pos (by omega)]
            · rw [Array.getElem?_setIfInBounds_ne (by omega), HJ.out j hj]
              by_cases hjl : j < k
              · rw [if_pos hjl, if_pos (by omega)]
              · rw [if_neg hjl, if_neg (by omega)]
          have Hsx : Hid (s.toL.getD k 0 = s.toL.getD k 0 ∧ r.toL.getD k 0 = r.toL.getD k 0) := ⟨rfl, rfl⟩
          obtain ⟨x, hxe⟩ : ∃ x, x = s.toL.getD k 0 := ⟨_, rfl⟩
          obtain ⟨y, hye⟩ : ∃ y, y = r.toL.getD k 0 := ⟨_, rfl⟩
          have HX2 := HX.out x y hxe hye
          have HX3 : Hid (∀ j, j < 8 → (D.setIfInBounds k (vw (x + y)))[j]? = some (vw (if j < k + 1 then s.toL.getD j 0 + r.toL.getD j 0 else s.toL.getD j 0))) := HX2
          rw [← hxe] at hc
          rw [← hye] at hx
          clear HX HX2 hxe hye Hsx
          go_wp2_with fail
          go_region
          go_wp2_with fail
          go_roundw
          case rel => exact ⟨k + 1, D.setIfInBounds k (vw (x + y)), by omega, by go_num, heap_setCell_row HD.out, by simp [hDs], HX3.out, fun j hj => by rw [Array.getElem?_setIfInBounds_ne (by omega)]; exact H8.out j hj, (HO.out.setCell _ _).drew⟩
          case measure => simp [intOf]; omega
        · have h8 : Hid (k = 8) := by show _ = _; omega
          have hdf : decide ((k : Int) < 8) = false := by simp; omega
          go_wp2_with fail
          refine bodyPost_end (results_none rfl _ _ _) rfl ?_
          refine ⟨rfl, ⟨D, HD.out, hDs, fun i hi => ?_, H8.out⟩, HO.out⟩
          rw [HJ.out i hi, if_pos (by rw [h8.out]; exact hi), HR.out, h64.out]
          rcases i with _ | _ | _ | _ | _ | _ | _ | _ | i
          all_goals first | rfl | omega
end Go.Proofs.YtfbjakhanjbaeaaDoor
