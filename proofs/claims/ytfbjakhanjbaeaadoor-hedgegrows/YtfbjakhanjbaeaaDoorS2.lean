/- What stamp.spread answers: a block's 64 words. -/
import Derived.Test.YtfbjakhanjbaeaaDoorS1
import Derived.Deep.WholeRow
import Derived.Deep.MidRow
import Derived.Deep.RegionHeld3
namespace Go.Proofs.YtfbjakhanjbaeaaDoor
open Go.RowKit
set_option linter.unusedVariables false

theorem wrap_i64_of {n : Int} (h1 : -9223372036854775808 ≤ n) (h2 : n ≤ 9223372036854775807) : IntKind.i64.wrap n = n := by
  simp only [IntKind.wrap, IntKind.bits, IntKind.signed]; simp; omega

theorem setCell_apart {w : World} {b i j : Nat} {v x : Value} (h : i ≠ j) (hc : w.cell? ⟨b, j, none⟩ = some x) : (w.setCell ⟨b, i, none⟩ v).cell? ⟨b, j, none⟩ = some x := by
  exact (World.cell?_setCell_other w ⟨b, i, none⟩ ⟨b, j, none⟩ v (fun e => h (congrArg Addr.off e))).trans hc

theorem heap_setCell_row {w : World} {b i : Nat} {C : Array Value} {t : TypeId} {fr : Nat × Nat} {v : Value} (h : w.heap[b]? = some (.cells C t fr)) : (w.setCell ⟨b, i, none⟩ v).heap[b]? = some (.cells (C.setIfInBounds i v) t fr) := by
  show (w.heap.modify b _)[b]? = _
  rw [Array.getElem?_modify, if_pos rfl, h]; rfl

theorem below_setRow {B : Nat} {a w : World} (h : Below B a w) {g : Nat} (hg : B ≤ g) (cs : Array Value) : Below B a (w.setRow g cs) :=
  ⟨h.os, h.tape, h.output, by have := h.size; simp [World.setRow]; exact this, fun k hk => by
    rw [← h.block k hk]
    show (w.heap.modify g _)[k]? = _
    rw [Array.getElem?_modify, if_neg (by omega)]⟩

/-- the words so far, when i bytes of the block are in: word j holds the bytes 4j .. below i -/
def pw (b : List UInt8) (i j : Nat) : UInt32 :=
  if i ≤ 4 * j then 0 else if i = 4 * j + 1 then UInt32.ofNat (S.by8 b (4 * j)).toNat
  else if i = 4 * j + 2 then UInt32.ofNat ((S.by8 b (4 * j)).toNat * 256 + (S.by8 b (4 * j + 1)).toNat)
  else if i = 4 * j + 3 then UInt32.ofNat (((S.by8 b (4 * j)).toNat * 256 + (S.by8 b (4 * j + 1)).toNat) * 256 + (S.by8 b (4 * j + 2)).toNat)
  else S.w16 b j

theorem pw_zero (b : List UInt8) (j : Nat) : pw b 0 j = 0 := by simp [pw]
theorem pw_full (b : List UInt8) (j : Nat) (h : j < 16) : pw b 64 j = S.w16 b j := by
  unfold pw; rw [if_neg (by omega), if_neg (by omega), if_neg (by omega), if_neg (by omega)]
theorem pw_other (b : List UInt8) (i j : Nat) (h : j ≠ i / 4) : pw b (i + 1) j = pw b i j := by
  unfold pw
  by_cases h1 : i ≤ 4 * j
  · rw [if_pos (show i + 1 ≤ 4 * j by omega), if_pos h1]
  · rw [if_neg (by omega), if_neg (by omega), if_neg (by omega), if_neg (by omega), if_neg h1, if_neg (by omega), if_neg (by omega), if_neg (by omega)]

theorem or32b (x : UInt32) (c : UInt8) : bits .or .u32 (vi x * 256 % 4294967296) (c.toNat : Int) = vi (UInt32.ofNat (x.toNat * 256) ||| UInt32.ofNat c.toNat) := by
  have hc := c.toNat_lt
  have e : (c.toNat : Int) = vi (UInt32.ofNat c.toNat) := by
    unfold vi; rw [UInt32.toNat_ofNat_of_lt' (by show c.toNat < 4294967296; omega)]
  have e2 : vi x * 256 % 4294967296 = vi (UInt32.ofNat (x.toNat * 256)) := by
    have := u_mul x 256; rwa [IntKind.wrap_u32'] at this
  rw [e, e2, u_or]
theorem join8 (m : Nat) (c : UInt8) (h : m < 16777216) : UInt32.ofNat (m * 256) ||| UInt32.ofNat c.toNat = UInt32.ofNat (m * 256 + c.toNat) := by
  have hc := c.toNat_lt
  apply UInt32.toNat_inj.1
  rw [UInt32.toNat_or, UInt32.toNat_ofNat_of_lt' (by show _ < 4294967296; omega), UInt32.toNat_ofNat_of_lt' (by show _ < 4294967296; omega), UInt32.toNat_ofNat_of_lt' (by show _ < 4294967296; omega)]
  exact nat_join 8 (m * 256) c.toNat (by omega) (by omega)
theorem pw_step (b : List UInt8) (i : Nat) : UInt32.ofNat ((pw b i (i / 4)).toNat * 256) ||| UInt32.ofNat (S.by8 b i).toNat = pw b (i + 1) (i / 4) := by
  have h0 := (S.by8 b (4 * (i / 4))).toNat_lt
  have h1 := (S.by8 b (4 * (i / 4) + 1)).toNat_lt
  have h2 := (S.by8 b (4 * (i / 4) + 2)).toNat_lt
  have hr : i % 4 = 0 ∨ i % 4 = 1 ∨ i % 4 = 2 ∨ i % 4 = 3 := by omega
  have hi : i = 4 * (i / 4) + i % 4 := by omega
  generalize i / 4 = j at *
  rcases hr with hr | hr | hr | hr <;> rw [hr] at hi <;> subst hi
  · have e1 : pw b (4 * j + 0) j = 0 := by unfold pw; rw [if_pos (by omega)]
    have e2 : pw b (4 * j + 0 + 1) j = UInt32.ofNat (S.by8 b (4 * j)).toNat := by unfold pw; rw [if_neg (by omega), if_pos (by omega)]
    rw [e1, e2, show (UInt32.ofNat ((0 : UInt32).toNat * 256)) = UInt32.ofNat (0 * 256) by rfl, join8 _ _ (by omega)]; simp
  · have e1 : pw b (4 * j + 1) j = UInt32.ofNat (S.by8 b (4 * j)).toNat := by unfold pw; rw [if_neg (by omega), if_pos (by omega)]
    have e2 : pw b (4 * j + 1 + 1) j = UInt32.ofNat ((S.by8 b (4 * j)).toNat * 256 + (S.by8 b (4 * j + 1)).toNat) := by unfold pw; rw [if_neg (by omega), if_neg (by omega), if_pos (by omega)]
    rw [e1, e2, UInt32.toNat_ofNat_of_lt' (by show _ < 4294967296; omega), join8 _ _ (by omega)]
  · have e1 : pw b (4 * j + 2) j = UInt32.ofNat ((S.by8 b (4 * j)).toNat * 256 + (S.by8 b (4 * j + 1)).toNat) := by unfold pw; rw [if_neg (by omega), if_neg (by omega), if_pos (by omega)]
    have e2 : pw b (4 * j + 2 + 1) j = UInt32.ofNat (((S.by8 b (4 * j)).toNat * 256 + (S.by8 b (4 * j + 1)).toNat) * 256 + (S.by8 b (4 * j + 2)).toNat) := by unfold pw; rw [if_neg (by omega), if_neg (by omega), if_neg (by omega), if_pos (by omega)]
    rw [e1, e2, UInt32.toNat_ofNat_of_lt' (by show _ < 4294967296; omega), join8 _ _ (by omega)]
  · have e1 : pw b (4 * j + 3) j = UInt32.ofNat (((S.by8 b (4 * j)).toNat * 256 + (S.by8 b (4 * j + 1)).toNat) * 256 + (S.by8 b (4 * j + 2)).toNat) := by unfold pw; rw [if_neg (by omega), if_neg (by omega), if_neg (by omega), if_pos (by omega)]
    have e2 : pw b (4 * j + 3 + 1) j = S.w16 b j := by unfold pw; rw [if_neg (by omega), if_neg (by omega), if_neg (by omega), if_neg (by omega)]
    rw [e1, e2, UInt32.toNat_ofNat_of_lt' (by show _ < 4294967296; omega), join8 _ _ (by omega)]
    rfl

theorem info47 : (Tryd.prog.info? 97).map (·.size) = some 64 := by kernel_rfl
theorem info51 : (Tryd.prog.info? 93).map (·.size) = some 64 := by kernel_rfl
def zero64 : Array Value := (List.replicate 64 (Value.int .u32 0)).toArray
theorem zero47 (W : World) : (zeroValue 97).run Tryd.prog W = .ok (.agg zero64) W := by kernel_rfl
theorem zero64_size : zero64.size = 64 := by simp [zero64]
theorem zero64_at (j : Nat) (h : j < 64) : zero64[j]? = some (vw 0) := by
  unfold zero64
  rw [List.getElem?_toArray, List.getElem?_replicate, if_pos h]; rfl
theorem und47 : Tryd.prog.underlying 97 = some (.array 64 90) := by kernel_rfl
theorem und51 : Tryd.prog.underlying 93 = some (.array 64 5) := by kernel_rfl
attribute [local go_sem ↓] zero47
theorem index51 (BA : Array Value) (k : Nat) (v : Value) (hk : k < 64) (h : BA[k]? = some v) (W : World) : (Instr.index 93 (.agg BA) (.int .i64 k)).run Tryd.prog W = .ok v W := by
  simp [Instr.index, run_underlying und51, asIntOf, go_sem, hk, h, Tryd.sizeOf5]

set_option maxHeartbeats 1600000 in
theorem spread (b : List UInt8) (BA : Array Value) (hsz : BA.size = 64) (hBA : Hid (∀ k, k < 64 → BA[k]? = some (vb (S.by8 b k)))) (w : World) :
    Calls Tryd.prog 71 #[.agg BA] w fun e w' => e = .returned (.agg ((S.sched b).map vw).toArray) ∧ Below w.heap.size w w' := by
  go_enter Tryd.func71, Tryd.ntmps71
  have hr0 : (((w.alloc (.cells BA 93)).alloc (.cells zero64 97)).alloc (.cells zero64 97)).heap[w.heap.size]? = some (.cells BA 93 (0, 0)) := by
    rw [Below.heap_alloc _ _ _ (by simp; omega), Below.heap_alloc _ _ _ (by simp)]; exact heap_alloc_new _ _
  have HR : Hid ((((w.alloc (.cells BA 93)).alloc (.cells zero64 97)).alloc (.cells zero64 97)).heap[w.heap.size]? = some (.cells BA 93 (0, 0))) := hr0
  clear hr0
  go_wp2_with (refine wpList_load_row rfl 93 _ rfl _ rfl 93 BA (0, 0) _ HR.out und51 rfl (by rw [hsz]; exact info51) ?_)
  clear HR
  go_loopw [4, 5, 8] (fun u4 u5 u8 wr => ∃ (k : Nat) (C : Array Value), k ≤ 64 ∧ u8 = .int .i64 k ∧ wr = ((w.alloc (.cells BA 93)).alloc (.cells zero64 97)).alloc (.cells C 97) ∧ C.size = 64 ∧ ∀ j, j < 64 → C[j]? = some (vw (pw b k j)))
    (fun _ _ u8 _ => 64 - (intOf u8).toNat)
  case atStart => exact ⟨0, zero64, by omega, rfl, rfl, zero64_size, fun j hj => by rw [pw_zero]; exact zero64_at j hj⟩
  case round =>
    obtain ⟨k, C, hk, rfl, rfl, hC, hCj⟩ := hrel
    have HC : Hid (∀ j, j < 64 → C[j]? = some (vw (pw b k j))) := hCj
    clear hCj
    by_cases hlt : k < 64
    · have hx := index51 BA k _ hlt (hBA.out k hlt)
      have hy := HC.out (k / 4) (by omega)
      have hor := or32b (pw b k (k / 4)) (S.by8 b k)
      go_wp2_with fail
      go_roundw
      case rel =>
        have hc := (S.by8 b k).toNat_lt
        have e : ((S.by8 b k).toNat : Int) % 4294967296 = ((S.by8 b k).toNat : Int) := by omega
        rw [e, hor, pw_step]
        refine ⟨k + 1, _, by omega, by go_num, rfl, by simp [hC], fun j hj => ?_⟩
        by_cases hjk : j = k / 4
        · subst hjk; rw [Array.getElem?_setIfInBounds_self_of_lt (by omega)]
        · rw [Array.getElem?_setIfInBounds_ne (by omega), HC.out j hj, pw_other b k j hjk]
      case measure => simp [intOf]; omega
    · have HD : Hid (∀ j, j < 16 → C[j]? = some (vw ((S.ws16 b).getD j 0))) := fun j hj => by
        obtain rfl : k = 64 := by omega
        rw [HC.out j (by omega), pw_full b j hj]
        simp [S.ws16, hj]
      have hdf : decide ((k : Int) < 64) = false := by simp; omega
      clear HC hBA
      have HB : Hid (Below (w.heap.size + 1 + 1) (((w.alloc (.cells BA 93)).alloc (.cells zero64 97)).alloc (.cells C 97)) (((w.alloc (.cells BA 93)).alloc (.cells zero64 97)).alloc (.cells C 97))) := Below.refl _ _
      have HH : Hid ((((w.alloc (.cells BA 93)).alloc (.cells zero64 97)).alloc (.cells C 97)).heap[w.heap.size + 1 + 1]? = some (.cells C 97 (0, 0))) := by
        have := heap_alloc_new ((w.alloc (.cells BA 93)).alloc (.cells zero64 97)) (.cells C 97)
        rw [show ((w.alloc (.cells BA 93)).alloc (.cells zero64 97)).heap.size = w.heap.size + 1 + 1 by simp] at this
        exact this
      have H1 : Hid ((((w.alloc (.cells BA 93)).alloc (.cells zero64 97)).alloc (.cells C 97)).heap[w.heap.size + 1]? = some (.cells zero64 97 (0, 0))) := by
        show _ = _
        rw [Below.heap_alloc _ _ _ (by simp)]
        have := heap_alloc_new (w.alloc (.cells BA 93)) (.cells zero64 97)
        rw [show (w.alloc (.cells BA 93)).heap.size = w.heap.size + 1 by simp] at this
        exact this
      have HW : Hid (Below w.heap.size w (((w.alloc (.cells BA 93)).alloc (.cells zero64 97)).alloc (.cells C 97))) :=
        (((Below.refl _ w).alloc (Nat.le_refl _) _).alloc (by simp) _).alloc (by simp; omega) _
      go_wp2_with fail
      generalize hW : (((w.alloc (.cells BA 93)).alloc (.cells zero64 97)).alloc (.cells C 97)) = W2 at *
      clear hW
      go_loopw [6] (fun u6 wr => ∃ (k : Nat) (D : Array Value), k ≤ 48 ∧ u6 = .int .i64 ((k : Int) + 16) ∧ wr.heap[w.heap.size + 1 + 1]? = some (.cells D 97 (0, 0)) ∧ Below (w.heap.size + 1 + 1) W2 wr ∧ D.size = 64 ∧ ∀ j, j < 16 + k → D[j]? = some (vw ((S.ext (S.ws16 b) k).getD j 0)))
        (fun u6 _ => 64 - (intOf u6).toNat)
      case atStart => exact ⟨0, C, by omega, rfl, HH.out, HB.out, hC, HD.out⟩
      case round =>
        clear hdf hlt
        clear hk
        obtain ⟨k, D, hk, rfl, hD, hB, hDs, hDj⟩ := hrel
        clear HD HB HH
        by_cases hlt : k < 48
        · have cell : ∀ j, j < 16 + k → wr.cell? ⟨w.heap.size + 1 + 1, j, none⟩ = some (vw ((S.ext (S.ws16 b) k).getD j 0)) := fun j hj => by
            rw [cell_of_row _ _ j D _ _ hD]; exact hDj j hj
          have frz : ∀ j, wr.frozen? ⟨w.heap.size + 1 + 1, j, none⟩ = false := fun j => by
            simp [World.frozen?, hD]
          obtain ⟨l, hl⟩ : ∃ l, l = S.ext (S.ws16 b) k := ⟨_, rfl⟩
          rw [← hl] at cell
          have c14 := cell (k + 14) (by omega)
          have c9 := cell (k + 9) (by omega)
          have c1 := cell (k + 1) (by omega)
          have c0 := cell k (by omega)
          obtain ⟨v16, d16⟩ : ∃ v, D[k + 16]? = some v := ⟨D[k + 16]'(by omega), Array.getElem?_eq_getElem (by omega)⟩
          have c16 : wr.cell? ⟨w.heap.size + 1 + 1, k + 16, none⟩ = some v16 := by rw [cell_of_row _ _ _ D _ _ hD]; exact d16
          have f16 := frz (k + 16)
          have i0 : (0 : Int) ≤ (k : Int) := by omega
          have j0 : (k : Int) < 64 := by omega
          have i1 : (0 : Int) ≤ (k : Int) + 1 := by omega
          have j1 : (k : Int) + 1 < 64 := by omega
          have i9 : (0 : Int) ≤ (k : Int) + 9 := by omega
          have j9 : (k : Int) + 9 < 64 := by omega
          have i14 : (0 : Int) ≤ (k : Int) + 14 := by omega
          have j14 : (k : Int) + 14 < 64 := by omega
          have i16 : (0 : Int) ≤ (k : Int) + 16 := by omega
          have j16 : (k : Int) + 16 < 64 := by omega
          have s2 : IntKind.i64.wrap ((k : Int) + 16 - 2) = (k : Int) + 14 := by rw [wrap_i64_of (by omega) (by omega)]; omega
          have s7 : IntKind.i64.wrap ((k : Int) + 16 - 7) = (k : Int) + 9 := by rw [wrap_i64_of (by omega) (by omega)]; omega
          have s15 : IntKind.i64.wrap ((k : Int) + 16 - 15) = (k : Int) + 1 := by rw [wrap_i64_of (by omega) (by omega)]; omega
          have s0 : IntKind.i64.wrap (k : Int) = (k : Int) := wrap_i64_of (by omega) (by omega)
          have s16 : IntKind.i64.wrap ((k : Int) + 16 - 16) = (k : Int) := by rw [wrap_i64_of (by omega) (by omega)]; omega
          have t14 : ((k : Int) + 14).toNat = k + 14 := by omega
          have t9 : ((k : Int) + 9).toNat = k + 9 := by omega
          have t1 : ((k : Int) + 1).toNat = k + 1 := by omega
          have t16 : ((k : Int) + 16).toNat = k + 16 := by omega
          have ha := u_add
          have ha' := u_add'
          have HL : Hid (S.nextW l = S.ss1 (l.getD (k + 14) 0) + l.getD (k + 9) 0 + S.ss0 (l.getD (k + 1) 0) + l.getD k 0) := by
            show _ = _
            have hlen : l.length = k + 16 := by rw [hl, S.ext_length, S.ws16_length]; omega
            unfold S.nextW
            rw [hlen, show k + 16 - 2 = k + 14 by omega, show k + 16 - 7 = k + 9 by omega, show k + 16 - 15 = k + 1 by omega, show k + 16 - 16 = k by omega]
          have HD : Hid (wr.heap[w.heap.size + 1 + 1]? = some (.cells D 97 (0, 0))) := hD
          have HB : Hid (Below (w.heap.size + 1 + 1) W2 wr) := hB
          have HJ : Hid (∀ j, j < 16 + k → D[j]? = some (vw (l.getD j 0))) := by rw [hl]; exact hDj
          have Hl : Hid (l = S.ext (S.ws16 b) k) := hl
          clear cell frz hD hB hDj hl
          generalize l.getD (k + 14) 0 = x14 at *
          generalize l.getD (k + 9) 0 = x9 at *
          generalize l.getD (k + 1) 0 = x1 at *
          generalize l.getD k 0 = x0 at *
          go_wp2_with fail
          go_region_held3 (fun w' => w'.cell? ⟨w.heap.size + 1 + 1, k + 14, none⟩ = some (vw x14) ∧ w'.cell? ⟨w.heap.size + 1 + 1, k + 9, none⟩ = some (vw x9) ∧ w'.cell? ⟨w.heap.size + 1 + 1, k + 1, none⟩ = some (vw x1) ∧ w'.cell? ⟨w.heap.size + 1 + 1, k, none⟩ = some (vw x0)) (first | exact ⟨setCell_apart (by omega) c14, setCell_apart (by omega) c9, setCell_apart (by omega) c1, setCell_apart (by omega) c0⟩ | go_keep)
            (first
              | (go_at_call 76; refine (ss0 _ _).mono ?_; rintro e w' ⟨rfl, rfl⟩)
              | (go_at_call 75; refine (ss1 _ _).mono ?_; rintro e w' ⟨rfl, rfl⟩))
          clear s0 s2 s7 s15 s16 t14 t9 t1 t16 i0 i1 i9 i14 i16 j0 j1 j9 j14 j16 ha ha' c0 c1 c9 c14 c16 f16
          go_wp2_with fail
          go_roundw
          case rel =>
            refine ⟨k + 1, D.setIfInBounds (k + 16) (vw (S.ss1 x14 + x9 + S.ss0 x1 + x0)), by omega, by go_num, heap_setCell_row HD.out, (HB.out.setCell (Nat.le_refl _) _).drew, by simp [hDs], fun j hj => ?_⟩
            rw [← HL.out, Hl.out]
            have hlen : (S.ext (S.ws16 b) k).length = k + 16 := by rw [S.ext_length, S.ws16_length]; omega
            show (D.setIfInBounds (k + 16) (vw (S.nextW (S.ext (S.ws16 b) k))))[j]? = some (vw ((S.ext (S.ws16 b) k ++ [S.nextW (S.ext (S.ws16 b) k)]).getD j 0))
            by_cases hjk : j = k + 16
            · subst hjk
              rw [Array.getElem?_setIfInBounds_self_of_lt (by omega)]
              simp [List.getD, hlen]
            · rw [Array.getElem?_setIfInBounds_ne (by omega), HJ.out j (by omega), Hl.out]
              simp only [List.getD_eq_getElem?_getD]
              rw [List.getElem?_append_left (by omega)]
          case measure => simp [intOf]; omega
        · have hk48 : Hid (k = 48) := by show _ = _; omega
          have hdf : decide ((k : Int) + 16 < 64) = false := by simp; omega
          have h1 : wr.heap[w.heap.size + 1]? = some (.cells zero64 97 (0, 0)) := by rw [hB.block _ (by omega)]; exact H1.out
          have hone : D.all (·.oneCell') = true := by
            rw [Array.all_eq_true]
            intro i hi
            have e : D[i]? = some D[i] := Array.getElem?_eq_getElem hi
            rw [hDj i (by rw [hk48.out]; omega)] at e
            rw [← Option.some.inj e]; rfl
          have hfin : D = ((S.sched b).map vw).toArray := by
            apply Array.ext_getElem?
            intro i
            have hl : (S.ext (S.ws16 b) 48).length = 64 := by rw [S.ext_length, S.ws16_length]
            have e48 := hk48.out
            by_cases hi : i < 64
            · rw [hDj i (by omega), e48]
              simp [S.sched, hl, hi, List.getD_eq_getElem?_getD]
            · rw [Array.getElem?_eq_none (by omega), Array.getElem?_eq_none (by simp [S.sched, hl]; omega)]
          have HF : Hid (D = ((S.sched b).map vw).toArray) := hfin
          have HB2 : Hid (Below w.heap.size w wr) := HW.out.trans (hB.mono (by omega))
          clear hfin hDj
          go_wp2_with (first
            | refine wpList_load_row rfl 97 _ rfl _ rfl 97 D (0, 0) _ hD und47 rfl (by rw [hDs]; exact info47) ?_
            | refine wpList_store_row rfl 97 _ _ rfl _ D rfl rfl 97 zero64 h1 (by rw [hDs]; exact info47) (by rw [zero64_size, hDs]) hone ?_)
          (try simp only [Exit.inBlock, Exit.then])
          refine bodyPost_ret (results_cell_row rfl _ _ _ 97 D (0, 0) _ rfl (setRow_heap _ _ _ _ _ _ h1) und47 rfl (by rw [hDs]; exact info47)) rfl ?_
          exact ⟨by rw [HF.out], below_setRow HB2.out (by omega) _⟩
end Go.Proofs.YtfbjakhanjbaeaaDoor
