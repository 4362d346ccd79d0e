/- The texts S1 S2 S3 S4 S5 S6 S7 S8 as one. -/
import Derived.Test.YtlkllcnnnndllaaGreatDoorProg
import Derived.Test.YtlkllcnnnndllaaGreatDoorSMath
import Derived.WalkKit
import Derived.WalkSpells
import Derived.WalkLawsBesides
import Derived.BigQuiet
import Derived.Deep.QuietTactic
import Derived.Deep.WholeRow
import Derived.Deep.MidRow
import Derived.Deep.RegionHeld3
import Derived.Test.YtlkllcnnnndllaaGreatDoorMath
import Derived.Lib.SliceRun
import Derived.Laws.IdiomStrings
import Derived.Lib.Strings
/- What stamp's small functions on words answer: turn, smallSum0, smallSum1, bigSum0, bigSum1. -/
namespace Go.Proofs.YtlkllcnnnndllaaGreatDoor
open Go.RowKit

/-- a word as a number (its own name, so that no rule of numbers opens it) -/
def vi (x : UInt32) : Int := (x.toNat : Int)
theorem vi_lo (x : UInt32) : 0 ≤ vi x := by unfold vi; omega
theorem vi_hi (x : UInt32) : vi x ≤ 4294967295 := by have := x.toNat_lt; unfold vi; omega
abbrev vw (x : UInt32) : Value := .int .u32 (vi x)
abbrev vb (x : UInt8) : Value := .int .u8 (x.toNat : Int)

theorem u_add (x y : UInt32) : IntKind.u32.wrap (vi x + vi y) = vi (x + y) := by
  unfold vi; rw [IntKind.wrap_u32', UInt32.toNat_add]; omega
theorem u_add' (x y : UInt32) : (vi x + vi y) % 4294967296 = vi (x + y) := by rw [← IntKind.wrap_u32']; exact u_add x y
theorem u_xor (x y : UInt32) : bits .xor .u32 (vi x) (vi y) = vi (x ^^^ y) := by
  unfold vi; rw [u32_xor_nat _ _ x.toNat_lt y.toNat_lt, UInt32.toNat_xor]
theorem u_and (x y : UInt32) : bits .and .u32 (vi x) (vi y) = vi (x &&& y) := by
  unfold vi; rw [u32_and_nat _ _ x.toNat_lt y.toNat_lt, UInt32.toNat_and]
theorem u_or (x y : UInt32) : bits .or .u32 (vi x) (vi y) = vi (x ||| y) := by
  unfold vi; rw [u32_or_nat _ _ x.toNat_lt y.toNat_lt, UInt32.toNat_or]
theorem u_shr (x : UInt32) (n : Nat) : vi x / (2 ^ n : Nat) = vi (S.shr n x) := by
  have h : x.toNat / 2 ^ n < 4294967296 := Nat.lt_of_le_of_lt (Nat.div_le_self _ _) x.toNat_lt
  unfold vi S.shr; rw [UInt32.toNat_ofNat_of_lt' h]; rfl
theorem u_mul (x : UInt32) (d : Nat) : IntKind.u32.wrap (vi x * (d : Int)) = vi (UInt32.ofNat (x.toNat * d)) := by
  unfold vi; rw [IntKind.wrap_u32', UInt32.toNat_ofNat']
  simp
theorem rot_val (n k : Nat) (x : UInt32) (h : n + k = 32) : bits .or .u32 (IntKind.u32.wrap (vi x * 2 ^ k)) (vi x / 2 ^ n) = vi (S.rotr n x) := by
  have e1 : (2 : Int) ^ k = ((2 ^ k : Nat) : Int) := by simp
  have e2 : (2 : Int) ^ n = ((2 ^ n : Nat) : Int) := by simp
  obtain rfl : k = 32 - n := by omega
  rw [e1, e2, u_mul, u_shr, u_or]; rfl

theorem mask31 (n k : Nat) (h : n + k = 32) (h1 : 1 ≤ n) (h2 : n ≤ 31) : bits .and .u64 (IntKind.u64.wrap (-(n : Int))) 31 = (k : Int) := by
  have hh : ∀ m : Fin 32, 1 ≤ m.val → bits .and .u64 (IntKind.u64.wrap (-(m.val : Int))) 31 = 32 - (m.val : Int) := by decide +kernel
  have := hh ⟨n, by omega⟩ h1
  rw [this]; simp; omega

theorem rot_val' (n k : Nat) (x : UInt32) (h : n + k = 32) : bits .or .u32 (vi x * 2 ^ k % 4294967296) (vi x / 2 ^ n) = vi (S.rotr n x) := by
  rw [← IntKind.wrap_u32']; exact rot_val n k x h

theorem rotl (x : UInt32) (n k : Nat) (h : Hid (n + k = 32)) (h1 : 1 ≤ n) (h2 : n ≤ 31) (_hk : k ≤ 31) (w : World) :
    Calls Tryz.prog 103 #[vw x, .int .i64 (-(n : Int))] w fun e w' => e = .returned (vw (S.rotr n x)) ∧ w' = w := by
  have hm := mask31 n k h h1 h2
  have hs : (32 : Int) - (k : Int) = (n : Int) := by have := h.out; omega
  have hr := rot_val' n k x h
  go_enter Tryz.func103, Tryz.ntmps103
  go_wp2_with fail
  go_ret
  exact ⟨rfl, rfl⟩
theorem turn (x : UInt32) (n : Nat) (h1 : 1 ≤ n) (h2 : n ≤ 31) (w : World) :
    Calls Tryz.prog 100 #[vw x, .int .i64 (n : Int)] w fun e w' => e = .returned (vw (S.rotr n x)) ∧ w' = w := by
  go_enter Tryz.func100, Tryz.ntmps100
  go_wp2_with (go_at_call 103; refine (rotl x n (32 - n) (show _ = _ by omega) h1 h2 (by omega) _).mono ?_; rintro e w' ⟨rfl, rfl⟩)
  go_ret
  exact ⟨rfl, rfl⟩
theorem turnZ (x : UInt32) (n : Int) (h1 : 1 ≤ n) (h2 : n ≤ 31) (w : World) :
    Calls Tryz.prog 100 #[vw x, .int .i64 n] w fun e w' => e = .returned (vw (S.rotr n.toNat x)) ∧ w' = w := by
  have := turn x n.toNat (by omega) (by omega) w
  rwa [show (n.toNat : Int) = n by omega] at this
theorem bs1 (x : UInt32) (w : World) :
    Calls Tryz.prog 89 #[vw x] w fun e w' => e = .returned (vw (S.bs1 x)) ∧ w' = w := by
  have hx := u_xor
  go_enter Tryz.func89, Tryz.ntmps89
  go_wp2_with (go_at_call 100; refine (turnZ x _ (by decide) (by decide) _).mono ?_; rintro e w' ⟨rfl, rfl⟩)
  go_ret
  exact ⟨rfl, rfl⟩
theorem bs0 (x : UInt32) (w : World) :
    Calls Tryz.prog 90 #[vw x] w fun e w' => e = .returned (vw (S.bs0 x)) ∧ w' = w := by
  have hx := u_xor
  go_enter Tryz.func90, Tryz.ntmps90
  go_wp2_with (go_at_call 100; refine (turnZ x _ (by decide) (by decide) _).mono ?_; rintro e w' ⟨rfl, rfl⟩)
  go_ret
  exact ⟨rfl, rfl⟩
theorem ss0 (x : UInt32) (w : World) :
    Calls Tryz.prog 99 #[vw x] w fun e w' => e = .returned (vw (S.ss0 x)) ∧ w' = w := by
  have hx := u_xor
  have hd : vi x / 8 = vi (S.shr 3 x) := u_shr x 3
  go_enter Tryz.func99, Tryz.ntmps99
  go_wp2_with (go_at_call 100; refine (turnZ x _ (by decide) (by decide) _).mono ?_; rintro e w' ⟨rfl, rfl⟩)
  go_ret
  exact ⟨rfl, rfl⟩
theorem ss1 (x : UInt32) (w : World) :
    Calls Tryz.prog 98 #[vw x] w fun e w' => e = .returned (vw (S.ss1 x)) ∧ w' = w := by
  have hx := u_xor
  have hd : vi x / 1024 = vi (S.shr 10 x) := u_shr x 10
  go_enter Tryz.func98, Tryz.ntmps98
  go_wp2_with (go_at_call 100; refine (turnZ x _ (by decide) (by decide) _).mono ?_; rintro e w' ⟨rfl, rfl⟩)
  go_ret
  exact ⟨rfl, rfl⟩
end Go.Proofs.YtlkllcnnnndllaaGreatDoor

/- What stamp.spread answers: a block's 64 words. -/
namespace Go.Proofs.YtlkllcnnnndllaaGreatDoor
open Go.RowKit
set_option linter.unusedVariables false

theorem wrap_i64_of {n : Int} (h1 : -9223372036854775808 ≤ n) (h2 : n ≤ 9223372036854775807) : IntKind.i64.wrap n = n := by
  simp only [IntKind.wrap, IntKind.bits, IntKind.signed]; simp; omega

theorem setCell_apart {w : World} {b i j : Nat} {v x : Value} (h : i ≠ j) (hc : w.cell? ⟨b, j, none⟩ = some x) : (w.setCell ⟨b, i, none⟩ v).cell? ⟨b, j, none⟩ = some x := by
  exact (World.cell?_setCell_other w ⟨b, i, none⟩ ⟨b, j, none⟩ v (fun e => h (congrArg Addr.off e))).trans hc

theorem heap_setCell_row {w : World} {b i : Nat} {C : Array Value} {t : TypeId} {fr : Nat × Nat} {v : Value} (h : w.heap[b]? = some (.cells C t fr)) : (w.setCell ⟨b, i, none⟩ v).heap[b]? = some (.cells (C.setIfInBounds i v) t fr) := by
  show (w.heap.modify b _)[b]? = _
  rw [Array.getElem?_modify, if_pos rfl, h]; rfl

theorem below_setRow {B : Nat} {a w : World} (h : Below B a w) {g : Nat} (hg : B ≤ g) (cs : Array Value) : Below B a (w.setRow g cs) :=
  ⟨h.os, h.tape, h.output, by have := h.size; simp [World.setRow]; exact this, fun k hk => by
    rw [← h.block k hk]
    show (w.heap.modify g _)[k]? = _
    rw [Array.getElem?_modify, if_neg (by omega)]⟩

/-- the words so far, when i bytes of the block are in: word j holds the bytes 4j .. below i -/
def pw (b : List UInt8) (i j : Nat) : UInt32 :=
  if i ≤ 4 * j then 0 else if i = 4 * j + 1 then UInt32.ofNat (S.by8 b (4 * j)).toNat
  else if i = 4 * j + 2 then UInt32.ofNat ((S.by8 b (4 * j)).toNat * 256 + (S.by8 b (4 * j + 1)).toNat)
  else if i = 4 * j + 3 then UInt32.ofNat (((S.by8 b (4 * j)).toNat * 256 + (S.by8 b (4 * j + 1)).toNat) * 256 + (S.by8 b (4 * j + 2)).toNat)
  else S.w16 b j

theorem pw_zero (b : List UInt8) (j : Nat) : pw b 0 j = 0 := by simp [pw]
theorem pw_full (b : List UInt8) (j : Nat) (h : j < 16) : pw b 64 j = S.w16 b j := by
  unfold pw; rw [if_neg (by omega), if_neg (by omega), if_neg (by omega), if_neg (by omega)]
theorem pw_other (b : List UInt8) (i j : Nat) (h : j ≠ i / 4) : pw b (i + 1) j = pw b i j := by
  unfold pw
  by_cases h1 : i ≤ 4 * j
  · rw [if_pos (show i + 1 ≤ 4 * j by omega), if_pos h1]
  · rw [if_neg (by omega), if_neg (by omega), if_neg (by omega), if_neg (by omega), if_neg h1, if_neg (by omega), if_neg (by omega), if_neg (by omega)]

theorem or32b (x : UInt32) (c : UInt8) : bits .or .u32 (vi x * 256 % 4294967296) (c.toNat : Int) = vi (UInt32.ofNat (x.toNat * 256) ||| UInt32.ofNat c.toNat) := by
  have hc := c.toNat_lt
  have e : (c.toNat : Int) = vi (UInt32.ofNat c.toNat) := by
    unfold vi; rw [UInt32.toNat_ofNat_of_lt' (by show c.toNat < 4294967296; omega)]
  have e2 : vi x * 256 % 4294967296 = vi (UInt32.ofNat (x.toNat * 256)) := by
    have := u_mul x 256; rwa [IntKind.wrap_u32'] at this
  rw [e, e2, u_or]
theorem join8 (m : Nat) (c : UInt8) (h : m < 16777216) : UInt32.ofNat (m * 256) ||| UInt32.ofNat c.toNat = UInt32.ofNat (m * 256 + c.toNat) := by
  have hc := c.toNat_lt
  apply UInt32.toNat_inj.1
  rw [UInt32.toNat_or, UInt32.toNat_ofNat_of_lt' (by show _ < 4294967296; omega), UInt32.toNat_ofNat_of_lt' (by show _ < 4294967296; omega), UInt32.toNat_ofNat_of_lt' (by show _ < 4294967296; omega)]
  exact nat_join 8 (m * 256) c.toNat (by omega) (by omega)
theorem pw_step (b : List UInt8) (i : Nat) : UInt32.ofNat ((pw b i (i / 4)).toNat * 256) ||| UInt32.ofNat (S.by8 b i).toNat = pw b (i + 1) (i / 4) := by
  have h0 := (S.by8 b (4 * (i / 4))).toNat_lt
  have h1 := (S.by8 b (4 * (i / 4) + 1)).toNat_lt
  have h2 := (S.by8 b (4 * (i / 4) + 2)).toNat_lt
  have hr : i % 4 = 0 ∨ i % 4 = 1 ∨ i % 4 = 2 ∨ i % 4 = 3 := by omega
  have hi : i = 4 * (i / 4) + i % 4 := by omega
  generalize i / 4 = j at *
  rcases hr with hr | hr | hr | hr <;> rw [hr] at hi <;> subst hi
  · have e1 : pw b (4 * j + 0) j = 0 := by unfold pw; rw [if_pos (by omega)]
    have e2 : pw b (4 * j + 0 + 1) j = UInt32.ofNat (S.by8 b (4 * j)).toNat := by unfold pw; rw [if_neg (by omega), if_pos (by omega)]
    rw [e1, e2, show (UInt32.ofNat ((0 : UInt32).toNat * 256)) = UInt32.ofNat (0 * 256) by rfl, join8 _ _ (by omega)]; simp
  · have e1 : pw b (4 * j + 1) j = UInt32.ofNat (S.by8 b (4 * j)).toNat := by unfold pw; rw [if_neg (by omega), if_pos (by omega)]
    have e2 : pw b (4 * j + 1 + 1) j = UInt32.ofNat ((S.by8 b (4 * j)).toNat * 256 + (S.by8 b (4 * j + 1)).toNat) := by unfold pw; rw [if_neg (by omega), if_neg (by omega), if_pos (by omega)]
    rw [e1, e2, UInt32.toNat_ofNat_of_lt' (by show _ < 4294967296; omega), join8 _ _ (by omega)]
  · have e1 : pw b (4 * j + 2) j = UInt32.ofNat ((S.by8 b (4 * j)).toNat * 256 + (S.by8 b (4 * j + 1)).toNat) := by unfold pw; rw [if_neg (by omega), if_neg (by omega), if_pos (by omega)]
    have e2 : pw b (4 * j + 2 + 1) j = UInt32.ofNat (((S.by8 b (4 * j)).toNat * 256 + (S.by8 b (4 * j + 1)).toNat) * 256 + (S.by8 b (4 * j + 2)).toNat) := by unfold pw; rw [if_neg (by omega), if_neg (by omega), if_neg (by omega), if_pos (by omega)]
    rw [e1, e2, UInt32.toNat_ofNat_of_lt' (by show _ < 4294967296; omega), join8 _ _ (by omega)]
  · have e1 : pw b (4 * j + 3) j = UInt32.ofNat (((S.by8 b (4 * j)).toNat * 256 + (S.by8 b (4 * j + 1)).toNat) * 256 + (S.by8 b (4 * j + 2)).toNat) := by unfold pw; rw [if_neg (by omega), if_neg (by omega), if_neg (by omega), if_pos (by omega)]
    have e2 : pw b (4 * j + 3 + 1) j = S.w16 b j := by unfold pw; rw [if_neg (by omega), if_neg (by omega), if_neg (by omega), if_neg (by omega)]
    rw [e1, e2, UInt32.toNat_ofNat_of_lt' (by show _ < 4294967296; omega), join8 _ _ (by omega)]
    rfl

theorem info47 : (Tryz.prog.info? 158).map (·.size) = some 64 := by kernel_rfl
theorem info51 : (Tryz.prog.info? 116).map (·.size) = some 64 := by kernel_rfl
def zero64 : Array Value := (List.replicate 64 (Value.int .u32 0)).toArray
theorem zero47 (W : World) : (zeroValue 158).run Tryz.prog W = .ok (.agg zero64) W := by kernel_rfl
theorem zero64_size : zero64.size = 64 := by simp [zero64]
theorem zero64_at (j : Nat) (h : j < 64) : zero64[j]? = some (vw 0) := by
  unfold zero64
  rw [List.getElem?_toArray, List.getElem?_replicate, if_pos h]; rfl
theorem und47 : Tryz.prog.underlying 158 = some (.array 64 113) := by kernel_rfl
theorem und51 : Tryz.prog.underlying 116 = some (.array 64 5) := by kernel_rfl
attribute [local go_sem ↓] zero47
theorem index51 (BA : Array Value) (k : Nat) (v : Value) (hk : k < 64) (h : BA[k]? = some v) (W : World) : (Instr.index 116 (.agg BA) (.int .i64 k)).run Tryz.prog W = .ok v W := by
  simp [Instr.index, run_underlying und51, asIntOf, go_sem, hk, h, Tryz.sizeOf5]

set_option maxHeartbeats 1600000 in
theorem spread (b : List UInt8) (BA : Array Value) (hsz : BA.size = 64) (hBA : Hid (∀ k, k < 64 → BA[k]? = some (vb (S.by8 b k)))) (w : World) :
    Calls Tryz.prog 88 #[.agg BA] w fun e w' => e = .returned (.agg ((S.sched b).map vw).toArray) ∧ Below w.heap.size w w' := by
  go_enter Tryz.func88, Tryz.ntmps88
  have hr0 : (((w.alloc (.cells BA 116)).alloc (.cells zero64 158)).alloc (.cells zero64 158)).heap[w.heap.size]? = some (.cells BA 116 (0, 0)) := by
    rw [Below.heap_alloc _ _ _ (by simp; omega), Below.heap_alloc _ _ _ (by simp)]; exact heap_alloc_new _ _
  have HR : Hid ((((w.alloc (.cells BA 116)).alloc (.cells zero64 158)).alloc (.cells zero64 158)).heap[w.heap.size]? = some (.cells BA 116 (0, 0))) := hr0
  clear hr0
  go_wp2_with (refine wpList_load_row rfl 116 _ rfl _ rfl 116 BA (0, 0) _ HR.out und51 rfl (by rw [hsz]; exact info51) ?_)
  clear HR
  go_loopw [4, 5, 8] (fun u4 u5 u8 wr => ∃ (k : Nat) (C : Array Value), k ≤ 64 ∧ u8 = .int .i64 k ∧ wr = ((w.alloc (.cells BA 116)).alloc (.cells zero64 158)).alloc (.cells C 158) ∧ C.size = 64 ∧ ∀ j, j < 64 → C[j]? = some (vw (pw b k j)))
    (fun _ _ u8 _ => 64 - (intOf u8).toNat)
  case atStart => exact ⟨0, zero64, by omega, rfl, rfl, zero64_size, fun j hj => by rw [pw_zero]; exact zero64_at j hj⟩
  case round =>
    obtain ⟨k, C, hk, rfl, rfl, hC, hCj⟩ := hrel
    have HC : Hid (∀ j, j < 64 → C[j]? = some (vw (pw b k j))) := hCj
    clear hCj
    by_cases hlt : k < 64
    · have hx := index51 BA k _ hlt (hBA.out k hlt)
      have hy := HC.out (k / 4) (by omega)
      have hor := or32b (pw b k (k / 4)) (S.by8 b k)
      go_wp2_with fail
      go_roundw
      case rel =>
        have hc := (S.by8 b k).toNat_lt
        have e : ((S.by8 b k).toNat : Int) % 4294967296 = ((S.by8 b k).toNat : Int) := by omega
        rw [e, hor, pw_step]
        refine ⟨k + 1, _, by omega, by go_num, rfl, by simp [hC], fun j hj => ?_⟩
        by_cases hjk : j = k / 4
        · subst hjk; rw [Array.getElem?_setIfInBounds_self_of_lt (by omega)]
        · rw [Array.getElem?_setIfInBounds_ne (by omega), HC.out j hj, pw_other b k j hjk]
      case measure => simp [intOf]; omega
    · have HD : Hid (∀ j, j < 16 → C[j]? = some (vw ((S.ws16 b).getD j 0))) := fun j hj => by
        obtain rfl : k = 64 := by omega
        rw [HC.out j (by omega), pw_full b j hj]
        simp [S.ws16, hj]
      have hdf : decide ((k : Int) < 64) = false := by simp; omega
      clear HC hBA
      have HB : Hid (Below (w.heap.size + 1 + 1) (((w.alloc (.cells BA 116)).alloc (.cells zero64 158)).alloc (.cells C 158)) (((w.alloc (.cells BA 116)).alloc (.cells zero64 158)).alloc (.cells C 158))) := Below.refl _ _
      have HH : Hid ((((w.alloc (.cells BA 116)).alloc (.cells zero64 158)).alloc (.cells C 158)).heap[w.heap.size + 1 + 1]? = some (.cells C 158 (0, 0))) := by
        have := heap_alloc_new ((w.alloc (.cells BA 116)).alloc (.cells zero64 158)) (.cells C 158)
        rw [show ((w.alloc (.cells BA 116)).alloc (.cells zero64 158)).heap.size = w.heap.size + 1 + 1 by simp] at this
        exact this
      have H1 : Hid ((((w.alloc (.cells BA 116)).alloc (.cells zero64 158)).alloc (.cells C 158)).heap[w.heap.size + 1]? = some (.cells zero64 158 (0, 0))) := by
        show _ = _
        rw [Below.heap_alloc _ _ _ (by simp)]
        have := heap_alloc_new (w.alloc (.cells BA 116)) (.cells zero64 158)
        rw [show (w.alloc (.cells BA 116)).heap.size = w.heap.size + 1 by simp] at this
        exact this
      have HW : Hid (Below w.heap.size w (((w.alloc (.cells BA 116)).alloc (.cells zero64 158)).alloc (.cells C 158))) :=
        (((Below.refl _ w).alloc (Nat.le_refl _) _).alloc (by simp) _).alloc (by simp; omega) _
      go_wp2_with fail
      generalize hW : (((w.alloc (.cells BA 116)).alloc (.cells zero64 158)).alloc (.cells C 158)) = W2 at *
      clear hW
      go_loopw [6] (fun u6 wr => ∃ (k : Nat) (D : Array Value), k ≤ 48 ∧ u6 = .int .i64 ((k : Int) + 16) ∧ wr.heap[w.heap.size + 1 + 1]? = some (.cells D 158 (0, 0)) ∧ Below (w.heap.size + 1 + 1) W2 wr ∧ D.size = 64 ∧ ∀ j, j < 16 + k → D[j]? = some (vw ((S.ext (S.ws16 b) k).getD j 0)))
        (fun u6 _ => 64 - (intOf u6).toNat)
      case atStart => exact ⟨0, C, by omega, rfl, HH.out, HB.out, hC, HD.out⟩
      case round =>
        clear hdf hlt
        clear hk
        obtain ⟨k, D, hk, rfl, hD, hB, hDs, hDj⟩ := hrel
        clear HD HB HH
        by_cases hlt : k < 48
        · have cell : ∀ j, j < 16 + k → wr.cell? ⟨w.heap.size + 1 + 1, j, none⟩ = some (vw ((S.ext (S.ws16 b) k).getD j 0)) := fun j hj => by
            rw [cell_of_row _ _ j D _ _ hD]; exact hDj j hj
          have frz : ∀ j, wr.frozen? ⟨w.heap.size + 1 + 1, j, none⟩ = false := fun j => by
            simp [World.frozen?, hD]
          obtain ⟨l, hl⟩ : ∃ l, l = S.ext (S.ws16 b) k := ⟨_, rfl⟩
          rw [← hl] at cell
          have c14 := cell (k + 14) (by omega)
          have c9 := cell (k + 9) (by omega)
          have c1 := cell (k + 1) (by omega)
          have c0 := cell k (by omega)
          obtain ⟨v16, d16⟩ : ∃ v, D[k + 16]? = some v := ⟨D[k + 16]'(by omega), Array.getElem?_eq_getElem (by omega)⟩
          have c16 : wr.cell? ⟨w.heap.size + 1 + 1, k + 16, none⟩ = some v16 := by rw [cell_of_row _ _ _ D _ _ hD]; exact d16
          have f16 := frz (k + 16)
          have i0 : (0 : Int) ≤ (k : Int) := by omega
          have j0 : (k : Int) < 64 := by omega
          have i1 : (0 : Int) ≤ (k : Int) + 1 := by omega
          have j1 : (k : Int) + 1 < 64 := by omega
          have i9 : (0 : Int) ≤ (k : Int) + 9 := by omega
          have j9 : (k : Int) + 9 < 64 := by omega
          have i14 : (0 : Int) ≤ (k : Int) + 14 := by omega
          have j14 : (k : Int) + 14 < 64 := by omega
          have i16 : (0 : Int) ≤ (k : Int) + 16 := by omega
          have j16 : (k : Int) + 16 < 64 := by omega
          have s2 : IntKind.i64.wrap ((k : Int) + 16 - 2) = (k : Int) + 14 := by rw [wrap_i64_of (by omega) (by omega)]; omega
          have s7 : IntKind.i64.wrap ((k : Int) + 16 - 7) = (k : Int) + 9 := by rw [wrap_i64_of (by omega) (by omega)]; omega
          have s15 : IntKind.i64.wrap ((k : Int) + 16 - 15) = (k : Int) + 1 := by rw [wrap_i64_of (by omega) (by omega)]; omega
          have s0 : IntKind.i64.wrap (k : Int) = (k : Int) := wrap_i64_of (by omega) (by omega)
          have s16 : IntKind.i64.wrap ((k : Int) + 16 - 16) = (k : Int) := by rw [wrap_i64_of (by omega) (by omega)]; omega
          have t14 : ((k : Int) + 14).toNat = k + 14 := by omega
          have t9 : ((k : Int) + 9).toNat = k + 9 := by omega
          have t1 : ((k : Int) + 1).toNat = k + 1 := by omega
          have t16 : ((k : Int) + 16).toNat = k + 16 := by omega
          have ha := u_add
          have ha' := u_add'
          have HL : Hid (S.nextW l = S.ss1 (l.getD (k + 14) 0) + l.getD (k + 9) 0 + S.ss0 (l.getD (k + 1) 0) + l.getD k 0) := by
            show _ = _
            have hlen : l.length = k + 16 := by rw [hl, S.ext_length, S.ws16_length]; omega
            unfold S.nextW
            rw [hlen, show k + 16 - 2 = k + 14 by omega, show k + 16 - 7 = k + 9 by omega, show k + 16 - 15 = k + 1 by omega, show k + 16 - 16 = k by omega]
          have HD : Hid (wr.heap[w.heap.size + 1 + 1]? = some (.cells D 158 (0, 0))) := hD
          have HB : Hid (Below (w.heap.size + 1 + 1) W2 wr) := hB
          have HJ : Hid (∀ j, j < 16 + k → D[j]? = some (vw (l.getD j 0))) := by rw [hl]; exact hDj
          have Hl : Hid (l = S.ext (S.ws16 b) k) := hl
          clear cell frz hD hB hDj hl
          generalize l.getD (k + 14) 0 = x14 at *
          generalize l.getD (k + 9) 0 = x9 at *
          generalize l.getD (k + 1) 0 = x1 at *
          generalize l.getD k 0 = x0 at *
          go_wp2_with fail
          go_region_held3 (fun w' => w'.cell? ⟨w.heap.size + 1 + 1, k + 14, none⟩ = some (vw x14) ∧ w'.cell? ⟨w.heap.size + 1 + 1, k + 9, none⟩ = some (vw x9) ∧ w'.cell? ⟨w.heap.size + 1 + 1, k + 1, none⟩ = some (vw x1) ∧ w'.cell? ⟨w.heap.size + 1 + 1, k, none⟩ = some (vw x0)) (first | exact ⟨setCell_apart (by omega) c14, setCell_apart (by omega) c9, setCell_apart (by omega) c1, setCell_apart (by omega) c0⟩ | go_keep)
            (first
              | (go_at_call 99; refine (ss0 _ _).mono ?_; rintro e w' ⟨rfl, rfl⟩)
              | (go_at_call 98; refine (ss1 _ _).mono ?_; rintro e w' ⟨rfl, rfl⟩))
          clear s0 s2 s7 s15 s16 t14 t9 t1 t16 i0 i1 i9 i14 i16 j0 j1 j9 j14 j16 ha ha' c0 c1 c9 c14 c16 f16
          go_wp2_with fail
          go_roundw
          case rel =>
            refine ⟨k + 1, D.setIfInBounds (k + 16) (vw (S.ss1 x14 + x9 + S.ss0 x1 + x0)), by omega, by go_num, heap_setCell_row HD.out, (HB.out.setCell (Nat.le_refl _) _).drew, by simp [hDs], fun j hj => ?_⟩
            rw [← HL.out, Hl.out]
            have hlen : (S.ext (S.ws16 b) k).length = k + 16 := by rw [S.ext_length, S.ws16_length]; omega
            show (D.setIfInBounds (k + 16) (vw (S.nextW (S.ext (S.ws16 b) k))))[j]? = some (vw ((S.ext (S.ws16 b) k ++ [S.nextW (S.ext (S.ws16 b) k)]).getD j 0))
            by_cases hjk : j = k + 16
            · subst hjk
              rw [Array.getElem?_setIfInBounds_self_of_lt (by omega)]
              simp [List.getD, hlen]
            · rw [Array.getElem?_setIfInBounds_ne (by omega), HJ.out j (by omega), Hl.out]
              simp only [List.getD_eq_getElem?_getD]
              rw [List.getElem?_append_left (by omega)]
          case measure => simp [intOf]; omega
        · have hk48 : Hid (k = 48) := by show _ = _; omega
          have hdf : decide ((k : Int) + 16 < 64) = false := by simp; omega
          have h1 : wr.heap[w.heap.size + 1]? = some (.cells zero64 158 (0, 0)) := by rw [hB.block _ (by omega)]; exact H1.out
          have hone : D.all (·.oneCell') = true := by
            rw [Array.all_eq_true]
            intro i hi
            have e : D[i]? = some D[i] := Array.getElem?_eq_getElem hi
            rw [hDj i (by rw [hk48.out]; omega)] at e
            rw [← Option.some.inj e]; rfl
          have hfin : D = ((S.sched b).map vw).toArray := by
            apply Array.ext_getElem?
            intro i
            have hl : (S.ext (S.ws16 b) 48).length = 64 := by rw [S.ext_length, S.ws16_length]
            have e48 := hk48.out
            by_cases hi : i < 64
            · rw [hDj i (by omega), e48]
              simp [S.sched, hl, hi, List.getD_eq_getElem?_getD]
            · rw [Array.getElem?_eq_none (by omega), Array.getElem?_eq_none (by simp [S.sched, hl]; omega)]
          have HF : Hid (D = ((S.sched b).map vw).toArray) := hfin
          have HB2 : Hid (Below w.heap.size w wr) := HW.out.trans (hB.mono (by omega))
          clear hfin hDj
          go_wp2_with (first
            | refine wpList_load_row rfl 158 _ rfl _ rfl 158 D (0, 0) _ hD und47 rfl (by rw [hDs]; exact info47) ?_
            | refine wpList_store_row rfl 158 _ _ rfl _ D rfl rfl 158 zero64 h1 (by rw [hDs]; exact info47) (by rw [zero64_size, hDs]) hone ?_)
          (try simp only [Exit.inBlock, Exit.then])
          refine bodyPost_ret (results_cell_row rfl _ _ _ 158 D (0, 0) _ rfl (setRow_heap _ _ _ _ _ _ h1) und47 rfl (by rw [hDs]; exact info47)) rfl ?_
          exact ⟨by rw [HF.out], below_setRow HB2.out (by omega) _⟩
end Go.Proofs.YtlkllcnnnndllaaGreatDoor

/- What stamp's (*state).mix does: the state behind a block. -/
namespace Go.Proofs.YtlkllcnnnndllaaGreatDoor
open Go.RowKit
set_option linter.unusedVariables false

/-- all memory that there was is as it was, but for block b -/
structure Off (b : Nat) (w w' : World) : Prop where
  os : w'.os = w.os
  tape : w'.tape = w.tape
  output : w'.output = w.output
  size : w.heap.size ≤ w'.heap.size
  block : ∀ k, k < w.heap.size → k ≠ b → w'.heap[k]? = w.heap[k]?
theorem Off.refl (b : Nat) (w : World) : Off b w w := ⟨rfl, rfl, rfl, Nat.le_refl _, fun _ _ _ => rfl⟩
theorem Off.trans {b : Nat} {w w' w'' : World} (h : Off b w w') (k : Off b w' w'') : Off b w w'' :=
  ⟨k.os.trans h.os, k.tape.trans h.tape, k.output.trans h.output, Nat.le_trans h.size k.size, fun i hi hb => (k.block i (Nat.lt_of_lt_of_le hi h.size) hb).trans (h.block i hi hb)⟩
theorem Off.of_below {b : Nat} {w w' : World} (h : Below w.heap.size w w') : Off b w w' := ⟨h.os, h.tape, h.output, h.size, fun k hk _ => h.block k hk⟩
theorem Off.drew {b : Nat} {a w : World} (h : Off b a w) : Off b a w.drew := ⟨h.os, h.tape, h.output, h.size, h.block⟩
theorem Off.setCell {b : Nat} {a w : World} (h : Off b a w) (i : Nat) (v : Value) : Off b a (w.setCell ⟨b, i, none⟩ v) :=
  ⟨h.os, h.tape, h.output, by have := h.size; simp [World.setCell]; exact this, fun k hk hb => by rw [Below.heap_setCell _ _ _ _ hb]; exact h.block k hk hb⟩
theorem Off.setRow {b : Nat} {a w : World} (h : Off b a w) (cs : Array Value) : Off b a (w.setRow b cs) :=
  ⟨h.os, h.tape, h.output, by have := h.size; simp [World.setRow]; exact this, fun k hk hb => by
    rw [← h.block k hk hb]
    show (w.heap.modify b _)[k]? = _
    rw [Array.getElem?_modify, if_neg (by omega)]⟩
theorem Off.cell {b : Nat} {w w' : World} (h : Off b w w') {p : Addr} (hp : p.block < w.heap.size) (hb : p.block ≠ b) : w'.cell? p = w.cell? p := World.cell?_of_block (w := w) (h.block p.block hp hb)
theorem Off.below {b B : Nat} {w w' : World} (h : Off b w w') (h1 : B ≤ b) (h2 : B ≤ w.heap.size) : Below B w w' :=
  ⟨h.os, h.tape, h.output, h.size, fun k hk => h.block k (by omega) (by omega)⟩

/-- the program's words k lie in their variable -/
def KW (w : World) : Prop := ∀ t, t < 64 → w.cell? ⟨1, t, none⟩ = some (vw (S.kw t))
theorem KW.off {b : Nat} {w w' : World} (h : KW w) (o : Off b w w') (h1 : 1 < w.heap.size) (hb : b ≠ 1) : KW w' := fun t ht => by
  rw [o.cell (p := ⟨1, t, none⟩) h1 (by exact fun e => hb e.symm)]; exact h t ht

theorem u_not (x : UInt32) : bits BinOp.xor IntKind.u32 (if IntKind.u32.signed = true then -1 else IntKind.u32.max) (vi x) = vi (~~~x) := by
  have e : (if IntKind.u32.signed = true then (-1 : Int) else IntKind.u32.max) = vi 0xffffffff := by decide
  rw [e, u_xor]
  congr 1

theorem drewN_eq (w : World) (n : Nat) : (w.drewN n).heap = w.heap ∧ (w.drewN n).os = w.os ∧ (w.drewN n).tape = w.tape ∧ (w.drewN n).output = w.output := ⟨rfl, rfl, rfl, rfl⟩
theorem below_drewN {B : Nat} {a w : World} (h : Below B a w) (n : Nat) : Below B a (w.drewN n) := ⟨h.os, h.tape, h.output, h.size, h.block⟩

attribute [local go_sem ↓] zero47
theorem sched_size (blk : List UInt8) : ((S.sched blk).map vw).toArray.size = 64 := by simp [S.sched, S.ext_length, S.ws16_length]
theorem sched_one (blk : List UInt8) : (((S.sched blk).map vw).toArray).all (·.oneCell') = true :=
  all_oneCell_toArray (fun v hv => by obtain ⟨x, _, rfl⟩ := List.mem_map.1 hv; rfl)
theorem sched_at (blk : List UInt8) (t : Nat) (h : t < 64) : ((S.sched blk).map vw).toArray[t]? = some (vw ((S.sched blk).getD t 0)) := by
  have hl : (S.sched blk).length = 64 := by simp [S.sched, S.ext_length, S.ws16_length]
  rw [List.getElem?_toArray, List.getElem?_map, List.getElem?_eq_getElem (by omega)]
  simp [List.getD_eq_getElem?_getD, hl, h]

theorem und46 : Tryz.prog.underlying 114 = some (.array 8 113) := by kernel_rfl
theorem index46 (BA : Array Value) (k : Nat) (v : Value) (hk : k < 8) (h : BA[k]? = some v) (W : World) : (Instr.index 114 (.agg BA) (.int .i64 k)).run Tryz.prog W = .ok v W := by
  simp [Instr.index, run_underlying und46, asIntOf, go_sem, hk, h, Tryz.sizeOf113]

/-- a value that holds the eight words of a state, in order -/
def AtSt (C : Array Value) (s : S.St) : Prop := ∀ i, i < 8 → C[i]? = some (vw (s.toL.getD i 0))

set_option maxRecDepth 4000 in
set_option maxHeartbeats 4000000 in
theorem mix (s : S.St) (blk : List UInt8) (BA : Array Value) (hsz : BA.size = 64) (hBA : Hid (∀ k, k < 64 → BA[k]? = some (vb (S.by8 blk k)))) (b : Nat) (T : TypeId) (C : Array Value) (w : World)
    (hC : Hid (w.heap[b]? = some (.cells C T (0, 0)))) (hS : Hid (AtSt C s)) (hK : Hid (KW w)) (hb : 2 ≤ b) (hsC : 8 ≤ C.size) :
    Calls Tryz.prog 73 #[.pointer (some ⟨b, 0, none⟩), .agg BA] w fun e w' => e = .returned (.tuple #[]) ∧
      (∃ D, w'.heap[b]? = some (.cells D T (0, 0)) ∧ D.size = C.size ∧ AtSt D (S.mix s blk) ∧ ∀ i, 8 ≤ i → D[i]? = C[i]?) ∧ Off b w w' := by
  have hbw : b < w.heap.size := by
    rcases Nat.lt_or_ge b w.heap.size with h | h
    · exact h
    · have := hC.out; rw [Array.getElem?_eq_none h] at this; simp at this
  obtain ⟨WA, hWA⟩ : ∃ WA, WA = ((S.sched blk).map vw).toArray := ⟨_, rfl⟩
  have hWs : WA.size = 64 := by rw [hWA]; exact sched_size blk
  have hW1 : Hid (WA.all (·.oneCell') = true) := by show _ = _; rw [hWA]; exact sched_one blk
  have hWt : Hid (∀ t, t < 64 → WA[t]? = some (vw ((S.sched blk).getD t 0))) := by rw [hWA]; exact sched_at blk
  have CS : Hid (∀ W, Calls Tryz.prog 88 #[.agg BA] W fun e w' => e = .returned (.agg WA) ∧ Below W.heap.size W w') := by rw [hWA]; exact spread blk BA hsz hBA
  clear hWA hBA
  have hr0 : Hid ((w.alloc (.cells BA 116)).heap[w.heap.size]? = some (.cells BA 116 (0, 0))) := heap_alloc_new _ _
  go_enter Tryz.func73, Tryz.ntmps73
  go_wp2_with (first
    | (go_at_call 88; refine (CS.out _).mono ?_; clear hr0; rintro e w1 ⟨rfl, HB1⟩)
    | refine wpList_load_row rfl 116 _ rfl _ rfl 116 BA (0, 0) _ hr0.out und51 rfl (by rw [hsz]; exact info51) ?_
    | refine wpList_store_row rfl 158 _ _ rfl _ WA rfl rfl 158 zero64 (heap_alloc_new _ _) (by rw [hWs]; exact info47) (by rw [zero64_size, hWs]) hW1.out ?_)
  have hb0 : b < (w.alloc (.cells BA 116)).heap.size := by simp; omega
  have hO1 : Off b w w1 := (Off.of_below ((Below.refl _ w).alloc (Nat.le_refl _) _)).trans (Off.of_below HB1)
  have hn1 := hO1.size
  have hC1 : w1.heap[b]? = some (.cells C T (0, 0)) := by rw [HB1.block b hb0, Below.heap_alloc _ _ _ hbw]; exact hC.out
  rw [World.setRow_alloc_new]
  have hO2 : Off b w (w1.alloc (.cells WA 158)) := hO1.trans (Off.of_below ((Below.refl _ w1).alloc (Nat.le_refl _) _))
  have hC2 : (w1.alloc (.cells WA 158)).heap[b]? = some (.cells C T (0, 0)) := by rw [Below.heap_alloc _ _ _ (by omega)]; exact hC1
  have hW2 : (w1.alloc (.cells WA 158)).heap[w1.heap.size]? = some (.cells WA 158 (0, 0)) := heap_alloc_new _ _
  have hz2 : w1.heap.size < (w1.alloc (.cells WA 158)).heap.size := by simp
  generalize (w1.alloc (.cells WA 158)) = W1 at *
  have hn1b : b < w1.heap.size := by omega
  generalize w1.heap.size = n1 at *
  clear hC1 hO1 HB1 hb0 hC hn1
  have cst : ∀ i, i < 8 → W1.cell? ⟨b, i, none⟩ = some (vw (s.toL.getD i 0)) := fun i hi => by rw [cell_of_row _ _ i C _ _ hC2]; exact hS.out i hi
  have k0 : W1.cell? ⟨b, 0, none⟩ = some (vw s.a) := cst 0 (by decide)
  have k1 : W1.cell? ⟨b, 1, none⟩ = some (vw s.b) := cst 1 (by decide)
  have k2 : W1.cell? ⟨b, 2, none⟩ = some (vw s.c) := cst 2 (by decide)
  have k3 : W1.cell? ⟨b, 3, none⟩ = some (vw s.d) := cst 3 (by decide)
  have k4 : W1.cell? ⟨b, 4, none⟩ = some (vw s.e) := cst 4 (by decide)
  have k5 : W1.cell? ⟨b, 5, none⟩ = some (vw s.f) := cst 5 (by decide)
  have k6 : W1.cell? ⟨b, 6, none⟩ = some (vw s.g) := cst 6 (by decide)
  have k7 : W1.cell? ⟨b, 7, none⟩ = some (vw s.h) := cst 7 (by decide)
  have HK1 : Hid (KW W1) := hK.out.off hO2 (by omega) (by omega)
  have HWC : Hid (∀ t, t < 64 → W1.cell? ⟨n1, t, none⟩ = some (vw ((S.sched blk).getD t 0))) := fun t ht => by rw [cell_of_row _ _ t WA _ _ hW2]; exact hWt.out t ht
  have HC2 : Hid (W1.heap[b]? = some (.cells C T (0, 0))) := hC2
  have HO2 : Hid (Off b w W1) := hO2
  clear cst hC2 hW2 hO2 hK hWt hW1 w1
  go_quiet (fail)
  clear k0 k1 k2 k3 k4 k5 k6 k7
  go_wp2_with fail
  go_loopw [5, 6, 7, 8, 9, 10, 11, 12, 13, 14, 15, 52] (fun u5 u6 u7 u8 u9 u10 u11 u12 u13 u14 u15 u52 wr => ∃ t : Nat, t ≤ 64 ∧ u52 = .int .i64 t ∧ Below W1.heap.size W1 wr ∧
      u5 = vw (S.rnds (S.sched blk) s t).a ∧ u6 = vw (S.rnds (S.sched blk) s t).b ∧ u7 = vw (S.rnds (S.sched blk) s t).c ∧ u8 = vw (S.rnds (S.sched blk) s t).d ∧
      u9 = vw (S.rnds (S.sched blk) s t).e ∧ u10 = vw (S.rnds (S.sched blk) s t).f ∧ u11 = vw (S.rnds (S.sched blk) s t).g ∧ u12 = vw (S.rnds (S.sched blk) s t).h)
    (fun _ _ _ _ _ _ _ _ _ _ _ u52 _ => 64 - (intOf u52).toNat)
  case atStart => exact ⟨0, by omega, rfl, below_drewN (Below.refl _ _) _, rfl, rfl, rfl, rfl, rfl, rfl, rfl, rfl⟩
  case round =>
    obtain ⟨t, ht, rfl, hB, rfl, rfl, rfl, rfl, rfl, rfl, rfl, rfl⟩ := hrel
    have HB : Hid (Below W1.heap.size W1 wr) := hB
    clear hB
    by_cases hlt : t < 64
    · have cK : wr.cell? ⟨1, t, none⟩ = some (vw (S.kw t)) := by rw [HB.out.cell (p := ⟨1, t, none⟩) (show 1 < W1.heap.size by omega)]; exact HK1.out t hlt
      have cW : wr.cell? ⟨n1, t, none⟩ = some (vw ((S.sched blk).getD t 0)) := by rw [HB.out.cell (p := ⟨n1, t, none⟩) hz2]; exact HWC.out t hlt
      have i0 : (0 : Int) ≤ (t : Int) := by omega
      have j0 : (t : Int) < 64 := by omega
      have HE : Hid (S.rnds (S.sched blk) s (t + 1) = S.round (S.rnds (S.sched blk) s t) (S.kw t) ((S.sched blk).getD t 0)) := rfl
      generalize S.rnds (S.sched blk) s t = r at *
      generalize (S.sched blk).getD t 0 = wt at *
      generalize S.kw t = kt at *
      have ha := u_add
      have ha' := u_add'
      have hx := u_xor
      have hn := u_and
      have hN := u_not
      go_wp2_with fail
      go_quiet ((go_at_call 89; exact Calls.quiet_of_same (bs1 _ _)))
      go_wp2_with (go_at_call 90; refine (bs0 _ _).mono ?_; rintro e w' ⟨rfl, rfl⟩)
      go_roundw
      case rel =>
        refine ⟨t + 1, by omega, by go_num, below_drewN HB.out _, ?_⟩
        rw [HE.out]
        exact ⟨rfl, rfl, rfl, rfl, rfl, rfl, rfl, rfl⟩
      case measure => simp [intOf]; omega
    · have h64 : Hid (t = 64) := by show _ = _; omega
      have hdf : decide ((t : Int) < 64) = false := by simp; omega
      obtain ⟨r, hr⟩ : ∃ r, r = S.rnds (S.sched blk) s t := ⟨_, rfl⟩
      rw [← hr]
      have HR : Hid (r = S.rnds (S.sched blk) s t) := hr
      clear hr
      go_wp2_with fail
      generalize hRA : (#[vw r.a, vw r.b, vw r.c, vw r.d, vw r.e, vw r.f, vw r.g, vw r.h] : Array Value) = RA
      have HRA : Hid (∀ k, k < 8 → RA[k]? = some (vw (r.toL.getD k 0))) := by
        intro k hk
        rw [← hRA]
        rcases k with _ | _ | _ | _ | _ | _ | _ | _ | k
        all_goals first | rfl | omega
      clear hRA
      have HCr : Hid (wr.heap[b]? = some (.cells C T (0, 0))) := by show _ = _; rw [HB.out.block b (by omega)]; exact HC2.out
      have HOr : Hid (Off b w wr) := HO2.out.trans (Off.of_below HB.out)
      clear HB HO2 HC2 HWC HK1
      go_loopw [16, 17, 112] (fun u16 u17 u112 wq => ∃ (k : Nat) (D : Array Value), k ≤ 8 ∧ u112 = .int .i64 k ∧ wq.heap[b]? = some (.cells D T (0, 0)) ∧ D.size = C.size ∧
          (∀ j, j < 8 → D[j]? = some (vw (if j < k then s.toL.getD j 0 + r.toL.getD j 0 else s.toL.getD j 0))) ∧ (∀ j, 8 ≤ j → D[j]? = C[j]?) ∧ Off b w wq)
        (fun _ _ u112 _ => 8 - (intOf u112).toNat)
      case atStart => exact ⟨0, C, by omega, rfl, HCr.out, rfl, fun j hj => by rw [if_neg (by omega)]; exact hS.out j hj, fun _ _ => rfl, HOr.out⟩
      case round =>
        obtain ⟨k, D, hk, rfl, hD, hDs, hDj, hD8, hO⟩ := hrel
        have HD : Hid (wr.heap[b]? = some (.cells D T (0, 0))) := hD
        have HO : Hid (Off b w wr) := hO
        have HJ : Hid (∀ j, j < 8 → D[j]? = some (vw (if j < k then s.toL.getD j 0 + r.toL.getD j 0 else s.toL.getD j 0))) := hDj
        have H8 : Hid (∀ j, 8 ≤ j → D[j]? = C[j]?) := hD8
        clear hdf hD hO hDj hD8 HCr HOr
        by_cases hlt : k < 8
        · have hx := index46 RA k _ hlt (HRA.out k hlt)
          have hc : wr.cell? ⟨b, k, none⟩ = some (vw (s.toL.getD k 0)) := by rw [cell_of_row _ _ k D _ _ HD.out, HJ.out k hlt, if_neg (by omega)]
          have hf : wr.frozen? ⟨b, k, none⟩ = false := by have := HD.out; simp [World.frozen?, this]
          have ha := u_add
          have ha' := u_add'
          have i0 : (0 : Int) ≤ (k : Int) := by omega
          have j0 : (k : Int) < 8 := by omega
          have HX : Hid (∀ x y, x = s.toL.getD k 0 → y = r.toL.getD k 0 → ∀ j, j < 8 → (D.setIfInBounds k (vw (x + y)))[j]? = some (vw (if j < k + 1 then s.toL.getD j 0 + r.toL.getD j 0 else s.toL.getD j 0))) := by
            rintro x y rfl rfl j hj
            by_cases hjk : j = k
            · subst hjk
              rw [Array.getElem?_setIfInBounds_self_of_lt (by omega), if_pos (by omega)]
            · rw [Array.getElem?_setIfInBounds_ne (by omega), HJ.out j hj]
              by_cases hjl : j < k
              · rw [if_pos hjl, if_pos (by omega)]
              · rw [if_neg hjl, if_neg (by omega)]
          have Hsx : Hid (s.toL.getD k 0 = s.toL.getD k 0 ∧ r.toL.getD k 0 = r.toL.getD k 0) := ⟨rfl, rfl⟩
          obtain ⟨x, hxe⟩ : ∃ x, x = s.toL.getD k 0 := ⟨_, rfl⟩
          obtain ⟨y, hye⟩ : ∃ y, y = r.toL.getD k 0 := ⟨_, rfl⟩
          have HX2 := HX.out x y hxe hye
          have HX3 : Hid (∀ j, j < 8 → (D.setIfInBounds k (vw (x + y)))[j]? = some (vw (if j < k + 1 then s.toL.getD j 0 + r.toL.getD j 0 else s.toL.getD j 0))) := HX2
          rw [← hxe] at hc
          rw [← hye] at hx
          clear HX HX2 hxe hye Hsx
          go_wp2_with fail
          go_region
          go_wp2_with fail
          go_roundw
          case rel => exact ⟨k + 1, D.setIfInBounds k (vw (x + y)), by omega, by go_num, heap_setCell_row HD.out, by simp [hDs], HX3.out, fun j hj => by rw [Array.getElem?_setIfInBounds_ne (by omega)]; exact H8.out j hj, (HO.out.setCell _ _).drew⟩
          case measure => simp [intOf]; omega
        · have h8 : Hid (k = 8) := by show _ = _; omega
          have hdf : decide ((k : Int) < 8) = false := by simp; omega
          go_wp2_with fail
          refine bodyPost_end (results_none rfl _ _ _) rfl ?_
          refine ⟨rfl, ⟨D, HD.out, hDs, fun i hi => ?_, H8.out⟩, HO.out⟩
          rw [HJ.out i hi, if_pos (by rw [h8.out]; exact hi), HR.out, h64.out]
          rcases i with _ | _ | _ | _ | _ | _ | _ | _ | i
          all_goals first | rfl | omega
end Go.Proofs.YtlkllcnnnndllaaGreatDoor

/- A press in memory: its block's cells; what copying a text into it, and clearing a part of it, leave. -/
namespace Go.Proofs.YtlkllcnnnndllaaGreatDoor
open Go.RowKit
set_option linter.unusedVariables false

theorem setCells_row (b : Nat) (T : TypeId) (fr : Nat × Nat) : ∀ (vs : List Value) (o : Nat) (w : World) (C : Array Value), w.heap[b]? = some (.cells C T fr) →
    ∃ D, (w.setCells b o vs).heap[b]? = some (.cells D T fr) ∧ D.size = C.size ∧ (∀ j, (j < o ∨ o + vs.length ≤ j) → D[j]? = C[j]?) ∧ (∀ j, j < vs.length → o + j < C.size → D[o + j]? = vs[j]?) ∧ Off b w (w.setCells b o vs)
  | [], o, w, C, h => ⟨C, h, rfl, fun _ _ => rfl, fun j hj => by simp at hj, Off.refl _ _⟩
  | v :: r, o, w, C, h => by
    obtain ⟨D, h1, h2, h3, h4, h5⟩ := setCells_row b T fr r (o + 1) (w.setCell ⟨b, o, none⟩ v) _ (heap_setCell_row h)
    refine ⟨D, h1, by rw [h2]; simp, fun j hj => ?_, fun j hj hC => ?_, ((Off.refl b w).setCell o v).trans h5⟩
    · simp only [List.length_cons] at hj
      rw [h3 j (by omega), Array.getElem?_setIfInBounds_ne (by omega)]
    · rcases j with _ | j
      · rw [Nat.add_zero] at hC ⊢
        rw [h3 o (by omega), Array.getElem?_setIfInBounds_self_of_lt hC]; rfl
      · simp only [List.length_cons] at hj
        rw [show o + (j + 1) = o + 1 + j by omega, h4 j (by omega) (by simp; omega)]; rfl

theorem und40 : Tryz.prog.underlying 111 = some (.slice 5) := by kernel_rfl
theorem copy_str (W : World) (ty : TypeId) (b o dLen dCap n : Nat) (s : List UInt8) (hn : Nat.min s.length dLen = n) (ht : W.there b o n) :
    (Builtin.copy_ #[111, 9] ty #[.slice (some ⟨b, o, none⟩) dLen dCap, .string (M.bs s)]).run Tryz.prog W = .ok (.int .i64 n) (W.setCells b o ((s.take n).map vb)) := by
  have hlen : ((s.take n).map vb).length = n := by
    have : n ≤ s.length := by rw [← hn]; exact Nat.min_le_left _ _
    simp; omega
  have hs := run_storeCells_cells (P := Tryz.prog) b o ((s.take n).map vb) 0 W (fun j hj => by simpa using (ht j (by omega)).1) (fun j hj => by simpa using (ht j (by omega)).2)
    (fun v hv => by obtain ⟨x, _, rfl⟩ := List.mem_map.1 hv; rfl)
  simp only [Nat.add_zero] at hs
  have hn' : Nat.min (M.bs s).size dLen = n := by rw [M.bs_size]; exact hn
  simp [Builtin.copy_, Builtin.lenOf, Builtin.firstCells, run_underlying und40, Tryz.sizeOf5, hn', goInt, go_sem]
  rw [List.map_take] at hs
  show ((Sem.run Tryz.prog (storeCells ⟨b, o, none⟩ (List.take n (List.map vb (M.bs s).data.toList))) W).andThen _) = _
  rw [M.bs_toList, hs]
  rfl

/-- a press's block: the state s, the 64 bytes rest, held and size -/
structure PC (C : Array Value) (s : S.St) (rest : List UInt8) (h n : Nat) : Prop where
  size : C.size = 74
  st : AtSt C s
  rest : ∀ i, i < 64 → C[8 + i]? = some (vb (S.by8 rest i))
  held : C[72]? = some (.int .i64 (h : Int))
  all : C[73]? = some (.int .i64 (n : Int))
end Go.Proofs.YtlkllcnnnndllaaGreatDoor

/- What a press does with a text that comes: (*Press).take. -/
namespace Go.Proofs.YtlkllcnnnndllaaGreatDoor
open Go.RowKit
set_option linter.unusedVariables false

/-- block b is a press behind the bytes m; its size says n -/
def PrN (b : Nat) (m : List UInt8) (n : Nat) (w : World) : Prop :=
  ∃ C rest, w.heap[b]? = some (.cells C 118 (0, 0)) ∧ PC C (S.stN m (m.length / 64)) rest (m.length % 64) n ∧ rest.take (m.length % 64) = m.drop (64 * (m.length / 64)) ∧ rest.length = 64
def strLen : Value → Nat
  | .string s => s.size
  | _ => 0

def splice (rest r : List UInt8) (h n : Nat) : List UInt8 := rest.take h ++ r.take n ++ rest.drop (h + n)
theorem splice_length (rest r : List UInt8) (h n : Nat) (hr : rest.length = 64) (hn : n ≤ r.length) (hh : h + n ≤ 64) : (splice rest r h n).length = 64 := by
  simp [splice, hr]; omega
theorem by8_splice (rest r : List UInt8) (h n i : Nat) (hr : rest.length = 64) (hn : n ≤ r.length) (hh : h + n ≤ 64) :
    S.by8 (splice rest r h n) i = if h ≤ i ∧ i < h + n then S.by8 r (i - h) else S.by8 rest i := by
  have l1 : (rest.take h).length = h := by simp; omega
  have l2 : (r.take n).length = n := by simp; omega
  unfold S.by8 splice
  simp only [List.getD_eq_getElem?_getD]
  by_cases h1 : i < h
  · rw [if_neg (by omega), List.append_assoc, List.getElem?_append_left (by omega), List.getElem?_take, if_pos h1]
  · by_cases h2 : i < h + n
    · rw [if_pos (by omega), List.getElem?_append_left (by rw [List.length_append]; omega), List.getElem?_append_right (by omega), l1, List.getElem?_take, if_pos (by omega)]
    · rw [if_neg (by omega), List.getElem?_append_right (by rw [List.length_append]; omega), List.length_append, l1, l2, List.getElem?_drop, show h + n + (i - (h + n)) = i by omega]

theorem PC.splice {C D : Array Value} {s : S.St} {rest r : List UInt8} {h h0 n N : Nat} (p : PC C s rest h0 N) (hr : rest.length = 64) (hn : n ≤ r.length) (hh : h + n ≤ 64)
    (hD : D.size = C.size) (ho : ∀ j, (j < 8 + h ∨ 8 + h + n ≤ j) → D[j]? = C[j]?) (hi : ∀ j, j < n → D[8 + h + j]? = some (vb (S.by8 r j))) : PC D s (splice rest r h n) h0 N := by
  refine ⟨by rw [hD, p.size], fun i hi' => by rw [ho i (by omega)]; exact p.st i hi', fun i hi' => ?_, by rw [ho 72 (by omega)]; exact p.held, by rw [ho 73 (by omega)]; exact p.all⟩
  rw [by8_splice _ _ _ _ _ hr hn hh]
  by_cases hc : h ≤ i ∧ i < h + n
  · rw [if_pos hc, show 8 + i = 8 + h + (i - h) by omega]; exact hi (i - h) (by omega)
  · rw [if_neg hc, ho (8 + i) (by omega)]; exact p.rest i hi'
theorem PC.setHeld {C : Array Value} {s : S.St} {rest : List UInt8} {h N : Nat} (p : PC C s rest h N) (h' : Nat) : PC (C.setIfInBounds 72 (.int .i64 (h' : Int))) s rest h' N := by
  have hs := p.size
  exact ⟨by simp [hs], fun i hi => by rw [Array.getElem?_setIfInBounds_ne (by omega)]; exact p.st i hi, fun i hi => by rw [Array.getElem?_setIfInBounds_ne (by omega)]; exact p.rest i hi,
    by rw [Array.getElem?_setIfInBounds_self_of_lt (by omega)], by rw [Array.getElem?_setIfInBounds_ne (by omega)]; exact p.all⟩
theorem PC.setAll {C : Array Value} {s : S.St} {rest : List UInt8} {h N : Nat} (p : PC C s rest h N) (N' : Nat) : PC (C.setIfInBounds 73 (.int .i64 (N' : Int))) s rest h N' := by
  have hs := p.size
  exact ⟨by simp [hs], fun i hi => by rw [Array.getElem?_setIfInBounds_ne (by omega)]; exact p.st i hi, fun i hi => by rw [Array.getElem?_setIfInBounds_ne (by omega)]; exact p.rest i hi,
    by rw [Array.getElem?_setIfInBounds_ne (by omega)]; exact p.held, by rw [Array.getElem?_setIfInBounds_self_of_lt (by omega)]⟩
theorem PC.setSt {C D : Array Value} {s s' : S.St} {rest : List UInt8} {h N : Nat} (p : PC C s rest h N) (hD : D.size = C.size) (hs : AtSt D s') (ho : ∀ i, 8 ≤ i → D[i]? = C[i]?) : PC D s' rest h N :=
  ⟨by rw [hD, p.size], hs, fun i hi => by rw [ho _ (by omega)]; exact p.rest i hi, by rw [ho _ (by omega)]; exact p.held, by rw [ho _ (by omega)]; exact p.all⟩

theorem feed_short (m r rest : List UInt8) (n : Nat) (hn : n ≤ r.length) (hr : rest.length = 64) (ht : rest.take (m.length % 64) = m.drop (64 * (m.length / 64))) (hh : m.length % 64 + n < 64) :
    (m ++ r.take n).length / 64 = m.length / 64 ∧ (m ++ r.take n).length % 64 = m.length % 64 + n ∧ S.stN (m ++ r.take n) (m.length / 64) = S.stN m (m.length / 64) ∧
    (splice rest r (m.length % 64) n).take (m.length % 64 + n) = (m ++ r.take n).drop (64 * (m.length / 64)) := by
  have hl : (m ++ r.take n).length = m.length + n := by simp; omega
  refine ⟨by rw [hl]; omega, by rw [hl]; omega, S.stN_append _ _ _ (by omega), ?_⟩
  have l1 : (rest.take (m.length % 64) ++ r.take n).length = m.length % 64 + n := by simp; omega
  unfold splice
  rw [List.take_append_of_le_length (by omega), List.take_of_length_le (by omega), ht, List.drop_append_of_le_length (by omega)]
theorem feed_full (m r rest : List UInt8) (n : Nat) (hn : n ≤ r.length) (hr : rest.length = 64) (ht : rest.take (m.length % 64) = m.drop (64 * (m.length / 64))) (hh : m.length % 64 + n = 64) :
    (m ++ r.take n).length / 64 = m.length / 64 + 1 ∧ (m ++ r.take n).length % 64 = 0 ∧ S.stN (m ++ r.take n) (m.length / 64 + 1) = S.mix (S.stN m (m.length / 64)) (splice rest r (m.length % 64) n) ∧
    (m ++ r.take n).drop (64 * (m.length / 64 + 1)) = [] := by
  have hl : (m ++ r.take n).length = m.length + n := by simp; omega
  refine ⟨by rw [hl]; omega, by rw [hl]; omega, ?_, List.drop_of_length_le (by rw [hl]; omega)⟩
  have l1 : (m.drop (64 * (m.length / 64)) ++ r.take n).length = 64 := by simp; omega
  simp only [S.stN]
  rw [S.stN_append _ _ _ (by omega), List.drop_append_of_le_length (by omega), List.take_of_length_le (by omega)]
  unfold splice
  have e : rest.drop 64 = [] := List.drop_of_length_le (by omega)
  rw [hh, e, List.append_nil, ht]

theorem bs_ne (r : List UInt8) (h : 0 < r.length) : (M.bs r).toList.isEmpty = false := by
  rw [Lib.toList_data, M.bs_toList]
  cases r with
  | nil => simp at h
  | cons a r => rfl
theorem bs_nil : (M.bs []).toList.isEmpty = true := by rw [Lib.toList_data, M.bs_toList]; rfl
theorem drop_bs (r : List UInt8) (n : Nat) : (M.bs r).extract n (M.bs r).size = M.bs (r.drop n) := by
  rw [Lib.extract_eq]
  simp [M.bs, ByteArray.size]
  exact List.take_of_length_le (by simp)
theorem arr_by8 (rest : List UInt8) (h : rest.length = 64) (k : Nat) (hk : k < 64) : (rest.map vb).toArray[k]? = some (vb (S.by8 rest k)) := by
  rw [List.getElem?_toArray, List.getElem?_map, List.getElem?_eq_getElem (by omega)]
  simp [S.by8, h, hk]
theorem PC.range {C : Array Value} {s : S.St} {rest : List UInt8} {h N b : Nat} {T : TypeId} {w : World} (p : PC C s rest h N) (hr : rest.length = 64) (hC : w.heap[b]? = some (.cells C T (0, 0))) : w.rangeAt b 8 (rest.map vb) := fun j v hv => by
  have hj : j < 64 := by have := (List.getElem?_eq_some_iff.1 hv).1; simpa [hr] using this
  rw [cell_of_row _ _ _ C _ _ hC, p.rest j hj, ← hv, ← List.getElem?_toArray, arr_by8 rest hr j hj]

set_option maxRecDepth 4000 in
set_option maxHeartbeats 4000000 in
theorem take (b : Nat) (m t : List UInt8) (w : World) (hP : Hid (PrN b m m.length w)) (hK : Hid (KW w)) (hb : 2 ≤ b) (hbw : b < w.heap.size) (hlen : m.length + t.length ≤ 4611686018427387904) :
    Calls Tryz.prog 58 #[.pointer (some ⟨b, 0, none⟩), .string (M.bs t)] w fun e w' => e = .returned (.tuple #[]) ∧ PrN b (m ++ t) (m.length + t.length) w' ∧ Off b w w' := by
  obtain ⟨C, rest, hC, hPC, hrest, hr64⟩ := hP.out
  have k73 : w.cell? ⟨b, 73, none⟩ = some (.int .i64 (m.length : Int)) := by rw [cell_of_row _ _ 73 C _ _ hC]; exact hPC.all
  have f73 : w.frozen? ⟨b, 73, none⟩ = false := by simp [World.frozen?, hC]
  have hbs := M.bs_size t
  have HC : Hid (w.heap[b]? = some (.cells C 118 (0, 0))) := hC
  clear hC
  go_enter Tryz.func58, Tryz.ntmps58
  go_wp2_with fail
  have HS : Hid (PrN b m (m.length + t.length) (w.setCell ⟨b, 73, none⟩ (.int .i64 ((m.length : Int) + (t.length : Int))))) := by
    refine ⟨_, rest, heap_setCell_row HC.out, ?_, hrest, hr64⟩
    have := hPC.setAll (m.length + t.length)
    rwa [show ((m.length + t.length : Nat) : Int) = (m.length : Int) + (t.length : Int) by omega] at this
  have HO : Hid (Off b w (w.setCell ⟨b, 73, none⟩ (.int .i64 ((m.length : Int) + (t.length : Int))))) := (Off.refl _ _).setCell _ _
  clear hPC hrest hr64 k73 f73 hbs HC hP
  go_loopw [1, 4] (fun u1 u4 wr => ∃ k : Nat, k ≤ t.length ∧ u1 = .string (M.bs (t.drop k)) ∧ PrN b (m ++ t.take k) (m.length + t.length) wr ∧ Off b w wr) (fun u1 _ _ => strLen u1)
  case atStart => exact ⟨0, Nat.zero_le _, rfl, by simpa using HS.out, HO.out⟩
  case round =>
    obtain ⟨k, hk, rfl, hPr, hO⟩ := hrel
    clear HS HO
    have HP : Hid (PrN b (m ++ t.take k) (m.length + t.length) wr) := hPr
    have HO : Hid (Off b w wr) := hO
    clear hPr hO
    by_cases hlt : k < t.length
    · obtain ⟨r, hr⟩ : ∃ r, r = t.drop k := ⟨_, rfl⟩
      have hrl : r.length = t.length - k := by rw [hr]; simp
      rw [← hr]
      have HR : Hid (r = t.drop k) := hr
      clear hr
      have hbs := M.bs_size r
      have hr0 : 0 < r.length := by omega
      have hr1 : r.length ≤ 4611686018427387904 := by omega
      have HRL : Hid (r.length = t.length - k) := hrl
      clear hrl
      have hne : (M.bs r).toList.isEmpty = false := bs_ne r hr0
      have hk0 := HO.out.size
      obtain ⟨C, rest, hC, hPC, hrest, hr64⟩ := HP.out
      have hml : (m ++ t.take k).length = m.length + k := by simp; omega
      obtain ⟨m', hm'⟩ : ∃ m', m' = m ++ t.take k := ⟨_, rfl⟩
      rw [← hm'] at hPC hrest hml
      have HM : Hid (m' = m ++ t.take k) := hm'
      clear hm' HP
      obtain ⟨h, hh⟩ : ∃ h, h = m'.length % 64 := ⟨_, rfl⟩
      rw [← hh] at hPC hrest
      have HH : Hid (h = m'.length % 64) := hh
      have hh64 : h < 64 := by omega
      obtain ⟨n, hn⟩ : ∃ n, n = Nat.min r.length (64 - h) := ⟨_, rfl⟩
      have HN : Hid (Nat.min r.length (64 - h) = n) := hn.symm
      have hn1 : n ≤ r.length := by rw [hn]; exact Nat.min_le_left _ _
      have hn2 : h + n ≤ 64 := by have : n ≤ 64 - h := by { rw [hn]; exact Nat.min_le_right _ _ }; omega
      have hn3 : 0 < n := by have : 0 < Nat.min r.length (64 - h) := Nat.lt_min.2 ⟨by omega, by omega⟩; omega
      have k72 : wr.cell? ⟨b, 72, none⟩ = some (.int .i64 (h : Int)) := by rw [cell_of_row _ _ 72 C _ _ hC]; exact hPC.held
      have f72 : wr.frozen? ⟨b, 72, none⟩ = false := by simp [World.frozen?, hC]
      have hth : wr.there b (8 + h) n := fun j hj => ⟨by rw [cell_of_row _ _ _ C _ _ hC, Array.getElem?_eq_getElem (by rw [hPC.size]; omega)]; rfl, by simp [World.frozen?, hC]⟩
      have hcp : ∀ ty, (Builtin.copy_ #[111, 9] ty #[.slice (some ⟨b, 8 + h, none⟩) (64 - h) (64 - h), .string (M.bs r)]).run Tryz.prog wr.drew = .ok (.int .i64 n) (wr.drew.setCells b (8 + h) ((r.map vb).take n)) :=
        fun ty => by rw [← List.map_take]; exact copy_str wr.drew ty b (8 + h) (64 - h) (64 - h) n r HN.out hth
      have HC : Hid (wr.heap[b]? = some (.cells C 118 (0, 0))) := hC
      clear hh hn hC hth
      have i0 : (0 : Int) ≤ (h : Int) := by omega
      have j0 : (h : Int) ≤ 64 := by omega
      have e0 : ((h : Int)).toNat = h := by omega
      go_wp2_with fail
      go_region
      obtain ⟨D, d1, d2, d3, d4, d5⟩ := setCells_row b 118 (0, 0) ((r.take n).map vb) (8 + h) wr.drew C HC.out
      have hln : ((r.take n).map vb).length = n := by simp; omega
      rw [hln] at d3 d4
      have hPD : PC D (S.stN m' (m'.length / 64)) (splice rest r h n) h (m.length + t.length) := hPC.splice hr64 hn1 hn2 d2 (fun j hj => d3 j (by omega)) (fun j hj => by
        rw [d4 j hj (by rw [hPC.size]; omega), List.getElem?_map, List.getElem?_take, if_pos hj, List.getElem?_eq_getElem (by omega)]
        simp [S.by8, List.getD_eq_getElem?_getD, show j < r.length by omega])
      have hOD : Off b wr (wr.drew.setCells b (8 + h) ((r.take n).map vb)) := (Off.refl b wr).drew.trans d5
      rw [List.map_take] at hOD d1
      clear d5
      generalize wr.drew.setCells b (8 + h) ((r.map vb).take n) = W2 at *
      have HO2 : Hid (Off b w W2) := HO.out.trans hOD
      clear hOD d3 d4 hcp k72 f72 HC hPC hln
      have k72 : W2.cell? ⟨b, 72, none⟩ = some (.int .i64 (h : Int)) := by rw [cell_of_row _ _ 72 D _ _ d1]; exact hPD.held
      have f72 : W2.frozen? ⟨b, 72, none⟩ = false := by simp [World.frozen?, d1]
      have HD : Hid (W2.heap[b]? = some (.cells D 118 (0, 0))) := d1
      clear d1 d2
      have hex := drop_bs r n
      rw [hbs] at hex
      have hnI : (n : Int).toNat = n := by omega
      by_cases hful : h + n = 64
      · have hq : ((h : Int) + (n : Int) == 64) = true := by simp; omega
        go_wp2_with fail
        have hP3 := hPD.setHeld (h + n)
        have hD3 : (W2.setCell ⟨b, 72, none⟩ (.int .i64 ((h : Int) + (n : Int)))).heap[b]? = some (.cells (D.setIfInBounds 72 (.int .i64 ((h + n : Nat) : Int))) 118 (0, 0)) := by
          rw [show ((h : Int) + (n : Int)) = ((h + n : Nat) : Int) by omega]; exact heap_setCell_row HD.out
        have hO3 : Off b w (W2.setCell ⟨b, 72, none⟩ (.int .i64 ((h : Int) + (n : Int)))) := HO2.out.setCell _ _
        generalize W2.setCell ⟨b, 72, none⟩ (.int .i64 ((h : Int) + (n : Int))) = W3 at *
        generalize D.setIfInBounds 72 (.int .i64 ((h + n : Nat) : Int)) = D3 at *
        have hsl := splice_length rest r h n hr64 hn1 hn2
        have hrng := hP3.range hsl hD3
        have hu := und51
        have hi : (Tryz.prog.info? 116).map (·.size) = some ((splice rest r h n).map vb).length := by rw [info51, List.length_map, hsl]
        have HP3 : Hid (PC D3 (S.stN m' (m'.length / 64)) (splice rest r h n) (h + n) (m.length + t.length)) := hP3
        have HD3 : Hid (W3.heap[b]? = some (.cells D3 118 (0, 0))) := hD3
        have HO3 : Hid (Off b w W3) := hO3
        have HA : Hid (∀ k, k < 64 → ((splice rest r h n).map vb).toArray[k]? = some (vb (S.by8 (splice rest r h n) k))) := arr_by8 _ hsl
        have HK3 : Hid (KW W3) := hK.out.off hO3 (by omega) (by omega)
        have hz3 : ((splice rest r h n).map vb).toArray.size = 64 := by simp [hsl]
        have h83 : 8 ≤ D3.size := by rw [hP3.size]; decide
        have HST : Hid (AtSt D3 (S.stN m' (m'.length / 64))) := hP3.st
        have CM : Hid (∀ W, W.heap = W3.heap → Calls Tryz.prog 73 #[.pointer (some ⟨b, 0, none⟩), .agg ((splice rest r h n).map vb).toArray] W fun e w' => e = .returned (.tuple #[]) ∧
            (∃ D4, w'.heap[b]? = some (.cells D4 118 (0, 0)) ∧ D4.size = D3.size ∧ AtSt D4 (S.mix (S.stN m' (m'.length / 64)) (splice rest r h n)) ∧ ∀ i, 8 ≤ i → D4[i]? = D3[i]?) ∧ Off b W w') := fun W hW =>
          mix _ _ _ hz3 HA b _ D3 W (by show _ = _; rw [hW]; exact HD3.out) HST (fun t ht => by rw [World.cell?_of_block (w := W3) (by rw [hW])]; exact HK3.out t ht) hb h83
        clear hP3 hD3 hO3 HD hPD k72 f72 HO2 hex hz3 h83 HA HST HK3
        obtain ⟨R, hRR⟩ : ∃ R, R = splice rest r h n := ⟨_, rfl⟩
        rw [← hRR] at hsl hrng hi HP3 CM
        have HRR : Hid (splice rest r h n = R) := hRR.symm
        clear hRR
        go_region_held3 (fun w' => w'.rangeAt b 8 (R.map vb)) (first | exact (HP3.out.setSt q2 q3 q4).range hsl q1 | go_keep_ranges)
          ((go_at_call 73; refine (CM.out _ (by rfl)).mono ?_; rintro e w4 ⟨rfl, ⟨D4, q1, q2, q3, q4⟩, q5⟩))
        have hP4 := HP3.out.setSt q2 q3 q4
        have k72 : w4.cell? ⟨b, 72, none⟩ = some (.int .i64 ((h + n : Nat) : Int)) := by rw [cell_of_row _ _ 72 D4 _ _ q1]; exact hP4.held
        have f72 : w4.frozen? ⟨b, 72, none⟩ = false := by simp [World.frozen?, q1]
        have HQ1 : Hid (w4.heap[b]? = some (.cells D4 118 (0, 0))) := q1
        have HP4 := hP4.setHeld 0
        have HP5 : Hid (PC (D4.setIfInBounds 72 (.int .i64 ((0 : Nat) : Int))) (S.mix (S.stN m' (m'.length / 64)) R) R 0 (m.length + t.length)) := HP4
        have HO4 : Hid (Off b w w4) := HO3.out.trans (Off.trans ((Off.refl _ _).drew) q5)
        clear q1 q2 q3 q4 q5 hP4 HP4 hrng hu hi
        go_wp2_with fail
        go_roundw
        case rel =>
          refine ⟨k + n, by have := HRL.out; omega, by rw [HR.out, List.drop_drop], ?_, HO4.out.setCell _ _⟩
          have hmm : m ++ t.take (k + n) = m' ++ r.take n := by rw [HM.out, HR.out, List.take_add, List.append_assoc]
          rw [hmm]
          obtain ⟨g1, g2, g3, g4⟩ := feed_full m' r rest n hn1 hr64 (by rw [← HH.out]; exact hrest) (by rw [← HH.out]; exact hful)
          refine ⟨_, R, heap_setCell_row HQ1.out, ?_, ?_, hsl⟩
          · rw [g1, g2, g3, ← HH.out, HRR.out]; exact HP5.out
          · rw [g1, g2, g4]; rfl
        case measure => simp [strLen, M.bs_size]; omega
      · have hq : ((h : Int) + (n : Int) == 64) = false := by simp; omega
        go_wp2_with fail
        go_roundw
        case rel =>
          refine ⟨k + n, by have := HRL.out; omega, by rw [HR.out, List.drop_drop], ?_, HO2.out.setCell _ _⟩
          have hmm : m ++ t.take (k + n) = m' ++ r.take n := by rw [HM.out, HR.out, List.take_add, List.append_assoc]
          rw [hmm]
          obtain ⟨g1, g2, g3, g4⟩ := feed_short m' r rest n hn1 hr64 (by rw [← HH.out]; exact hrest) (by rw [← HH.out]; omega)
          rw [← HH.out] at g2 g4
          refine ⟨_, splice rest r h n, heap_setCell_row HD.out, ?_, ?_, splice_length rest r h n hr64 hn1 hn2⟩
          · rw [g1, g2, g3]
            have := hPD.setHeld (h + n)
            rwa [show ((h + n : Nat) : Int) = (h : Int) + (n : Int) by omega] at this
          · rw [g1, g2, g4]
        case measure => simp [strLen, M.bs_size]; omega
    · have hkt : k = t.length := by omega
      have hne : (M.bs (t.drop k)).toList.isEmpty = true := by rw [hkt, List.drop_length]; exact bs_nil
      have hmm : m ++ t.take k = m ++ t := by rw [hkt, List.take_length]
      rw [hmm] at HP
      clear hmm hkt
      go_wp2_with fail
      refine bodyPost_end (results_none rfl _ _ _) rfl ?_
      exact ⟨rfl, HP.out, HO.out⟩
end Go.Proofs.YtlkllcnnnndllaaGreatDoor

/- What stamp's state.digest answers: the state's 32 bytes. -/
namespace Go.Proofs.YtlkllcnnnndllaaGreatDoor
open Go.RowKit
set_option linter.unusedVariables false

theorem und27 : Tryz.prog.underlying 39 = some (.array 32 5) := by kernel_rfl
theorem und52 : Tryz.prog.underlying 115 = some (.array 8 113) := by kernel_rfl
theorem info27 : (Tryz.prog.info? 39).map (·.size) = some 32 := by kernel_rfl
theorem info52 : (Tryz.prog.info? 115).map (·.size) = some 8 := by kernel_rfl
def zero32 : Array Value := (List.replicate 32 (Value.int .u8 0)).toArray
theorem zero27 (W : World) : (zeroValue 39).run Tryz.prog W = .ok (.agg zero32) W := by kernel_rfl
theorem zero32_size : zero32.size = 32 := by simp [zero32]
attribute [local go_sem ↓] zero27
/-- a digest as a value -/
def dg (d : List UInt8) : Array Value := (d.map vb).toArray
theorem dg_size (d : List UInt8) : (dg d).size = d.length := by simp [dg]
theorem dg_one (d : List UInt8) : (dg d).all (·.oneCell') = true := all_oneCell_toArray (fun v hv => by obtain ⟨x, _, rfl⟩ := List.mem_map.1 hv; rfl)
def dAt (s : S.St) (i : Nat) : UInt8 := UInt8.ofNat ((s.toL.getD (i / 4) 0).toNat / 2 ^ (24 - 8 * (i % 4)))
theorem shr_byte (x : UInt32) (e : Nat) : vi x / 2 ^ e % 256 = ((UInt8.ofNat (x.toNat / 2 ^ e)).toNat : Int) := by
  unfold vi
  rw [UInt8.toNat_ofNat']
  simp

set_option maxHeartbeats 1600000 in
theorem digest (s : S.St) (SA : Array Value) (hsz : SA.size = 8) (hSA : Hid (AtSt SA s)) (w : World) :
    Calls Tryz.prog 60 #[.agg SA] w fun e w' => e = .returned (.agg (dg (S.digB s))) ∧ Below w.heap.size w w' := by
  go_enter Tryz.func60, Tryz.ntmps60
  go_wp2_with fail
  go_loopw [4, 5] (fun u4 u5 wr => ∃ (k : Nat) (C : Array Value), k ≤ 32 ∧ u5 = .int .i64 k ∧ wr = ((w.alloc (.cells SA 115)).alloc (.cells zero32 39)).alloc (.cells C 39) ∧ C.size = 32 ∧ ∀ j, j < k → C[j]? = some (vb (dAt s j)))
    (fun _ u5 _ => 32 - (intOf u5).toNat)
  case atStart => exact ⟨0, zero32, by omega, rfl, rfl, zero32_size, fun j hj => by omega⟩
  case round =>
    obtain ⟨k, C, hk, rfl, rfl, hC, hCj⟩ := hrel
    have HC : Hid (∀ j, j < k → C[j]? = some (vb (dAt s j))) := hCj
    clear hCj
    by_cases hlt : k < 32
    · have hx := hSA.out (k / 4) (by omega)
      obtain ⟨v0, hv0⟩ : ∃ v, C[k]? = some v := ⟨C[k]'(by omega), Array.getElem?_eq_getElem (by omega)⟩
      have hb := shr_byte (s.toL.getD (k / 4) 0) (24 - 8 * (k % 4))
      obtain ⟨e, he⟩ : ∃ e, e = 24 - 8 * (k % 4) := ⟨_, rfl⟩
      rw [← he] at hb
      have heI : (24 : Int) - (k : Int) % 4 * 8 = (e : Int) := by omega
      have heI2 : (24 : Int) - (k : Int).tmod 4 * 8 = (e : Int) := by rw [Int.tmod_eq_emod_of_nonneg (by omega)]; omega
      have HE : Hid (e = 24 - 8 * (k % 4)) := he
      have he32 : e ≤ 32 := by omega
      clear he
      obtain ⟨x, hxe⟩ : ∃ x, x = s.toL.getD (k / 4) 0 := ⟨_, rfl⟩
      rw [← hxe] at hx hb
      have HX : Hid (x = s.toL.getD (k / 4) 0) := hxe
      clear hxe
      go_wp2_with fail
      go_roundw
      case rel =>
        have hv : (x.toNat : Int) / 2 ^ e % 256 = ((dAt s k).toNat : Int) := by
          have := shr_byte x e
          unfold vi at this
          rw [this, HE.out, HX.out]; rfl
        rw [hv]
        refine ⟨k + 1, _, by omega, by go_num, rfl, by simp [hC], fun j hj => ?_⟩
        by_cases hjk : j = k
        · subst hjk; rw [Array.getElem?_setIfInBounds_self_of_lt (by omega)]
        · rw [Array.getElem?_setIfInBounds_ne (by omega)]; exact HC.out j (by omega)
      case measure => simp [intOf]; omega
    · have hdf : decide ((k : Int) < 32) = false := by simp; omega
      have hCd : C = dg (S.digB s) := by
        apply Array.ext_getElem?
        intro i
        by_cases hi : i < 32
        · rw [HC.out i (by omega)]
          simp [dg, S.digB, hi, dAt]
        · rw [Array.getElem?_eq_none (by omega), Array.getElem?_eq_none (by rw [dg_size, S.digB_length]; omega)]
      have hone : C.all (·.oneCell') = true := by rw [hCd]; exact dg_one _
      have H1 : Hid ((((w.alloc (.cells SA 115)).alloc (.cells zero32 39)).alloc (.cells C 39)).heap[w.heap.size + 1]? = some (.cells zero32 39 (0, 0))) := by
        show _ = _
        rw [Below.heap_alloc _ _ _ (by simp)]
        have := heap_alloc_new (w.alloc (.cells SA 115)) (.cells zero32 39)
        rw [show (w.alloc (.cells SA 115)).heap.size = w.heap.size + 1 by simp] at this
        exact this
      have H2 : Hid ((((w.alloc (.cells SA 115)).alloc (.cells zero32 39)).alloc (.cells C 39)).heap[w.heap.size + 1 + 1]? = some (.cells C 39 (0, 0))) := by
        have := heap_alloc_new ((w.alloc (.cells SA 115)).alloc (.cells zero32 39)) (.cells C 39)
        rw [show ((w.alloc (.cells SA 115)).alloc (.cells zero32 39)).heap.size = w.heap.size + 1 + 1 by simp] at this
        exact this
      have HW : Hid (Below w.heap.size w (((w.alloc (.cells SA 115)).alloc (.cells zero32 39)).alloc (.cells C 39))) :=
        (((Below.refl _ w).alloc (Nat.le_refl _) _).alloc (by simp) _).alloc (by simp; omega) _
      have HF : Hid (C = dg (S.digB s)) := hCd
      clear hCd HC hSA
      generalize (((w.alloc (.cells SA 115)).alloc (.cells zero32 39)).alloc (.cells C 39)) = W2 at *
      go_wp2_with (first
        | refine wpList_load_row rfl 39 _ rfl _ rfl 39 C (0, 0) _ H2.out und27 rfl (by rw [hC]; exact info27) ?_
        | refine wpList_store_row rfl 39 _ _ rfl _ C rfl rfl 39 zero32 H1.out (by rw [hC]; exact info27) (by rw [zero32_size, hC]) hone ?_)
      (try simp only [Exit.inBlock, Exit.then])
      refine bodyPost_ret (results_cell_row rfl _ _ _ 39 C (0, 0) _ rfl (setRow_heap _ _ _ _ _ _ H1.out) und27 rfl (by rw [hC]; exact info27)) rfl ?_
      exact ⟨by rw [HF.out], below_setRow HW.out (by omega) _⟩
end Go.Proofs.YtlkllcnnnndllaaGreatDoor

/- The end of a text, as lists: the mark, the zeros, the length, and what the last one or two blocks come to. -/
namespace Go.Proofs.YtlkllcnnnndllaaGreatDoor
open Go.RowKit
set_option linter.unusedVariables false

def mark (rest : List UInt8) (h : Nat) : List UInt8 := (List.range 64).map fun j => if j < h then S.by8 rest j else if j = h then 128 else 0
def lastk (R : List UInt8) (n k : Nat) : List UInt8 := (List.range 64).map fun j => if 64 - k ≤ j then UInt8.ofNat (n / 256 ^ (63 - j)) else S.by8 R j
def zeroB : List UInt8 := List.replicate 64 0
theorem mark_length (r h) : (mark r h).length = 64 := by simp [mark]
theorem lastk_length (r n k) : (lastk r n k).length = 64 := by simp [lastk]
theorem by8_mark (r : List UInt8) (h j : Nat) (hj : j < 64) : S.by8 (mark r h) j = if j < h then S.by8 r j else if j = h then 128 else 0 := by simp [S.by8, mark, hj]
theorem by8_lastk (r : List UInt8) (n k j : Nat) (hj : j < 64) : S.by8 (lastk r n k) j = if 64 - k ≤ j then UInt8.ofNat (n / 256 ^ (63 - j)) else S.by8 r j := by simp [S.by8, lastk, hj]
theorem by8_zeroB (j : Nat) (hj : j < 64) : S.by8 zeroB j = 0 := by
  unfold S.by8 zeroB
  rw [List.getD_eq_getElem?_getD, List.getElem?_replicate, if_pos hj]; rfl
theorem ext_by8 {a b : List UInt8} (ha : a.length = 64) (hb : b.length = 64) (h : ∀ j, j < 64 → S.by8 a j = S.by8 b j) : a = b := by
  apply List.ext_getElem (by omega)
  intro i h1 h2
  have := h i (by omega)
  simpa [S.by8, List.getD_eq_getElem?_getD, List.getElem?_eq_getElem h1, List.getElem?_eq_getElem h2] using this
theorem by8_be8 (n j : Nat) (hj : j < 8) : S.by8 (S.be8 n) j = UInt8.ofNat (n / 256 ^ (7 - j)) := by simp [S.by8, S.be8, hj]
theorem by8_pad (m : List UInt8) (i : Nat) : S.by8 (S.pad m) i = if i < m.length then S.by8 m i else if i = m.length then 128 else if i < m.length + 1 + S.zeros m.length then 0 else S.by8 (S.be8 (8 * m.length)) (i - (m.length + 1 + S.zeros m.length)) := by
  unfold S.by8 S.pad
  simp only [List.getD_eq_getElem?_getD]
  by_cases h1 : i < m.length
  · rw [if_pos h1, List.append_assoc, List.append_assoc, List.getElem?_append_left h1]
  · rw [if_neg h1]
    by_cases h2 : i = m.length
    · rw [if_pos h2, List.append_assoc, List.append_assoc, List.getElem?_append_right (by omega), h2]; simp
    · rw [if_neg h2]
      by_cases h3 : i < m.length + 1 + S.zeros m.length
      · rw [if_pos h3, List.getElem?_append_left (by simp; omega), List.getElem?_append_right (by simp; omega), List.getElem?_replicate, if_pos (by simp; omega)]; rfl
      · rw [if_neg h3, List.getElem?_append_right (by simp; omega)]
        congr 2
        simp; omega
theorem by8_cut (m : List UInt8) (q j : Nat) (hj : j < 64) : S.by8 ((m.drop (64 * q)).take 64) j = S.by8 m (64 * q + j) := by
  simp [S.by8, hj, List.getElem?_drop]
theorem by8_of_take {rest m : List UInt8} {h q j : Nat} (ht : rest.take h = m.drop (64 * q)) (hj : j < h) : S.by8 rest j = S.by8 m (64 * q + j) := by
  have : (rest.take h)[j]? = (m.drop (64 * q))[j]? := by rw [ht]
  rw [List.getElem?_take, if_pos hj, List.getElem?_drop] at this
  simp [S.by8, this]
theorem cut_length (m : List UInt8) (q : Nat) (h : 64 * q + 64 ≤ m.length) : ((m.drop (64 * q)).take 64).length = 64 := by simp; omega

theorem stN_succ (m : List UInt8) (n : Nat) : S.stN m (n + 1) = S.mix (S.stN m n) ((m.drop (64 * n)).take 64) := rfl
/-- one block is enough -/
theorem last_one (m rest : List UInt8) (ht : rest.take (m.length % 64) = m.drop (64 * (m.length / 64))) (hh : m.length % 64 < 56) :
    S.mix (S.stN m (m.length / 64)) (lastk (mark rest (m.length % 64)) (8 * m.length) 8) = S.stN (S.pad m) ((S.pad m).length / 64) := by
  have hz : S.zeros m.length = 55 - m.length % 64 := by unfold S.zeros; omega
  have hl : (S.pad m).length = 64 * (m.length / 64) + 64 := by rw [S.pad_length, hz]; omega
  rw [hl, show (64 * (m.length / 64) + 64) / 64 = m.length / 64 + 1 by omega]
  rw [stN_succ]
  have e1 : S.stN (S.pad m) (m.length / 64) = S.stN m (m.length / 64) := by
    unfold S.pad; rw [List.append_assoc, List.append_assoc]; exact S.stN_append _ _ _ (by omega)
  rw [e1]
  refine congrArg (S.mix _) ?_
  refine ext_by8 (lastk_length _ _ _) (cut_length _ _ (by omega)) fun j hj => ?_
  rw [by8_cut _ _ _ hj, by8_pad, hz]
  by_cases h1 : 64 - 8 ≤ j
  · rw [by8_lastk _ _ _ _ hj, if_pos h1, if_neg (by omega), if_neg (by omega), if_neg (by omega), by8_be8 _ _ (by omega)]
    congr 3; omega
  · rw [by8_lastk _ _ _ _ hj, if_neg h1, by8_mark _ _ _ hj]
    by_cases h2 : j < m.length % 64
    · rw [if_pos h2, if_pos (by omega)]; exact by8_of_take ht h2
    · rw [if_neg h2, if_neg (show ¬ (64 * (m.length / 64) + j < m.length) by omega)]
      by_cases h3 : j = m.length % 64
      · rw [if_pos h3, if_pos (by omega)]
      · rw [if_neg h3, if_neg (show ¬ (64 * (m.length / 64) + j = m.length) by omega), if_pos (by omega)]
/-- two blocks are needed -/
theorem last_two (m rest : List UInt8) (ht : rest.take (m.length % 64) = m.drop (64 * (m.length / 64))) (hh : 56 ≤ m.length % 64) :
    S.mix (S.mix (S.stN m (m.length / 64)) (mark rest (m.length % 64))) (lastk zeroB (8 * m.length) 8) = S.stN (S.pad m) ((S.pad m).length / 64) := by
  have hz : S.zeros m.length = 119 - m.length % 64 := by unfold S.zeros; omega
  have hl : (S.pad m).length = 64 * (m.length / 64 + 1) + 64 := by rw [S.pad_length, hz]; omega
  rw [hl, show (64 * (m.length / 64 + 1) + 64) / 64 = m.length / 64 + 1 + 1 by omega]
  rw [stN_succ, stN_succ]
  have e1 : S.stN (S.pad m) (m.length / 64) = S.stN m (m.length / 64) := by
    unfold S.pad; rw [List.append_assoc, List.append_assoc]; exact S.stN_append _ _ _ (by omega)
  rw [e1]
  refine congr (congrArg S.mix (congrArg (S.mix _) ?_)) ?_
  · refine ext_by8 (mark_length _ _) (cut_length _ _ (by omega)) fun j hj => ?_
    rw [by8_cut _ _ _ hj, by8_pad, hz, by8_mark _ _ _ hj]
    by_cases h2 : j < m.length % 64
    · rw [if_pos h2, if_pos (by omega)]; exact by8_of_take ht h2
    · rw [if_neg h2, if_neg (show ¬ (64 * (m.length / 64) + j < m.length) by omega)]
      by_cases h3 : j = m.length % 64
      · rw [if_pos h3, if_pos (by omega)]
      · rw [if_neg h3, if_neg (show ¬ (64 * (m.length / 64) + j = m.length) by omega), if_pos (by omega)]
  · refine ext_by8 (lastk_length _ _ _) (cut_length _ _ (by omega)) fun j hj => ?_
    rw [by8_cut _ _ _ hj, by8_pad, hz]
    by_cases h1 : 64 - 8 ≤ j
    · rw [by8_lastk _ _ _ _ hj, if_pos h1, if_neg (by omega), if_neg (by omega), if_neg (by omega), by8_be8 _ _ (by omega)]
      congr 3; omega
    · rw [by8_lastk _ _ _ _ hj, if_neg h1, by8_zeroB _ hj, if_neg (by omega), if_neg (by omega), if_pos (by omega)]

theorem PC.setRest {C : Array Value} {s : S.St} {R R' : List UInt8} {h N i : Nat} (p : PC C s R h N) (hi : i < 64) (x : UInt8) (hR : ∀ j, j < 64 → S.by8 R' j = if j = i then x else S.by8 R j) :
    PC (C.setIfInBounds (8 + i) (vb x)) s R' h N := by
  have hs := p.size
  refine ⟨by simp [hs], fun j hj => by rw [Array.getElem?_setIfInBounds_ne (by omega)]; exact p.st j hj, fun j hj => ?_,
    by rw [Array.getElem?_setIfInBounds_ne (by omega)]; exact p.held, by rw [Array.getElem?_setIfInBounds_ne (by omega)]; exact p.all⟩
  rw [hR j hj]
  by_cases hji : j = i
  · subst hji; rw [if_pos rfl, Array.getElem?_setIfInBounds_self_of_lt (by omega)]
  · rw [if_neg hji, Array.getElem?_setIfInBounds_ne (by omega)]; exact p.rest j hj
theorem PC.alike {C : Array Value} {s : S.St} {R R' : List UInt8} {h N : Nat} (p : PC C s R h N) (hR : ∀ j, j < 64 → S.by8 R' j = S.by8 R j) : PC C s R' h N :=
  ⟨p.size, p.st, fun i hi => by rw [hR i hi]; exact p.rest i hi, p.held, p.all⟩
/-- a part of the 64 bytes is cleared -/
theorem PC.cleared {C D : Array Value} {s : S.St} {R R' : List UInt8} {h h0 N : Nat} (p : PC C s R h0 N) (hh : h ≤ 64) (hD : D.size = C.size)
    (ho : ∀ j, (j < 8 + h ∨ 8 + h + (64 - h) ≤ j) → D[j]? = C[j]?) (hi : ∀ j, j < 64 - h → D[8 + h + j]? = some (vb 0)) (hR : ∀ j, j < 64 → S.by8 R' j = if j < h then S.by8 R j else 0) : PC D s R' h0 N := by
  refine ⟨by rw [hD, p.size], fun i hi' => by rw [ho i (by omega)]; exact p.st i hi', fun i hi' => ?_, by rw [ho 72 (by omega)]; exact p.held, by rw [ho 73 (by omega)]; exact p.all⟩
  rw [hR i hi']
  by_cases hc : i < h
  · rw [if_pos hc, ho (8 + i) (by omega)]; exact p.rest i hi'
  · rw [if_neg hc, show 8 + i = 8 + h + (i - h) by omega]; exact hi (i - h) (by omega)
end Go.Proofs.YtlkllcnnnndllaaGreatDoor

/- What (*Press).end does: the state is that of the text with all that follows it. -/
namespace Go.Proofs.YtlkllcnnnndllaaGreatDoor
open Go.RowKit
set_option linter.unusedVariables false

theorem clear_any (W : World) (ty : TypeId) (b o n c : Nat) (ht : W.there b o n) :
    ∃ W', (Builtin.clear_ #[111] ty #[.slice (some ⟨b, o, none⟩) n c]).run Tryz.prog W = .ok (.tuple #[]) W' ∧ W' = W.setCells b o (List.replicate n (Value.int .u8 0)) := by
  rcases Nat.eq_zero_or_pos n with rfl | hn
  · refine ⟨W, ?_, rfl⟩
    simp [Builtin.clear_, run_underlying und40, go_sem]
  · exact ⟨_, Lib.run_clear_slice W _ _ ty _ und40 Tryz.zeroValue5 rfl rfl b o n c hn (fun j hj => (ht j hj).1) (fun j hj => (ht j hj).2), rfl⟩
theorem clear_run (W : World) (ty : TypeId) (b o n c : Nat) (ht : W.there b o n) :
    (Builtin.clear_ #[111] ty #[.slice (some ⟨b, o, none⟩) n c]).run Tryz.prog W = .ok (.tuple #[]) (W.setCells b o (List.replicate n (Value.int .u8 0))) := by
  obtain ⟨W', h, rfl⟩ := clear_any W ty b o n c ht
  exact h

def zs64 : List Value := List.replicate 64 (Value.int .u8 0)
theorem len_u64 (n : Nat) (h : n ≤ 576460752303423488) (k : Nat) : ((8 * n / 256 ^ k : Nat) : Int) % 256 = ((UInt8.ofNat (8 * n / 256 ^ k)).toNat : Int) := by
  rw [UInt8.toNat_ofNat']; simp

set_option maxRecDepth 4000 in
set_option maxHeartbeats 4000000 in
theorem fin (b : Nat) (m : List UInt8) (w : World) (hP : Hid (PrN b m m.length w)) (hK : Hid (KW w)) (hb : 2 ≤ b) (hbw : b < w.heap.size) (hlen : m.length ≤ 576460752303423488) :
    Calls Tryz.prog 59 #[.pointer (some ⟨b, 0, none⟩)] w fun e w' => e = .returned (.tuple #[]) ∧
      (∃ D, w'.heap[b]? = some (.cells D 118 (0, 0)) ∧ D.size = 74 ∧ AtSt D (S.stN (S.pad m) ((S.pad m).length / 64))) ∧ Off b w w' := by
  obtain ⟨C, rest, hC, hPC, hrest, hr64⟩ := hP.out
  obtain ⟨h, hh⟩ : ∃ h, h = m.length % 64 := ⟨_, rfl⟩
  rw [← hh] at hPC hrest
  have HH : Hid (h = m.length % 64) := hh
  have hh64 : h < 64 := by omega
  clear hh
  have k72 : w.cell? ⟨b, 72, none⟩ = some (.int .i64 (h : Int)) := by rw [cell_of_row _ _ 72 C _ _ hC]; exact hPC.held
  have k8h : w.cell? ⟨b, 8 + h, none⟩ = some (vb (S.by8 rest h)) := by rw [cell_of_row _ _ _ C _ _ hC]; exact hPC.rest h hh64
  have f8h : w.frozen? ⟨b, 8 + h, none⟩ = false := by simp [World.frozen?, hC]
  have HC : Hid (w.heap[b]? = some (.cells C 118 (0, 0))) := hC
  clear hC
  have i0 : (0 : Int) ≤ (h : Int) := by omega
  have j0 : (h : Int) < 64 := by omega
  have e0 : ((h : Int)).toNat = h := by omega
  go_enter Tryz.func59, Tryz.ntmps59
  go_wp2_with fail
  go_region
  have hP1 := hPC.setRest (R' := splice rest [128] h 1) hh64 128 (fun j hj => by
    rw [by8_splice _ _ _ _ _ hr64 (by simp) (by omega)]
    by_cases hj : j = h
    · subst hj; rw [if_pos (by omega), if_pos rfl]; simp [S.by8]
    · rw [if_neg (by omega), if_neg hj])
  have hD1 : ((w.setCell ⟨b, 8 + h, none⟩ (.int .u8 128)).drew).heap[b]? = some (.cells (C.setIfInBounds (8 + h) (vb 128)) 118 (0, 0)) := heap_setCell_row HC.out
  have hO1 : Off b w (w.setCell ⟨b, 8 + h, none⟩ (.int .u8 128)).drew := ((Off.refl _ _).setCell _ _).drew
  generalize (w.setCell ⟨b, 8 + h, none⟩ (.int .u8 128)).drew = W1 at *
  generalize C.setIfInBounds (8 + h) (vb 128) = C1 at *
  clear k72 k8h f8h HC hPC hP
  have k72 : W1.cell? ⟨b, 72, none⟩ = some (.int .i64 (h : Int)) := by rw [cell_of_row _ _ 72 C1 _ _ hD1]; exact hP1.held
  have th1 : W1.there b (8 + (h + 1)) (64 - (h + 1)) := fun j hj => ⟨by rw [cell_of_row _ _ _ C1 _ _ hD1, Array.getElem?_eq_getElem (by rw [hP1.size]; omega)]; rfl, by simp [World.frozen?, hD1]⟩
  have hcl : ∀ ty, (Builtin.clear_ #[111] ty #[.slice (some (if h = 63 then ⟨b, 8, none⟩ else ⟨b, 8 + (h + 1), none⟩)) (63 - h) (63 - h)]).run Tryz.prog W1.drew = .ok (.tuple #[]) (W1.drew.setCells b (8 + (h + 1)) (List.replicate (63 - h) (Value.int .u8 0))) := fun ty => by
    by_cases h63 : h = 63
    · subst h63
      exact clear_run W1.drew ty b 8 0 0 (fun j hj => by omega)
    · rw [if_neg h63]
      exact clear_run W1.drew ty b _ _ _ (fun j hj => th1 j (by omega))
  have HD1 : Hid (W1.heap[b]? = some (.cells C1 118 (0, 0))) := hD1
  clear hD1 th1
  have e1 : ((h : Int) + 1).toNat = h + 1 := by omega
  have j1 : (h : Int) + 1 ≤ 64 := by omega
  have i1 : (0 : Int) ≤ (h : Int) + 1 := by omega
  go_wp2_with fail
  go_region
  generalize (Value.slice (some (if h = 63 then (⟨b, 8, none⟩ : Addr) else ⟨b, 8 + (h + 1), none⟩)) (63 - h) (63 - h)) = v20
  obtain ⟨C2, d1, d2, d3, d4, d5⟩ := setCells_row b 118 (0, 0) (List.replicate (63 - h) (Value.int .u8 0)) (8 + (h + 1)) W1.drew C1 HD1.out
  rw [List.length_replicate] at d3 d4
  have hP2 : PC C2 (S.stN m (m.length / 64)) (mark rest h) h m.length := hP1.cleared (h := h + 1) (by omega) d2 (fun j hj => d3 j (by omega)) (fun j hj => by
      rw [d4 j (by omega) (by rw [hP1.size]; omega), List.getElem?_replicate, if_pos (by omega)]; rfl) (fun j hj => by
      rw [by8_mark _ _ _ hj, by8_splice _ _ _ _ _ hr64 (by simp) (by omega)]
      by_cases h1 : j < h
      · rw [if_pos h1, if_pos (by omega), if_neg (by omega)]
      · rw [if_neg h1]
        by_cases h2 : j = h
        · subst h2; rw [if_pos rfl, if_pos (by omega), if_pos (by omega)]; simp [S.by8]
        · rw [if_neg h2, if_neg (by omega)])
  have hO2 : Off b w (W1.drew.setCells b (8 + (h + 1)) (List.replicate (63 - h) (Value.int .u8 0))) := hO1.drew.trans d5
  clear d5
  generalize W1.drew.setCells b (8 + (h + 1)) (List.replicate (63 - h) (Value.int .u8 0)) = W2 at *
  clear d2 d3 d4 hcl k72 HD1 hO1 hP1 e1 j1 i1
  have k72 : W2.cell? ⟨b, 72, none⟩ = some (.int .i64 (h : Int)) := by rw [cell_of_row _ _ 72 C2 _ _ d1]; exact hP2.held
  have HD2 : Hid (W2.heap[b]? = some (.cells C2 118 (0, 0))) := d1
  have HP2 : Hid (PC C2 (S.stN m (m.length / 64)) (mark rest h) h m.length) := hP2
  have HO2 : Hid (Off b w W2) := hO2
  have hml := mark_length rest h
  have hrng := hP2.range hml d1
  clear d1 hP2 hO2
  obtain ⟨R1, hR1⟩ : ∃ R1, R1 = mark rest h := ⟨_, rfl⟩
  rw [← hR1] at hrng hml HP2
  have HR1 : Hid (R1 = mark rest h) := hR1
  clear hR1
  have hi51 := info51
  have HA1 : Hid (∀ k, k < 64 → (R1.map vb).toArray[k]? = some (vb (S.by8 R1 k))) := arr_by8 _ hml
  by_cases hge : 56 ≤ h
  case' pos =>
    have hq : (56 : Int) ≤ (h : Int) := by omega
    have hu := und51
    have hi : (Tryz.prog.info? 116).map (·.size) = some (R1.map vb).length := by rw [info51, List.length_map, hml]
    have CM : Hid (∀ W, W.heap = W2.heap → Calls Tryz.prog 73 #[.pointer (some ⟨b, 0, none⟩), .agg (R1.map vb).toArray] W fun e w' => e = .returned (.tuple #[]) ∧
        (∃ D4, w'.heap[b]? = some (.cells D4 118 (0, 0)) ∧ D4.size = C2.size ∧ AtSt D4 (S.mix (S.stN m (m.length / 64)) R1) ∧ ∀ i, 8 ≤ i → D4[i]? = C2[i]?) ∧ Off b W w') := fun W hW =>
      mix _ _ _ (by simp [hml]) HA1 b _ C2 W (by show _ = _; rw [hW]; exact HD2.out) HP2.out.st (fun t ht => by rw [World.cell?_of_block (w := W2) (by rw [hW])]; exact (hK.out.off HO2.out (by omega) (by omega)) t ht) hb (by rw [HP2.out.size]; decide)
    go_wp2_with fail
    go_region_held3 (fun w' => w'.rangeAt b 8 (R1.map vb)) (first | exact (HP2.out.setSt q2 q3 q4).range hml q1 | go_keep_ranges)
      ((go_at_call 73; refine (CM.out _ (by rfl)).mono ?_; rintro e w4 ⟨rfl, ⟨D4, q1, q2, q3, q4⟩, q5⟩))
    have hP4 := HP2.out.setSt q2 q3 q4
    have th4 : w4.there b 8 64 := fun j hj => ⟨by rw [cell_of_row _ _ _ D4 _ _ q1, Array.getElem?_eq_getElem (by rw [hP4.size]; omega)]; rfl, by simp [World.frozen?, q1]⟩
    have hcl : ∀ ty, (Builtin.clear_ #[111] ty #[.slice (some ⟨b, 8, none⟩) 64 64]).run Tryz.prog w4 = .ok (.tuple #[]) (w4.setCells b 8 zs64) := fun ty => clear_run w4 ty b _ _ _ th4
    obtain ⟨C3, d1, d2, d3, d4, d5⟩ := setCells_row b 118 (0, 0) zs64 8 w4 D4 q1
    have hzl : zs64.length = 64 := List.length_replicate
    rw [hzl] at d3 d4
    have hP3 : PC C3 (S.mix (S.stN m (m.length / 64)) R1) zeroB h m.length := hP4.cleared (h := 0) (by omega) d2 (fun j hj => d3 j (by omega)) (fun j hj => by
      rw [d4 j (by omega) (by rw [hP4.size]; omega)]; unfold zs64; rw [List.getElem?_replicate, if_pos (by omega)]; rfl) (fun j hj => by rw [by8_zeroB _ hj, if_neg (by omega)])
    have HO3 : Hid (Off b w (w4.setCells b 8 zs64)) := HO2.out.trans ((Off.trans ((Off.refl _ _).drew) q5).trans d5)
    have HF : Hid (S.mix (S.mix (S.stN m (m.length / 64)) R1) (lastk zeroB (8 * m.length) 8) = S.stN (S.pad m) ((S.pad m).length / 64)) := by
      show _ = _; rw [HR1.out, HH.out]; exact last_two m rest (by rw [← HH.out]; exact hrest) (by rw [← HH.out]; exact hge)
    clear q1 q2 q3 q4 q5 hP4 th4 hu hi CM hq d2 d3 d4 d5
    have k73 : (w4.setCells b 8 zs64).cell? ⟨b, 73, none⟩ = some (.int .i64 (m.length : Int)) := by rw [cell_of_row _ _ 73 C3 _ _ d1]; exact hP3.all
    have HP3 : Hid (PC C3 (S.mix (S.stN m (m.length / 64)) R1) zeroB h m.length) := hP3
    have HD3 : Hid ((w4.setCells b 8 zs64).heap[b]? = some (.cells C3 118 (0, 0))) := d1
    clear d1 hP3
    go_wp2_with fail
    clear hrng hml HR1 HP2 HD2 HO2 HA1 k72 k73
    generalize w4.setCells b 8 zs64 = W3 at *
    generalize S.mix (S.stN m (m.length / 64)) R1 = s3 at *
    generalize zeroB = R3 at *
  case' neg =>
    have hq : ¬ (56 : Int) ≤ (h : Int) := by omega
    have HP3 := HP2
    have HD3 := HD2
    have HO3 := HO2
    have k73 : W2.cell? ⟨b, 73, none⟩ = some (.int .i64 (m.length : Int)) := by rw [cell_of_row _ _ 73 C2 _ _ HD2.out]; exact HP2.out.all
    have HF : Hid (S.mix (S.stN m (m.length / 64)) (lastk R1 (8 * m.length) 8) = S.stN (S.pad m) ((S.pad m).length / 64)) := by
      show _ = _; rw [HR1.out, HH.out]; exact last_one m rest (by rw [← HH.out]; exact hrest) (by rw [← HH.out]; omega)
    go_wp2_with fail
    clear hrng hml HR1 HP2 HD2 HO2 HA1 k72 k73
    generalize W2 = W3 at *
    generalize C2 = C3 at *
    generalize S.stN m (m.length / 64) = s3 at *
    generalize R1 = R3 at *
  all_goals
    go_loopw [2, 3] (fun u2 u3 wr => ∃ (k : Nat) (D : Array Value), k ≤ 8 ∧ u3 = .int .i64 (63 - (k : Int)) ∧ u2 = .int .u64 ((8 * m.length / 256 ^ k : Nat) : Int) ∧ wr.heap[b]? = some (.cells D 118 (0, 0)) ∧ PC D s3 (lastk R3 (8 * m.length) k) h m.length ∧ Off b w wr) (fun _ u3 _ => (intOf u3).toNat)
    case atStart =>
      refine ⟨0, C3, by omega, rfl, by simp; omega, HD3.out, HP3.out.alike (fun j hj => ?_), HO3.out⟩
      rw [by8_lastk _ _ _ _ hj, if_neg (by omega)]
    case round =>
      obtain ⟨k, D, hk, rfl, rfl, hD, hPD, hO⟩ := hrel
      have HD : Hid (wr.heap[b]? = some (.cells D 118 (0, 0))) := hD
      have HPD : Hid (PC D s3 (lastk R3 (8 * m.length) k) h m.length) := hPD
      have HO : Hid (Off b w wr) := hO
      clear hPD hO HD3 HP3 HO3
      by_cases hlt : k < 8
      · have k8 : wr.cell? ⟨b, 8 + (63 - k), none⟩ = some (vb (S.by8 (lastk R3 (8 * m.length) k) (63 - k))) := by rw [cell_of_row _ _ _ D _ _ HD.out]; exact HPD.out.rest _ (by omega)
        have f8 : wr.frozen? ⟨b, 8 + (63 - k), none⟩ = false := by simp [World.frozen?, hD]
        clear hD
        have c1 : (56 : Int) ≤ 63 - (k : Int) := by omega
        have c2 : (0 : Int) ≤ 63 - (k : Int) := by omega
        have c3 : 63 - (k : Int) < 64 := by omega
        have c4 : (63 - (k : Int)).toNat = 63 - k := by omega
        have HBY : Hid (((8 * m.length / 256 ^ k : Nat) : Int) % 256 = ((UInt8.ofNat (8 * m.length / 256 ^ k)).toNat : Int)) := len_u64 m.length hlen k
        have hdv : ((8 * m.length / 256 ^ k : Nat) : Int) / 256 = ((8 * m.length / 256 ^ (k + 1) : Nat) : Int) := by
          rw [Nat.pow_succ, ← Nat.div_div_eq_div_mul]; rfl
        have HDV : Hid (((8 * m.length / 256 ^ k : Nat) : Int) / 256 = ((8 * m.length / 256 ^ (k + 1) : Nat) : Int)) := hdv
        have hle : 8 * m.length / 256 ^ k ≤ 8 * m.length := Nat.div_le_self _ _
        have HX : Hid (8 * m.length / 256 ^ k = 8 * m.length / 256 ^ k) := rfl
        clear hdv
        generalize hX : 8 * m.length / 256 ^ k = X at *
        have HXX : Hid (8 * m.length / 256 ^ k = X) := hX
        have hX1 : X ≤ 4611686018427387904 := by omega
        clear hX HX hle
        go_wp2_with fail
        go_roundw
        case rel =>
          have hp := HPD.out.setRest (R' := lastk R3 (8 * m.length) (k + 1)) (i := 63 - k) (by omega) (UInt8.ofNat X) (fun j hj => by
            rw [by8_lastk _ _ _ _ hj, by8_lastk _ _ _ _ hj]
            by_cases hjk : j = 63 - k
            · rw [if_pos hjk, if_pos (by omega), hjk, show 63 - (63 - k) = k by omega, HXX.out]
            · rw [if_neg hjk]
              by_cases hjl : 64 - k ≤ j
              · rw [if_pos hjl, if_pos (by omega)]
              · rw [if_neg hjl, if_neg (by omega)])
          rw [HBY.out, HDV.out]
          exact ⟨k + 1, _, by omega, by congr 1; omega, rfl, heap_setCell_row HD.out, hp, HO.out.setCell _ _⟩
        case measure => simp [intOf]; omega
      · have h8 : k = 8 := by omega
        rw [h8] at HPD
        have c1 : decide ((56 : Int) ≤ 63 - (k : Int)) = false := by simp; omega
        have hlk := lastk_length R3 (8 * m.length) 8
        have hP3 := HPD.out
        have hrng := hP3.range hlk hD
        obtain ⟨R4, hR4⟩ : ∃ R4, R4 = lastk R3 (8 * m.length) 8 := ⟨_, rfl⟩
        rw [← hR4] at hlk hrng hP3 HF
        clear HPD hR4 hD
        have HA1 : Hid (∀ k, k < 64 → (R4.map vb).toArray[k]? = some (vb (S.by8 R4 k))) := arr_by8 _ hlk
        have hu := und51
        have hi : (Tryz.prog.info? 116).map (·.size) = some (R4.map vb).length := by rw [info51, List.length_map, hlk]
        have CM : Hid (∀ W, W.heap = wr.heap → Calls Tryz.prog 73 #[.pointer (some ⟨b, 0, none⟩), .agg (R4.map vb).toArray] W fun e w' => e = .returned (.tuple #[]) ∧
            (∃ D4, w'.heap[b]? = some (.cells D4 118 (0, 0)) ∧ D4.size = D.size ∧ AtSt D4 (S.mix s3 R4) ∧ ∀ i, 8 ≤ i → D4[i]? = D[i]?) ∧ Off b W w') := fun W hW =>
          mix _ _ _ (by simp [hlk]) HA1 b _ D W (by show _ = _; rw [hW]; exact HD.out) hP3.st (fun t ht => by rw [World.cell?_of_block (w := wr) (by rw [hW])]; exact (hK.out.off HO.out (by omega) (by omega)) t ht) hb (by rw [hP3.size]; decide)
        have HP3 : Hid (PC D s3 R4 h m.length) := hP3
        clear hP3 h8 HA1
        go_wp2_with fail
        go_region_held3 (fun w' => w'.rangeAt b 8 (R4.map vb)) (first | exact (HP3.out.setSt q2 q3 q4).range hlk q1 | go_keep_ranges)
          ((go_at_call 73; refine (CM.out _ (by rfl)).mono ?_; rintro e w4 ⟨rfl, ⟨D4, q1, q2, q3, q4⟩, q5⟩))
        go_wp2_with fail
        refine bodyPost_end (results_none rfl _ _ _) rfl ?_
        exact ⟨rfl, ⟨D4, q1, by rw [q2]; exact HP3.out.size, by rw [← HF.out]; exact q3⟩, HO.out.trans (Off.trans ((Off.refl _ _).drew) q5)⟩
end Go.Proofs.YtlkllcnnnndllaaGreatDoor
