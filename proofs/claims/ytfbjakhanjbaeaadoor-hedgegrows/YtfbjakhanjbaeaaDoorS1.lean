/- What stamp's small functions on words answer: turn, smallSum0, smallSum1, bigSum0, bigSum1. -/
import Derived.Test.YtfbjakhanjbaeaaDoorProg
import Derived.Test.YtfbjakhanjbaeaaDoorSMath
import Derived.WalkKit
import Derived.WalkSpells
import Derived.WalkLawsBesides
import Derived.BigQuiet
import Derived.Deep.QuietTactic
namespace Go.Proofs.YtfbjakhanjbaeaaDoor
open Go.RowKit

/-- a word as a number (its own name, so that no rule of numbers opens it) -/
def vi (x : UInt32) : Int := (x.toNat : Int)
theorem vi_lo (x : UInt32) : 0 ≤ vi x := by unfold vi; omega
theorem vi_hi (x : UInt32) : vi x ≤ 4294967295 := by have := x.toNat_lt; unfold vi; omega
abbrev vw (x : UInt32) : Value := .int .u32 (vi x)
abbrev vb (x : UInt8) : Value := .int .u8 (x.toNat : Int)

theorem u_add (x y : UInt32) : IntKind.u32.wrap (vi x + vi y) = vi (x + y) := by
  unfold vi; rw [IntKind.wrap_u32', UInt32.toNat_add]; omega
theorem u_add' (x y : UInt32) : (vi x + vi y) % 4294967296 = vi (x + y) := by rw [← IntKind.wrap_u32']; exact u_add x y
theorem u_xor (x y : UInt32) : bits .xor .u32 (vi x) (vi y) = vi (x ^^^ y) := by
  unfold vi; rw [u32_xor_nat _ _ x.toNat_lt y.toNat_lt, UInt32.toNat_xor]
theorem u_and (x y : UInt32) : bits .and .u32 (vi x) (vi y) = vi (x &&& y) := by
  unfold vi; rw [u32_and_nat _ _ x.toNat_lt y.toNat_lt, UInt32.toNat_and]
theorem u_or (x y : UInt32) : bits .or .u32 (vi x) (vi y) = vi (x ||| y) := by
  unfold vi; rw [u32_or_nat _ _ x.toNat_lt y.toNat_lt, UInt32.toNat_or]
theorem u_shr (x : UInt32) (n : Nat) : vi x / (2 ^ n : Nat) = vi (S.shr n x) := by
  have h : x.toNat / 2 ^ n < 4294967296 := Nat.lt_of_le_of_lt (Nat.div_le_self _ _) x.toNat_lt
  unfold vi S.shr; rw [UInt32.toNat_ofNat_of_lt' h]; rfl
theorem u_mul (x : UInt32) (d : Nat) : IntKind.u32.wrap (vi x * (d : Int)) = vi (UInt32.ofNat (x.toNat * d)) := by
  unfold vi; rw [IntKind.wrap_u32', UInt32.toNat_ofNat']
  simp
theorem rot_val (n k : Nat) (x : UInt32) (h : n + k = 32) : bits .or .u32 (IntKind.u32.wrap (vi x * 2 ^ k)) (vi x / 2 ^ n) = vi (S.rotr n x) := by
  have e1 : (2 : Int) ^ k = ((2 ^ k : Nat) : Int) := by simp
  have e2 : (2 : Int) ^ n = ((2 ^ n : Nat) : Int) := by simp
  obtain rfl : k = 32 - n := by omega
  rw [e1, e2, u_mul, u_shr, u_or]; rfl

theorem mask31 (n k : Nat) (h : n + k = 32) (h1 : 1 ≤ n) (h2 : n ≤ 31) : bits .and .u64 (IntKind.u64.wrap (-(n : Int))) 31 = (k : Int) := by
  have hh : ∀ m : Fin 32, 1 ≤ m.val → bits .and .u64 (IntKind.u64.wrap (-(m.val : Int))) 31 = 32 - (m.val : Int) := by decide +kernel
  have := hh ⟨n, by omega⟩ h1
  rw [this]; simp; omega

theorem rot_val' (n k : Nat) (x : UInt32) (h : n + k = 32) : bits .or .u32 (vi x * 2 ^ k % 4294967296) (vi x / 2 ^ n) = vi (S.rotr n x) := by
  rw [← IntKind.wrap_u32']; exact rot_val n k x h

theorem rotl (x : UInt32) (n k : Nat) (h : Hid (n + k = 32)) (h1 : 1 ≤ n) (h2 : n ≤ 31) (_hk : k ≤ 31) (w : World) :
    Calls Tryd.prog 79 #[vw x, .int .i64 (-(n : Int))] w fun e w' => e = .returned (vw (S.rotr n x)) ∧ w' = w := by
  have hm := mask31 n k h h1 h2
  have hs : (32 : Int) - (k : Int) = (n : Int) := by have := h.out; omega
  have hr := rot_val' n k x h
  go_enter Tryd.func79, Tryd.ntmps79
  go_wp2_with fail
  go_ret
  exact ⟨rfl, rfl⟩
theorem turn (x : UInt32) (n : Nat) (h1 : 1 ≤ n) (h2 : n ≤ 31) (w : World) :
    Calls Tryd.prog 77 #[vw x, .int .i64 (n : Int)] w fun e w' => e = .returned (vw (S.rotr n x)) ∧ w' = w := by
  go_enter Tryd.func77, Tryd.ntmps77
  go_wp2_with (go_at_call 79; refine (rotl x n (32 - n) (show _ = _ by omega) h1 h2 (by omega) _).mono ?_; rintro e w' ⟨rfl, rfl⟩)
  go_ret
  exact ⟨rfl, rfl⟩
theorem turnZ (x : UInt32) (n : Int) (h1 : 1 ≤ n) (h2 : n ≤ 31) (w : World) :
    Calls Tryd.prog 77 #[vw x, .int .i64 n] w fun e w' => e = .returned (vw (S.rotr n.toNat x)) ∧ w' = w := by
  have := turn x n.toNat (by omega) (by omega) w
  rwa [show (n.toNat : Int) = n by omega] at this
theorem bs1 (x : UInt32) (w : World) :
    Calls Tryd.prog 72 #[vw x] w fun e w' => e = .returned (vw (S.bs1 x)) ∧ w' = w := by
  have hx := u_xor
  go_enter Tryd.func72, Tryd.ntmps72
  go_wp2_with (go_at_call 77; refine (turnZ x _ (by decide) (by decide) _).mono ?_; rintro e w' ⟨rfl, rfl⟩)
  go_ret
  exact ⟨rfl, rfl⟩
theorem bs0 (x : UInt32) (w : World) :
    Calls Tryd.prog 73 #[vw x] w fun e w' => e = .returned (vw (S.bs0 x)) ∧ w' = w := by
  have hx := u_xor
  go_enter Tryd.func73, Tryd.ntmps73
  go_wp2_with (go_at_call 77; refine (turnZ x _ (by decide) (by decide) _).mono ?_; rintro e w' ⟨rfl, rfl⟩)
  go_ret
  exact ⟨rfl, rfl⟩
theorem ss0 (x : UInt32) (w : World) :
    Calls Tryd.prog 76 #[vw x] w fun e w' => e = .returned (vw (S.ss0 x)) ∧ w' = w := by
  have hx := u_xor
  have hd : vi x / 8 = vi (S.shr 3 x) := u_shr x 3
  go_enter Tryd.func76, Tryd.ntmps76
  go_wp2_with (go_at_call 77; refine (turnZ x _ (by decide) (by decide) _).mono ?_; rintro e w' ⟨rfl, rfl⟩)
  go_ret
  exact ⟨rfl, rfl⟩
theorem ss1 (x : UInt32) (w : World) :
    Calls Tryd.prog 75 #[vw x] w fun e w' => e = .returned (vw (S.ss1 x)) ∧ w' = w := by
  have hx := u_xor
  have hd : vi x / 1024 = vi (S.shr 10 x) := u_shr x 10
  go_enter Tryd.func75, Tryd.ntmps75
  go_wp2_with (go_at_call 77; refine (turnZ x _ (by decide) (by decide) _).mono ?_; rintro e w' ⟨rfl, rfl⟩)
  go_ret
  exact ⟨rfl, rfl⟩
end Go.Proofs.YtfbjakhanjbaeaaDoor
