/- What the law's 'great' answers. -/
import Derived.Test.YtahdmhenkjbimaaDoorJ1
namespace Go.Proofs.YtahdmhenkjbimaaDoor
open Go.RowKit
set_option linter.unusedVariables false
set_option linter.unusedSimpArgs false

theorem great_many (whole : List UInt8) (size : Int) (pa : Option Addr) (n pc : Nat) (a : Option Addr) (m c : Nat) (w : World) (hw : whole.length = 32) (hn : n ≤ 9223372036854775807) (hm : m ≤ 9223372036854775807) (h : 40 < n ∨ 40 < m) :
    Calls Tryd.prog 5 #[.agg (mv whole size pa n pc), .slice a m c] w fun e w' => e = .returned (.bool true) ∧ Below w.heap.size w w' := by
  have h33 := mv_33 whole size pa n pc hw
  generalize mv whole size pa n pc = C at *
  have HB : Hid (Below w.heap.size w (w.alloc (.cells C 26))) := (Below.refl _ w).alloc (Nat.le_refl _) _
  by_cases h1 : 40 < n
  · have h2 : (40 : Int) < (n : Int) := by omega
    clear h
    go_enter Tryd.func5, Tryd.ntmps5
    go_wp2_with fail
    go_ret
    exact ⟨rfl, HB.out⟩
  · have h2 : ¬ (40 : Int) < (n : Int) := by omega
    have h3 : (40 : Int) < (m : Int) := by omega
    clear h h1
    go_enter Tryd.func5, Tryd.ntmps5
    go_wp2_with fail
    go_ret
    exact ⟨rfl, HB.out⟩

theorem great_loop (whole : List UInt8) (size : Int) (pa : Option Addr) (n pc : Nat) (L : List (List UInt8)) (a : Option Addr) (c : Nat) (w : World) (hw : whole.length = 32) (hn : n ≤ 40) (hm : L.length ≤ 40) (hT : TX w a L)
    (j : Nat) (hj : j ≤ L.length) (hpre : Hid (∀ (i : Nat) (u : List UInt8), i < j → L[i]? = some u → u.length ≤ 1000)) (hlong : Hid (∀ (u : List UInt8), L[j]? = some u → 1000 < u.length ∧ u.length ≤ 9223372036854775807)) (R : Bool) (hR : Hid (R = decide (j < L.length))) :
    Calls Tryd.prog 5 #[.agg (mv whole size pa n pc), .slice a L.length c] w fun e w' => e = .returned (.bool R) ∧ Below w.heap.size w w' := by
  have h33 := mv_33 whole size pa n pc hw
  generalize mv whole size pa n pc = C at *
  have hB0 : Below w.heap.size w (w.alloc (.cells C 26)) := (Below.refl _ w).alloc (Nat.le_refl _) _
  have HB : Hid (Below w.heap.size w (w.alloc (.cells C 26))) := hB0
  have HTX : Hid (TX (w.alloc (.cells C 26)) a L) := hT.below hB0 (Nat.le_refl _)
  have h2 : ¬ (40 : Int) < (n : Int) := by omega
  have h3 : ¬ (40 : Int) < (L.length : Int) := by omega
  clear hT hB0
  go_enter Tryd.func5, Tryd.ntmps5
  go_wp2_with fail
  generalize w.alloc (.cells C 26) = W1 at *
  go_loopw [5] (fun u5 wr => ∃ k : Nat, k ≤ j ∧ u5 = .int .i64 k ∧ wr = W1) (fun u5 _ => L.length - (intOf u5).toNat)
  case atStart => exact ⟨0, Nat.zero_le _, rfl, rfl⟩
  case round =>
    obtain ⟨k, hk, rfl, rfl⟩ := hrel
    by_cases hlt : k < L.length
    · obtain ⟨t, ht⟩ : ∃ t, L[k]? = some t := ⟨L[k], List.getElem?_eq_getElem hlt⟩
      obtain ⟨sb, off, rfl, hsb, hcell⟩ := HTX.out k t ht
      have hbt := M.bs_size t
      have hkl : (k : Int) < (L.length : Int) := by omega
      by_cases hkj : k < j
      · have ht4 := hpre.out k t hkj ht
        have ht5 : ¬ (1000 : Int) < (t.length : Int) := by omega
        go_wp2_with fail
        go_roundw
        case rel => exact ⟨k + 1, by omega, by go_num, by first | rfl | trivial⟩
        case measure => simp [intOf]; omega
      · obtain rfl : k = j := by omega
        have ht4 := hlong.out t ht
        have ht5 : (1000 : Int) < (t.length : Int) := by omega
        obtain rfl : R = true := by rw [hR.out]; simp; omega
        clear hR
        go_wp2_with fail
        go_ret
        exact ⟨rfl, HB.out⟩
    · have hdf : ¬ (k : Int) < (L.length : Int) := by omega
      obtain rfl : R = false := by rw [hR.out]; simp; omega
      clear hR
      go_wp2_with fail
      go_ret
      exact ⟨rfl, HB.out⟩
end Go.Proofs.YtahdmhenkjbimaaDoor
