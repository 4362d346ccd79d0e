/- The walk of the law CombParts. -/
import Derived.Test.YthkdeelbbkhpdaaDoorC6
import Derived.BigQuiet
namespace Go.Proofs.YthkdeelbbkhpdaaDoor
open Go.RowKit
set_option linter.unusedVariables false

theorem bs_cat (a b : List UInt8) : M.bs a ++ M.bs b = M.bs (a ++ b) := by
  apply ByteArray.ext
  simp [M.bs]
theorem bs_nil_eq : M.bs [] = ⟨#[]⟩ := rfl

set_option maxRecDepth 8000 in
set_option maxHeartbeats 1000000 in
theorem combParts_long (s : List UInt8) (w : World) (hG : GW w) (h1 : 8192 < s.length) (h2 : s.length ≤ 9223372036854775807) :
    Calls Tryd.prog 8 #[.string (M.bs s)] w fun e w' => e = .returned (.bool true) ∧ Below w.heap.size w w' := by
  have HG : Hid (GB w w) := GB.refl hG
  have hbs := M.bs_size s
  clear hG
  go_enter Tryd.func8, Tryd.ntmps8
  go_wp2_with (first
    | (go_at_call 9; refine (awake3_g HG).mono ?_; clear HG; rintro e w1 ⟨rfl, HG⟩))
  go_ret
  exact ⟨rfl, HG.b⟩

set_option maxRecDepth 8000 in
set_option maxHeartbeats 2000000 in
theorem combParts_walk (s : List UInt8) (w : World) (hG : GW w) (hs : s.length ≤ 8192) :
    Calls Tryd.prog 8 #[.string (M.bs s)] w fun e w' => e = .returned (.bool true) ∧ Below w.heap.size w w' := by
  have HG : Hid (GB w w) := GB.refl hG
  have hbs := M.bs_size s
  have CS : Hid (∀ W, GB w W → Calls Tryd.prog 13 #[.string (M.bs s)] W fun e w' => ∃ a c, e = .returned (.slice a (S.split s).length c) ∧ TX w' a (S.split s) ∧ GB w w') := fun W h => by
    refine (Split_g s h (by omega)).mono ?_
    rintro e w' ⟨a, c, rfl, h1, h2, h3, _⟩
    exact ⟨a, c, rfl, h1, h3⟩
  have hLn : (S.split s).length ≤ 1000 := by rw [S.split_length]; unfold S.nch; omega
  have HT : Hid (∀ k t, (S.split s)[k]? = some t → 0 < t.length ∧ t.length ≤ 64 ∧ (k + 1 < (S.split s).length → t.length = 64) ∧ s.take (64 * (k + 1)) = s.take (64 * k) ++ t ∧ (s.take (64 * k)).length ≤ 8192) := fun k t ht => by
    have hk : k < S.nch s.length := by have := (List.getElem?_eq_some_iff.1 ht).1; rwa [S.split_length] at this
    rw [S.split_get s k hk] at ht
    obtain rfl := Option.some.inj ht
    have hk2 : 64 * k < s.length := by unfold S.nch at hk; omega
    rw [S.chk_length, S.split_length]
    refine ⟨by omega, by omega, fun h => by unfold S.nch at h; omega, ?_, by simp; omega⟩
    rw [show 64 * (k + 1) = 64 * k + 64 by omega, List.take_add]; rfl
  have HE : Hid (s.take (64 * (S.split s).length) = s) := by
    show _ = _
    rw [S.split_length, List.take_of_length_le (by unfold S.nch; omega)]
  clear hG
  go_enter Tryd.func8, Tryd.ntmps8
  go_wp2_with (first
    | (go_at_call 9; refine (awake3_g HG).mono ?_; clear HG; rintro e w1 ⟨rfl, HG⟩)
    | (go_at_call 13; refine (CS.out _ HG).mono ?_; clear HG CS; rintro e w2 ⟨a, c, rfl, HX, HG⟩))
  obtain ⟨L, hL⟩ : ∃ L, L = S.split s := ⟨_, rfl⟩
  rw [← hL] at hLn HT HE HX ⊢
  clear hL
  have HX2 : Hid (TX w2 a L) := HX
  have HB2 : Hid (Below w.heap.size w w2) := HG.b
  clear HX HG
  go_loopw [4, 5] (fun u4 u5 wr => ∃ (k n : Nat), k ≤ L.length ∧ u5 = .int .i64 k ∧ u4 = .string (M.bs (s.take (64 * k))) ∧ wr = w2.drewN n) (fun _ u5 _ => L.length - (intOf u5).toNat)
  case atStart => exact ⟨0, 0, Nat.zero_le _, rfl, by simp [M.bs], rfl⟩
  case round =>
    obtain ⟨k, n, hk, rfl, rfl, rfl⟩ := hrel
    by_cases hlt : k < L.length
    · obtain ⟨t, ht⟩ : ∃ t, L[k]? = some t := ⟨L[k], List.getElem?_eq_getElem hlt⟩
      obtain ⟨sb, off, rfl, hsb, hcell⟩ := HX2.out k t ht
      obtain ⟨t1, t2, t3, t4, t5⟩ := HT.out k t ht
      have hap := bs_cat (s.take (64 * k)) t
      rw [← t4] at hap
      have hk0 : (0 : Int) ≤ (k : Int) := by omega
      have hk1 : (k : Int) < (L.length : Int) := by omega
      have hne : (M.bs t).toList.isEmpty = false := bs_ne t (by omega)
      have hsz := M.bs_size t
      have hsz2 := M.bs_size (s.take (64 * k))
      have hd1 : decide ((64 : Int) < (t.length : Int)) = false := by simp; omega
      clear t4 ht HT HE
      by_cases hl : k + 1 < L.length
      · have t6 := t3 hl
        have hd2 : (k : Int) < (L.length : Int) - 1 := by omega
        have hd3 : ((t.length : Int) != 64) = false := by simp; omega
        clear t3
        go_wp2_with fail
        go_roundw
        case rel => exact ⟨k + 1, n, by omega, by go_num, rfl, rfl⟩
        case measure => simp [intOf]; omega
      · have hd2 : decide ((k : Int) < (L.length : Int) - 1) = false := by simp; omega
        clear t3
        go_wp2_with fail
        go_roundw
        case rel => exact ⟨k + 1, n, by omega, by go_num, rfl, rfl⟩
        case measure => simp [intOf]; omega
    · obtain rfl : k = L.length := by omega
      rw [HE.out]
      go_wp2_with fail
      go_ret
      exact ⟨rfl, below_drewN HB2.out _⟩
end Go.Proofs.YthkdeelbbkhpdaaDoor
