/- What the law's own 'joined' answers: the texts one behind the other, or none where there is more than is asked. -/
import Derived.Test.YtkbggcmjicaifaaDoorBlk
import Derived.Test.YtkbggcmjicaifaaDoorW9
namespace Go.Proofs.YtkbggcmjicaifaaDoor
open Go.RowKit
set_option linter.unusedVariables false

theorem cat_len (l : List (List UInt8)) (k : Nat) (h : ∀ t ∈ l, t.length ≤ 4096) : (cat l k).length ≤ 4096 * k := by
  induction k with
  | zero => simp [cat]
  | succ k ih =>
    by_cases hk : k < l.length
    · have ht : l[k]? = some l[k] := List.getElem?_eq_getElem hk
      rw [cat_succ l k _ ht, List.length_append]
      have := h _ (List.mem_of_getElem? ht)
      omega
    · have e : cat l (k + 1) = cat l k := by
        unfold cat; rw [List.take_of_length_le (by omega), List.take_of_length_le (by omega)]
      rw [e]; omega

theorem joined_many (a : Option Addr) (n cap : Nat) (w : World) (hn : n ≤ 9223372036854775807) (h : 100 < n) :
    Calls Tryd.prog 9 #[.slice a n cap] w fun e w' => e = .returned (.tuple #[.string ⟨#[]⟩, .bool false]) ∧ w' = w := by
  have h1 : (100 : Int) < (n : Int) := by omega
  go_enter Tryd.func9, Tryd.ntmps9
  go_wp2_with fail
  refine bodyPost_ret (results_tmp2 rfl _ _ _) rfl ?_
  exact ⟨rfl, rfl⟩

set_option maxHeartbeats 800000 in
theorem joined_loop (l : List (List UInt8)) (a : Option Addr) (cap : Nat) (w : World) (hv : Hid (TX w a l)) (hn : l.length ≤ 100) (j : Nat) (hj : j ≤ l.length) (hpre : Hid (∀ (i : Nat) (u : List UInt8), i < j → l[i]? = some u → u.length ≤ 4096))
    (hlong : Hid (∀ (u : List UInt8), l[j]? = some u → 4096 < u.length ∧ u.length ≤ 9223372036854775807)) (r : Value) (hr : Hid (if j = l.length then r = .tuple #[.string (M.bs l.flatten), .bool true] else r = .tuple #[.string ⟨#[]⟩, .bool false])) :
    Calls Tryd.prog 9 #[.slice a l.length cap] w fun e w' => e = .returned r ∧ w' = w := by
  have h1 : ¬ (100 : Int) < (l.length : Int) := by omega
  have hcl : ∀ k, k ≤ j → (cat l k).length ≤ 4096 * k := fun k hk => by
    have e : cat l k = cat (l.take j) k := by unfold cat; rw [List.take_take, Nat.min_eq_left hk]
    rw [e]
    refine cat_len (l.take j) k (fun t ht => ?_)
    obtain ⟨i, hi, rfl⟩ := List.getElem_of_mem ht
    have hi' : i < j := by simp at hi; omega
    refine hpre.out i _ hi' ?_
    rw [← List.getElem?_eq_getElem hi, List.getElem?_take, if_pos hi']
  have HCL : Hid (∀ k, k ≤ j → (cat l k).length ≤ 4096 * k) := hcl
  clear hcl
  go_enter Tryd.func9, Tryd.ntmps9
  go_wp2_with fail
  go_loopw [4, 5] (fun u4 u5 wr => ∃ k : Nat, k ≤ j ∧ u5 = .int .i64 k ∧ u4 = .string (M.bs (cat l k)) ∧ wr = w) (fun _ u5 _ => l.length - (intOf u5).toNat)
  case atStart => exact ⟨0, Nat.zero_le _, rfl, by rw [cat_zero]; rfl, rfl⟩
  case round =>
    obtain ⟨k, hk, rfl, rfl, rfl⟩ := hrel
    by_cases hkj : k < j
    · have hlt : k < l.length := by omega
      obtain ⟨t, ht⟩ : ∃ t, l[k]? = some t := ⟨l[k], List.getElem?_eq_getElem hlt⟩
      obtain ⟨sb, off, rfl, hsb, hcell⟩ := hv.out k t ht
      have ht4 := hpre.out k t hkj ht
      have hc4 := HCL.out k hk
      have hbt := M.bs_size t
      have hbc := M.bs_size (cat l k)
      have hap := bs_app (cat l k) t
      rw [← cat_succ l k t ht] at hap
      have ht5 : ¬ (4096 : Int) < (t.length : Int) := by omega
      have hkl : (k : Int) < (l.length : Int) := by omega
      go_wp2_with fail
      go_roundw
      case rel => exact ⟨k + 1, by omega, by go_num, by first | rfl | trivial, by first | rfl | trivial⟩
      case measure => simp [intOf]; omega
    · obtain rfl : k = j := by omega
      by_cases hjl : k = l.length
      · have hrr := hr.out
        rw [if_pos hjl] at hrr
        have hdf : decide ((k : Int) < (l.length : Int)) = false := by simp; omega
        have hnl : ¬ (k : Int) < (l.length : Int) := by omega
        have hcf : M.bs (cat l k) = M.bs l.flatten := by rw [hjl, cat_all]
        subst hrr
        clear hr hjl
        go_wp2_with fail
        refine bodyPost_ret (results_tmp2 rfl _ _ _) rfl ?_
        exact ⟨rfl, rfl⟩
      · have hrr := hr.out
        rw [if_neg hjl] at hrr
        have hlt : k < l.length := by omega
        obtain ⟨t, ht⟩ : ∃ t, l[k]? = some t := ⟨l[k], List.getElem?_eq_getElem hlt⟩
        obtain ⟨sb, off, rfl, hsb, hcell⟩ := hv.out k t ht
        have ht4 := hlong.out t ht
        have hbt := M.bs_size t
        have ht5 : (4096 : Int) < (t.length : Int) := by omega
        have hkl : (k : Int) < (l.length : Int) := by omega
        subst hrr
        clear hr
        go_wp2_with fail
        refine bodyPost_ret (results_tmp2 rfl _ _ _) rfl ?_
        exact ⟨rfl, rfl⟩
end Go.Proofs.YtkbggcmjicaifaaDoor
