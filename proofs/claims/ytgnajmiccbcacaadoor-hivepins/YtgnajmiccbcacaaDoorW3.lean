/- What sap.ReadText answers, for every text and most. -/
import Derived.Test.YtgnajmiccbcacaaDoorW2
namespace Go.Proofs.YtgnajmiccbcacaaDoor
open Go.RowKit
set_option linter.unusedVariables false

def rtV : Option (List UInt8 × List UInt8) → Value
  | none => .tuple #[.string ⟨#[]⟩, .string ⟨#[]⟩, .bool false]
  | some (t, r) => .tuple #[.string (M.bs t), .string (M.bs r), .bool true]

set_option maxHeartbeats 400000 in
theorem rt_A (s : ByteArray) (most : Int) (w : World) (hs : s.size ≤ maxLen) (hN : M.readNum s.data.toList = none) :
    Calls Tryd.prog 99 #[.string s, .int .i64 most] w fun e w' => e = .returned (rtV none) ∧ ∃ n, w' = w.drewN n := by
  have hc := readNum_any s w hs
  rw [hN] at hc
  have HC : Hid (Calls Tryd.prog 89 #[.string s] w fun e w' => e = .returned (rnV none) ∧ ∃ n, w' = w.drewN n) := hc
  clear hc hN
  go_enter Tryd.func99, Tryd.ntmps99
  go_wp2_with (go_at_call 89; refine HC.out.mono ?_)
  rintro e w' ⟨rfl, nq, rfl⟩
  unfold rnV
  go_wp2
  go_ret3
  exact ⟨rfl, nq, rfl⟩

set_option maxHeartbeats 400000 in
theorem rt_B (s : ByteArray) (most n : Int) (r : List UInt8) (w : World) (hs : s.size ≤ maxLen) (hr : r.length ≤ maxLen) (hN : M.readNum s.data.toList = some (n, r))
    (hb1 : -9223372036854775808 ≤ n) (hb2 : n < 9223372036854775808) (hno : n < 0 ∨ (0 ≤ n ∧ most < n) ∨ (0 ≤ n ∧ n ≤ most ∧ (r.length : Int) < n)) :
    Calls Tryd.prog 99 #[.string s, .int .i64 most] w fun e w' => e = .returned (rtV none) ∧ ∃ n, w' = w.drewN n := by
  have hc := readNum_any s w hs
  rw [hN] at hc
  have HC : Hid (Calls Tryd.prog 89 #[.string s] w fun e w' => e = .returned (rnV (some (n, r))) ∧ ∃ n, w' = w.drewN n) := hc
  clear hc hN
  have hsz := M.bs_size r
  unfold maxLen at hs hr
  rcases hno with h | ⟨h, h'⟩ | ⟨h, h', h''⟩
  all_goals
    go_enter Tryd.func99, Tryd.ntmps99
    go_wp2_with (go_at_call 89; refine HC.out.mono ?_)
    rintro e w' ⟨rfl, nq, rfl⟩
    unfold rnV
    go_wp2
    go_ret3
    exact ⟨rfl, nq, rfl⟩

set_option maxHeartbeats 400000 in
theorem rt_C (s : ByteArray) (most : Int) (n : Nat) (r : List UInt8) (w : World) (hs : s.size ≤ maxLen) (hr : r.length ≤ maxLen) (hN : M.readNum s.data.toList = some ((n : Int), r))
    (h1 : (n : Int) ≤ most) (h2 : n ≤ r.length) :
    Calls Tryd.prog 99 #[.string s, .int .i64 most] w fun e w' => e = .returned (.tuple #[.string ((M.bs r).extract 0 n), .string ((M.bs r).extract n r.length), .bool true]) ∧ ∃ n, w' = w.drewN n := by
  have hc := readNum_any s w hs
  rw [hN] at hc
  have HC : Hid (Calls Tryd.prog 89 #[.string s] w fun e w' => e = .returned (rnV (some (n, r))) ∧ ∃ n, w' = w.drewN n) := hc
  clear hc hN
  have hsz := M.bs_size r
  unfold maxLen at hs hr
  go_enter Tryd.func99, Tryd.ntmps99
  go_wp2_with (go_at_call 89; refine HC.out.mono ?_)
  rintro e w' ⟨rfl, nq, rfl⟩
  unfold rnV
  go_wp2
  go_quiet (fail)
  go_wp2
  go_ret3
  exact ⟨rfl, _, World.drewN_drewN ..⟩

theorem extract_bs (r : List UInt8) (a b : Nat) : (M.bs r).extract a b = M.bs ((r.drop a).take (b - a)) := by
  rw [Lib.extract_eq, M.bs_toList]; rfl

theorem readText_any (s : ByteArray) (most : Int) (w : World) (hs : s.size ≤ maxLen) :
    Calls Tryd.prog 99 #[.string s, .int .i64 most] w fun e w' => e = .returned (rtV (M.readText s.data.toList most)) ∧ ∃ n, w' = w.drewN n := by
  cases hN : M.readNum s.data.toList with
  | none =>
    have e : M.readText s.data.toList most = none := by unfold M.readText; rw [hN]
    rw [e]; exact rt_A s most w hs hN
  | some x =>
    obtain ⟨n, r⟩ := x
    obtain ⟨e1, hb1, hb2⟩ := M.readNum_some _ _ _ hN
    have hr : r.length ≤ maxLen := by
      have := congrArg List.length e1
      rw [List.length_append, ← Lib.size_eq] at this
      omega
    by_cases hc : n < 0 ∨ most < n ∨ (r.length : Int) < n
    · have e : M.readText s.data.toList most = none := by unfold M.readText; rw [hN]; simp only; rw [if_pos hc]
      rw [e]; exact rt_B s most n r w hs hr hN hb1 hb2 (by omega)
    · have e : M.readText s.data.toList most = some (r.take n.toNat, r.drop n.toNat) := by unfold M.readText; rw [hN]; simp only; rw [if_neg hc]
      rw [e]
      obtain ⟨k, rfl⟩ := Int.eq_ofNat_of_zero_le (show 0 ≤ n by omega)
      refine (rt_C s most k r w hs hr hN (by omega) (by omega)).mono ?_
      rintro e w' ⟨rfl, hw⟩
      refine ⟨?_, hw⟩
      rw [extract_bs, extract_bs]
      simp only [rtV, List.drop_zero, Nat.sub_zero, Int.toNat_natCast]
      rw [List.take_of_length_le (l := r.drop k) (by simp)]

end Go.Proofs.YtgnajmiccbcacaaDoor
