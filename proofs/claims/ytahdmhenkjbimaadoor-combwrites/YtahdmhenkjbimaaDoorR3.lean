/- What apiaryref01.ReadText and ReadRow answer. -/
import Derived.Test.YtahdmhenkjbimaaDoorR2
namespace Go.Proofs.YtahdmhenkjbimaaDoor
open Go.RowKit
set_option linter.unusedVariables false

set_option maxHeartbeats 400000 in
theorem frt_A (s : ByteArray) (most : Int) (w : World) (hs : s.size ≤ maxLen) (hN : M.readNum s.data.toList = none) :
    Calls Tryd.prog 44 #[.string s, .int .i64 most] w fun e w' => e = .returned (rtV none) ∧ ∃ n, w' = w.drewN n := by
  have hc := refReadNum_any s w hs
  rw [hN] at hc
  have HC : Hid (Calls Tryd.prog 31 #[.string s] w fun e w' => e = .returned (rnV none) ∧ ∃ n, w' = w.drewN n) := hc
  clear hc hN
  go_enter Tryd.func44, Tryd.ntmps44
  go_wp2_with (go_at_call 31; refine HC.out.mono ?_)
  rintro e w' ⟨rfl, nq, rfl⟩
  unfold rnV
  go_wp2
  go_ret3
  exact ⟨rfl, nq, rfl⟩

set_option maxHeartbeats 400000 in
theorem frt_B (s : ByteArray) (most n : Int) (r : List UInt8) (w : World) (hs : s.size ≤ maxLen) (hr : r.length ≤ maxLen) (hN : M.readNum s.data.toList = some (n, r))
    (hb1 : -9223372036854775808 ≤ n) (hb2 : n < 9223372036854775808) (hno : n < 0 ∨ (0 ≤ n ∧ most < n) ∨ (0 ≤ n ∧ n ≤ most ∧ (r.length : Int) < n)) :
    Calls Tryd.prog 44 #[.string s, .int .i64 most] w fun e w' => e = .returned (rtV none) ∧ ∃ n, w' = w.drewN n := by
  have hc := refReadNum_any s w hs
  rw [hN] at hc
  have HC : Hid (Calls Tryd.prog 31 #[.string s] w fun e w' => e = .returned (rnV (some (n, r))) ∧ ∃ n, w' = w.drewN n) := hc
  clear hc hN
  have hsz := M.bs_size r
  unfold maxLen at hs hr
  rcases hno with h | ⟨h, h'⟩ | ⟨h, h', h''⟩
  all_goals
    go_enter Tryd.func44, Tryd.ntmps44
    go_wp2_with (go_at_call 31; refine HC.out.mono ?_)
    rintro e w' ⟨rfl, nq, rfl⟩
    unfold rnV
    go_wp2
    go_ret3
    exact ⟨rfl, nq, rfl⟩

set_option maxHeartbeats 400000 in
theorem frt_C (s : ByteArray) (most : Int) (n : Nat) (r : List UInt8) (w : World) (hs : s.size ≤ maxLen) (hr : r.length ≤ maxLen) (hN : M.readNum s.data.toList = some ((n : Int), r))
    (h1 : (n : Int) ≤ most) (h2 : n ≤ r.length) :
    Calls Tryd.prog 44 #[.string s, .int .i64 most] w fun e w' => e = .returned (.tuple #[.string ((M.bs r).extract 0 n), .string ((M.bs r).extract n r.length), .bool true]) ∧ ∃ n, w' = w.drewN n := by
  have hc := refReadNum_any s w hs
  rw [hN] at hc
  have HC : Hid (Calls Tryd.prog 31 #[.string s] w fun e w' => e = .returned (rnV (some (n, r))) ∧ ∃ n, w' = w.drewN n) := hc
  clear hc hN
  have hsz := M.bs_size r
  unfold maxLen at hs hr
  go_enter Tryd.func44, Tryd.ntmps44
  go_wp2_with (go_at_call 31; refine HC.out.mono ?_)
  rintro e w' ⟨rfl, nq, rfl⟩
  unfold rnV
  go_wp2
  go_quiet (fail)
  go_wp2
  go_ret3
  exact ⟨rfl, _, World.drewN_drewN ..⟩

theorem refReadText_any (s : ByteArray) (most : Int) (w : World) (hs : s.size ≤ maxLen) :
    Calls Tryd.prog 44 #[.string s, .int .i64 most] w fun e w' => e = .returned (rtV (M.readText s.data.toList most)) ∧ ∃ n, w' = w.drewN n := by
  cases hN : M.readNum s.data.toList with
  | none =>
    have e : M.readText s.data.toList most = none := by unfold M.readText; rw [hN]
    rw [e]; exact frt_A s most w hs hN
  | some x =>
    obtain ⟨n, r⟩ := x
    obtain ⟨e1, hb1, hb2⟩ := M.readNum_some _ _ _ hN
    have hr : r.length ≤ maxLen := by
      have := congrArg List.length e1
      rw [List.length_append, ← Lib.size_eq] at this
      omega
    by_cases hc : n < 0 ∨ most < n ∨ (r.length : Int) < n
    · have e : M.readText s.data.toList most = none := by unfold M.readText; rw [hN]; simp only; rw [if_pos hc]
      rw [e]; exact frt_B s most n r w hs hr hN hb1 hb2 (by omega)
    · have e : M.readText s.data.toList most = some (r.take n.toNat, r.drop n.toNat) := by unfold M.readText; rw [hN]; simp only; rw [if_neg hc]
      rw [e]
      obtain ⟨k, rfl⟩ := Int.eq_ofNat_of_zero_le (show 0 ≤ n by omega)
      refine (frt_C s most k r w hs hr hN (by omega) (by omega)).mono ?_
      rintro e w' ⟨rfl, hw⟩
      refine ⟨?_, hw⟩
      rw [extract_bs, extract_bs]
      simp only [rtV, List.drop_zero, Nat.sub_zero, Int.toNat_natCast]
      rw [List.take_of_length_le (l := r.drop k) (by simp)]

theorem refReadNum_l (r : List UInt8) (w : World) (hs : r.length ≤ maxLen) :
    Calls Tryd.prog 31 #[.string (M.bs r)] w fun e w' => e = .returned (rnV (M.readNum r)) ∧ ∃ n, w' = w.drewN n := by
  have h := refReadNum_any (M.bs r) w (by rw [M.bs_size]; exact hs)
  rwa [M.bs_toList] at h
theorem refReadText_l (r : List UInt8) (most : Int) (w : World) (hs : r.length ≤ maxLen) :
    Calls Tryd.prog 44 #[.string (M.bs r), .int .i64 most] w fun e w' => e = .returned (rtV (M.readText r most)) ∧ ∃ n, w' = w.drewN n := by
  have h := refReadText_any (M.bs r) most w (by rw [M.bs_size]; exact hs)
  rwa [M.bs_toList] at h

end Go.Proofs.YtahdmhenkjbimaaDoor
