/- What apiaryref01.ReadRow answers. -/
import Derived.Test.YtahdmhenkjbimaaDoorR3
namespace Go.Proofs.YtahdmhenkjbimaaDoor
open Go.RowKit
set_option linter.unusedVariables false

theorem readTexts_short (k : Nat) (r : List UInt8) (h : r.length < k) : M.readTexts k r = none := by
  cases hx : M.readTexts k r with
  | none => rfl
  | some x =>
    obtain ⟨l, q⟩ := x
    obtain ⟨e1, e2⟩ := M.readTexts_some _ _ _ _ hx
    have h1 := rowB_ge l
    unfold M.rowB at h1
    have h3 : l.length ≤ (M.textsB l).length := by
      clear e1 e2 h1 hx
      induction l with
      | nil => simp
      | cons t l ih =>
        have e : M.textsB (t :: l) = M.textB t ++ M.textsB l := by simp [M.textsB]
        rw [e, List.length_append, M.textB, List.length_append, M.numB_length]
        simp only [List.length_cons]
        omega
    have h4 := congrArg List.length e1
    rw [List.length_append] at h4
    omega

set_option maxHeartbeats 1000000 in
theorem frr_loop (s r : List UInt8) (most : Int) (n : Nat) (w : World) (hs : s.length ≤ 4611686018427387904) (hroom : most ≤ 8796093022208 ∨ s.length ≤ 8796093022208) (hr : r.length ≤ s.length) (hN : M.readNum s = some ((n : Int), r)) (hb2 : (n : Int) < 9223372036854775808)
    (h1 : (n : Int) ≤ most) (h1r : n ≤ r.length) :
    Calls Tryd.prog 30 #[.string (M.bs s), .int .i64 most] w fun e w' => RR w (M.readTexts n r) e w' := by
  have hrz := M.bs_size r
  have hd1 : decide ((n : Int) < 0) = false := decide_eq_false (by omega)
  have hd2 : decide (most < (n : Int)) = false := decide_eq_false (by omega)
  have hd3 : decide ((r.length : Int) < (n : Int)) = false := decide_eq_false (by omega)
  have hd4 : decide (r.length < n) = false := decide_eq_false (by omega)
  have hc := refReadNum_l s w (by unfold maxLen; omega)
  rw [hN] at hc
  have HC : Hid (Calls Tryd.prog 31 #[.string (M.bs s)] w fun e w' => e = .returned (rnV (some (n, r))) ∧ ∃ n, w' = w.drewN n) := hc
  clear hc hN
  have HRM : Hid (most ≤ 8796093022208 ∨ s.length ≤ 8796093022208) := hroom
  clear hroom
  generalize hX : M.readTexts n r = X
  have HX : Hid (M.readTexts n r = X) := hX
  clear hX
  go_enter Tryd.func30, Tryd.ntmps30
  go_wp2_with (go_at_call 31; refine HC.out.mono ?_)
  rintro e w' ⟨rfl, nq, rfl⟩
  unfold rnV
  clear HC hb2
  go_wp2_with fail
  go_loopw [8, 10, 11] (fun u8 u10 u32 wr => ∃ (k : Nat) (ks : List (List UInt8)) (q : List UInt8), k ≤ n ∧ u32 = .int .i64 k ∧ u8 = .string (M.bs q) ∧ X = more ks (M.readTexts (n - k) q) ∧ ks.length = k ∧ k + q.length ≤ s.length ∧ wr.ownsRow w.heap.size 9 1 u10 k (ks.map encS) ∧ Below w.heap.size w wr) (fun _ _ u32 _ => n - (intOf u32).toNat)
  case atStart => exact ⟨0, [], r, Nat.zero_le _, rfl, rfl, by rw [more_nil, Nat.sub_zero]; exact HX.out.symm, rfl, by omega, ⟨rfl, Or.inr ⟨w.heap.size, 0, #[], rfl, Nat.le_refl _, by show (w.heap.push _)[w.heap.size]? = _; simp, Nat.le_refl _, by decide, rfl, rfl⟩⟩, (below_drewN (Below.refl _ _) _).alloc (Nat.le_refl _) _⟩
  case round =>
    obtain ⟨k, ks, q, hk, rfl, rfl, hX, hkl, hkq, hown, hbe⟩ := hrel
    have HX2 : Hid (X = more ks (M.readTexts (n - k) q)) := hX
    have HOW : Hid (wr.ownsRow w.heap.size 9 1 u10 k (ks.map encS)) := hown
    have HBE : Hid (Below w.heap.size w wr) := hbe
    have HKL : Hid (ks.length = k) := hkl
    have hsz := hbe.size
    clear hX hown hbe hkl HX
    by_cases hlt : k < n
    · have hbq := M.bs_size q
      have hct := refReadText_l q q.length wr (by unfold maxLen; omega)
      obtain ⟨d, hd⟩ : ∃ d, n - k = d + 1 := ⟨n - k - 1, by omega⟩
      have hX3 := HX2.out
      rw [hd] at hX3
      cases hT : M.readText q q.length with
      | none =>
        rw [hT] at hct
        rw [more_none ks d q hT] at hX3
        have HCT : Hid (Calls Tryd.prog 44 #[.string (M.bs q), .int .i64 q.length] wr fun e w' => e = .returned (rtV none) ∧ ∃ n, w' = wr.drewN n) := hct
        have HX4 : Hid (X = none) := hX3
        clear hct hX3 hd HX2 hT
        go_wp2_with (go_at_call 44; refine HCT.out.mono ?_)
        rintro e w' ⟨rfl, nq2, rfl⟩
        unfold rtV
        go_wp2_with fail
        go_ret3
        rw [HX4.out]
        exact ⟨rfl, below_drewN HBE.out _⟩
      | some x =>
        obtain ⟨t, q2⟩ := x
        rw [hT] at hct
        have hsh := readText_shorter _ _ _ _ hT
        rw [more_some ks d q t q2 hT] at hX3
        have HCT : Hid (Calls Tryd.prog 44 #[.string (M.bs q), .int .i64 q.length] wr fun e w' => e = .returned (rtV (some (t, q2))) ∧ ∃ n, w' = wr.drewN n) := hct
        have HX4 : Hid (X = more (ks ++ [t]) (M.readTexts d q2)) := hX3
        have HD : Hid (n - k = d + 1) := hd
        clear hct hX3 hd HX2 hT
        go_wp2_with (go_at_call 44; refine HCT.out.mono ?_)
        rintro e w' ⟨rfl, nq2, rfl⟩
        unfold rtV
        clear HCT
        obtain ⟨i0, hi, hz0, hz1, hz2⟩ := info_parts (show (Tryd.prog.info? 9).map (fun i => (i.zero, i.size, i.bytes)) = some (some (.string ByteArray.empty), 1, 16) by kernel_rfl)
        have HOW2 : Hid (((wr.drewN nq2).alloc (.cells #[.string (M.bs t)] 9)).ownsRow w.heap.size 9 1 u10 k (ks.map encS)) := World.ownsRow.alloc (w := wr.drewN nq2) HOW.out _
        have HBE2 : Hid (Below w.heap.size w ((wr.drewN nq2).alloc (.cells #[.string (M.bs t)] 9))) := (below_drewN HBE.out nq2).alloc hsz _
        have HLT : Hid (∀ q, u10.ownBlock = some q → w.heap.size ≤ q) := fun q hq => (HOW.out.lt q hq).1
        clear HOW HBE
        go_wp2_with (at_builtin; refine wpList_append_own _ rfl _ _ 36 rfl w.heap.size 9 i0 (.string ByteArray.empty) 1 16 Tryd.underlying36 hi hz0 hz1 hz2 rfl (by decide) _ _ _ rfl HOW2.out ⟨wr.heap.size, 0, none⟩ 1 1 [.string (M.bs t)] rfl rfl (cell_one_new _ _ _) (fun x hx => by simp at hx; subst hx; rfl) (by unfold maxLen; omega) (by have := HRM.out; omega) (by simp; omega) ?_)
        intro v' w5 hown5 hgrow5 _
        have HB5 : Hid (Below w.heap.size w w5) := HBE2.out.grown hgrow5 (by simp; omega) (fun q hq => HLT.out q hq)
        have HO5 : Hid (w5.ownsRow w.heap.size 9 1 v' (k + 1) ((ks ++ [t]).map encS)) := by
          show World.ownsRow _ _ _ _ _ _ _
          rw [List.map_append]; exact hown5
        clear hown5 hgrow5 hi hz0 hz1 hz2 HBE2 HOW2 HLT
        go_wp2_with fail
        exact ⟨⟨k + 1, ks ++ [t], q2, by omega, by go_num, rfl, by rw [show n - (k + 1) = d by have := HD.out; omega]; exact HX4.out, by rw [List.length_append, HKL.out]; rfl, by omega, HO5.out, HB5.out⟩, by simp [intOf]; omega⟩
    · obtain rfl : k = n := by omega
      go_wp2_with fail
      go_ret3
      have e := HX2.out
      rw [Nat.sub_self] at e
      have e2 : X = some (ks, q) := by rw [e]; simp [more, M.readTexts]
      rw [e2]
      refine ⟨_, rfl, ?_, HBE.out⟩
      have h := HOW.out
      rw [← HKL.out] at h
      exact strs_of_owns h

set_option maxHeartbeats 400000 in
theorem frr_A (s : List UInt8) (most : Int) (w : World) (hs : s.length ≤ maxLen) (hN : M.readNum s = none) :
    Calls Tryd.prog 30 #[.string (M.bs s), .int .i64 most] w fun e w' => RR w none e w' := by
  have hc := refReadNum_l s w hs
  rw [hN] at hc
  have HC : Hid (Calls Tryd.prog 31 #[.string (M.bs s)] w fun e w' => e = .returned (rnV none) ∧ ∃ n, w' = w.drewN n) := hc
  clear hc hN
  go_enter Tryd.func30, Tryd.ntmps30
  go_wp2_with (go_at_call 31; refine HC.out.mono ?_)
  rintro e w' ⟨rfl, nq, rfl⟩
  unfold rnV
  go_wp2_with fail
  go_ret3
  exact ⟨rfl, below_drewN (Below.refl _ _) _⟩

set_option maxHeartbeats 400000 in
theorem frr_B (s r : List UInt8) (most n : Int) (w : World) (hs : s.length ≤ maxLen) (hN : M.readNum s = some (n, r)) (hr : r.length ≤ s.length) (hno : n < 0 ∨ (0 ≤ n ∧ most < n) ∨ (0 ≤ n ∧ n ≤ most ∧ (r.length : Int) < n)) :
    Calls Tryd.prog 30 #[.string (M.bs s), .int .i64 most] w fun e w' => RR w none e w' := by
  have hc := refReadNum_l s w hs
  rw [hN] at hc
  have HC : Hid (Calls Tryd.prog 31 #[.string (M.bs s)] w fun e w' => e = .returned (rnV (some (n, r))) ∧ ∃ n, w' = w.drewN n) := hc
  clear hc hN
  have hrz := M.bs_size r
  unfold maxLen at hs
  rcases hno with h | ⟨h, h'⟩ | ⟨h, h', h''⟩
  all_goals
    go_enter Tryd.func30, Tryd.ntmps30
    go_wp2_with (go_at_call 31; refine HC.out.mono ?_)
    rintro e w' ⟨rfl, nq, rfl⟩
    unfold rnV
    go_wp2_with fail
    go_ret3
    exact ⟨rfl, below_drewN (Below.refl _ _) _⟩

theorem refReadRow_any (s : List UInt8) (most : Int) (w : World) (hs : s.length ≤ 4611686018427387904) (hroom : most ≤ 8796093022208 ∨ s.length ≤ 8796093022208) :
    Calls Tryd.prog 30 #[.string (M.bs s), .int .i64 most] w fun e w' => RR w (M.readRow s most) e w' := by
  have hs' : s.length ≤ maxLen := by unfold maxLen; omega
  cases hN : M.readNum s with
  | none =>
    have e : M.readRow s most = none := by unfold M.readRow; rw [hN]
    rw [e]; exact frr_A s most w hs' hN
  | some x =>
    obtain ⟨n, r⟩ := x
    obtain ⟨e1, hb1, hb2⟩ := M.readNum_some _ _ _ hN
    have hr : r.length ≤ s.length := by
      have := congrArg List.length e1
      rw [List.length_append] at this
      omega
    by_cases hc : n < 0 ∨ most < n
    · have e : M.readRow s most = none := by unfold M.readRow; rw [hN]; simp only; rw [if_pos hc]
      rw [e]; exact frr_B s r most n w hs' hN hr (by omega)
    · have e : M.readRow s most = M.readTexts n.toNat r := by unfold M.readRow; rw [hN]; simp only; rw [if_neg hc]
      rw [e]
      obtain ⟨k, rfl⟩ := Int.eq_ofNat_of_zero_le (show 0 ≤ n by omega)
      rw [Int.toNat_natCast]
      by_cases hkr : k ≤ r.length
      · exact frr_loop s r most k w hs hroom hr hN hb2 (by omega) hkr
      · rw [readTexts_short k r (by omega)]
        exact frr_B s r most k w hs' hN hr (by omega)

end Go.Proofs.YtahdmhenkjbimaaDoor
