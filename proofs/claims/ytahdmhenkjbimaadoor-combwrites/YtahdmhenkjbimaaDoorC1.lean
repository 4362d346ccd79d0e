/- What comb.chunks and comb.Split answer. -/
import Derived.Test.YtahdmhenkjbimaaDoorCMath
import Derived.Test.YtahdmhenkjbimaaDoorGT
namespace Go.Proofs.YtahdmhenkjbimaaDoor
open Go.RowKit
set_option linter.unusedVariables false

theorem take_bs (r : List UInt8) (n : Nat) : (M.bs r).extract 0 n = M.bs (r.take n) := by
  rw [Lib.extract_eq]
  simp [M.bs]

theorem chunks_at (n : Nat) (w : World) (h : n ≤ 1000000) : Calls Tryd.prog 34 #[.int .i64 (n : Int)] w fun e w' => e = .returned (.int .i64 (S.nch n : Int)) ∧ w' = w := by
  have hn : S.nch n ≤ 1000000 := by unfold S.nch; omega
  have hd : Int.tdiv ((n : Int) + 64 - 1) 64 = (S.nch n : Int) := by unfold S.nch; rw [Int.tdiv_eq_ediv_of_nonneg (by omega)]; omega
  go_enter Tryd.func34, Tryd.ntmps34
  go_wp2_with fail
  go_ret
  exact ⟨rfl, rfl⟩

theorem owns_cap {w : World} {N k n c : Nat} {e : TypeId} {a : Option Addr} {xs : List Value} (h : w.ownsRow N e k (.slice a n c) n xs) : n ≤ c := by
  obtain ⟨_, ⟨h1, h2⟩ | ⟨g, cap, cur, h1, _, _, h4, _⟩⟩ := h
  · omega
  · simp only [Value.slice.injEq] at h1
    omega
set_option maxHeartbeats 1000000 in
theorem Split_at (s : List UInt8) (w : World) (hs : s.length ≤ 1000000) :
    Calls Tryd.prog 12 #[.string (M.bs s)] w fun e w' => ∃ a c, e = .returned (.slice a (S.split s).length c) ∧ Strs w'.heap.size w' (.slice a (S.split s).length c) (S.split s) ∧ (S.split s).length ≤ c ∧ Below w.heap.size w w' := by
  have hsz := M.bs_size s
  obtain ⟨i0, hi, hz0, hz1, hz2⟩ := info_parts (show (Tryd.prog.info? 9).map (fun i => (i.zero, i.size, i.bytes)) = some (some (.string ByteArray.empty), 1, 16) by kernel_rfl)
  have hnc : S.nch s.length ≤ 1000000 := by unfold S.nch; omega
  go_enter Tryd.func12, Tryd.ntmps12
  go_wp2_with (first
    | (go_at_call 34; refine (chunks_at s.length _ hs).mono ?_; rintro e w' ⟨rfl, hw⟩; rw [hw]; clear hw w')
    | (at_make; refine wpList_make_own _ rfl _ _ 36 rfl w.heap.size 9 i0 (.string ByteArray.empty) 1 Tryd.underlying36 hi hz0 hz1 _ _ _ (S.nch s.length) rfl rfl rfl (by rw [hz2]; omega) (by unfold maxLen; omega) (Nat.le_refl _) ?_))
  intro w1 hown hgr
  go_wp2_with fail
  have hB1 : Below w.heap.size w w1 := (Below.refl _ w).grown hgr (Nat.le_refl _) (fun q hq => by cases hq)
  have HSP : Hid (∀ k, k < S.nch s.length → (S.split s).take (k + 1) = (S.split s).take k ++ [S.chk s k]) := fun k hk => S.take_split_succ s k hk
  have HOW : Hid (w1.ownsRow w.heap.size 9 1 (Value.slice (some ⟨w.heap.size, 0, none⟩) 0 (S.nch s.length)) 0 (((S.split s).take 0).map encS)) := hown
  have HBE : Hid (Below w.heap.size w w1) := hB1
  have HI : Hid (Tryd.prog.info? 9 = some i0) := hi
  clear hown hgr hB1 hi
  go_loopw [0, 3, 4] (fun u0 u3 u4 wr => ∃ k : Nat, k ≤ S.nch s.length ∧ u0 = .string (M.bs (s.drop (64 * k))) ∧ wr.ownsRow w.heap.size 9 1 u3 k (((S.split s).take k).map encS) ∧ Below w.heap.size w wr) (fun u0 _ _ _ => strLen u0)
  case atStart => exact ⟨0, Nat.zero_le _, rfl, HOW.out, HBE.out⟩
  case round =>
    obtain ⟨k, hk, rfl, hown, hbe⟩ := hrel
    clear HOW HBE
    have HOW : Hid (wr.ownsRow w.heap.size 9 1 u3 k (((S.split s).take k).map encS)) := hown
    have HBE : Hid (Below w.heap.size w wr) := hbe
    have hszw := hbe.size
    clear hown hbe
    have hq : (s.drop (64 * k)).length = s.length - 64 * k := by simp
    by_cases hlt : k < S.nch s.length
    · have hlt2 : 64 * k < s.length := by unfold S.nch at hlt; omega
      obtain ⟨m, hm⟩ : ∃ m, m = min (s.length - 64 * k) 64 := ⟨_, rfl⟩
      have HQT : Hid ((s.drop (64 * k)).take m = S.chk s k) := by
        show _ = _
        unfold S.chk
        by_cases h : s.length - 64 * k ≤ 64
        · rw [List.take_of_length_le (by omega), List.take_of_length_le (by omega)]
        · rw [show m = 64 by omega]
      have HQD : Hid ((s.drop (64 * k)).drop m = s.drop (64 * (k + 1))) := by
        show _ = _
        rw [List.drop_drop]
        by_cases h : s.length - 64 * k ≤ 64
        · rw [List.drop_of_length_le (by omega), List.drop_of_length_le (by omega)]
        · rw [show m = 64 by omega]; congr 1
      generalize s.drop (64 * k) = q at *
      have hne := bs_ne q (by omega)
      have hbq := M.bs_size q
      have hmi : min (q.length : Int) 64 = (m : Int) := by omega
      have htk := take_bs q m
      have hdr : (M.bs q).extract m q.length = M.bs (q.drop m) := by have := drop_bs q m; rwa [hbq] at this
      have hm1 : m ≤ q.length := by omega
      have hm2 : m ≤ 64 := by omega
      have hm0 : 0 < m := by omega
      have hql : q.length ≤ 1000000 := by omega
      clear hm hq
      have HOW2 : Hid ((wr.alloc (.cells #[.string (M.bs (q.take m))] 9)).ownsRow w.heap.size 9 1 u3 k (((S.split s).take k).map encS)) := World.ownsRow.alloc (w := wr) HOW.out _
      have HBE2 : Hid (Below w.heap.size w (wr.alloc (.cells #[.string (M.bs (q.take m))] 9))) := HBE.out.alloc hszw _
      have HLT : Hid (∀ q, u3.ownBlock = some q → w.heap.size ≤ q) := fun q hq => (HOW.out.lt q hq).1
      go_wp2_with (at_builtin; refine wpList_append_own _ rfl _ _ 36 rfl w.heap.size 9 i0 (.string ByteArray.empty) 1 16 Tryd.underlying36 HI.out hz0 hz1 hz2 rfl (by decide) _ _ _ rfl HOW2.out ⟨wr.heap.size, 0, none⟩ 1 1 [.string (M.bs (q.take m))] rfl rfl (cell_one_new _ _ _) (fun x hx => by simp at hx; subst hx; rfl) (by unfold maxLen; omega) (by omega) (by simp; omega) ?_)
      intro v' w5 hown5 hgrow5 _
      have HB5 : Hid (Below w.heap.size w w5) := HBE2.out.grown hgrow5 (by simp; omega) (fun q hq => HLT.out q hq)
      have HO5 : Hid (w5.ownsRow w.heap.size 9 1 v' (k + 1) (((S.split s).take (k + 1)).map encS)) := by
        show World.ownsRow _ _ _ _ _ _ _
        rw [HSP.out k hlt, List.map_append, List.map_take, ← HQT.out]; exact hown5
      clear hown5 hgrow5 HBE2 HOW2 HLT
      go_wp2_with fail
      go_roundw
      case rel => exact ⟨k + 1, by omega, by rw [HQD.out], HO5.out, HB5.out⟩
      case measure => simp [strLen, M.bs_size]; omega
    · obtain rfl : k = S.nch s.length := by omega
      have hq0 : s.drop (64 * S.nch s.length) = [] := List.drop_of_length_le (by unfold S.nch; omega)
      rw [hq0]
      have hne := bs_nil
      have hOW := HOW.out
      rw [List.take_of_length_le (by rw [S.split_length]; omega)] at hOW
      have HST : Hid (Strs wr.heap.size wr u3 (S.split s)) := strs_of_owns (by rw [S.split_length]; exact hOW)
      obtain ⟨a, c, rfl⟩ : ∃ a c, u3 = .slice a (S.split s).length c := HST.out.shape
      have HCP : Hid ((S.split s).length ≤ c) := owns_cap (by rw [← S.split_length] at hOW; exact hOW)
      clear HOW hOW
      go_wp2_with fail
      go_ret
      exact ⟨_, _, rfl, HST.out, HCP.out, HBE.out⟩
end Go.Proofs.YtahdmhenkjbimaaDoor
