/- What the reference's Split answers. -/
import Derived.Test.YtkbggcmjicaifaaDoorC4
import Derived.Test.YtkbggcmjicaifaaDoorX3
namespace Go.Proofs.YtkbggcmjicaifaaDoor
open Go.RowKit
set_option linter.unusedVariables false

theorem bs_beq0 (q : List UInt8) : ((M.bs q).toList == []) = (q == []) := by rw [Lib.toList_data, M.bs_toList]
set_option maxRecDepth 8000 in
set_option maxHeartbeats 2000000 in
theorem rSplit_at (s : List UInt8) (w : World) (hs : s.length ≤ 1000000) :
    Calls Tryd.prog 19 #[.string (M.bs s)] w fun e w' => ∃ a c, e = .returned (.slice a (S.split s).length c) ∧ Strs w'.heap.size w' (.slice a (S.split s).length c) (S.split s) ∧ Below w.heap.size w w' := by
  have hsz := M.bs_size s
  obtain ⟨i0, hi, hz0, hz1, hz2⟩ := info_parts (show (Tryd.prog.info? 9).map (fun i => (i.zero, i.size, i.bytes)) = some (some (.string ByteArray.empty), 1, 16) by kernel_rfl)
  have hnc : S.nch s.length ≤ 1000000 := by unfold S.nch; omega
  have HOW : Hid ((w.alloc (.cells #[] 9)).ownsRow w.heap.size 9 1 (.slice (some ⟨w.heap.size, 0, none⟩) 0 0) 0 (((S.split s).take 0).map encS)) :=
    World.ownsRow_made (base := w.heap.size) (e := 9) (size := 1) w #[] 0 (Nat.le_refl _) (by simp [maxLen]) rfl
  have HBE : Hid (Below w.heap.size w (w.alloc (.cells #[] 9))) := (Below.refl _ w).alloc (Nat.le_refl _) _
  have HSP : Hid (∀ k, k < S.nch s.length → (S.split s).take (k + 1) = (S.split s).take k ++ [S.chk s k]) := fun k hk => S.take_split_succ s k hk
  have HI : Hid (Tryd.prog.info? 9 = some i0) := hi
  clear hi
  go_enter Tryd.func19, Tryd.ntmps19
  go_wp2_with fail
  go_loopw [0, 3] (fun u0 u3 wr => ∃ k : Nat, k ≤ S.nch s.length ∧ (k < S.nch s.length ∨ s.length = 0) ∧ u0 = .string (M.bs (s.drop (64 * k))) ∧ wr.ownsRow w.heap.size 9 1 u3 k (((S.split s).take k).map encS) ∧ Below w.heap.size w wr) (fun u0 _ _ => strLen u0)
  case atStart => exact ⟨0, Nat.zero_le _, by unfold S.nch; omega, rfl, HOW.out, HBE.out⟩
  case round =>
    obtain ⟨k, hk, hk2, rfl, hown, hbe⟩ := hrel
    clear HOW HBE
    have HOW : Hid (wr.ownsRow w.heap.size 9 1 u3 k (((S.split s).take k).map encS)) := hown
    have HBE : Hid (Below w.heap.size w wr) := hbe
    have hszw := hbe.size
    clear hown hbe
    have hq : (s.drop (64 * k)).length = s.length - 64 * k := by simp
    have HQT : Hid ((s.drop (64 * k)).take 64 = S.chk s k) := rfl
    have HQD : Hid ((s.drop (64 * k)).drop 64 = s.drop (64 * (k + 1))) := by show _ = _; rw [List.drop_drop]; congr 1
    have HLT : Hid (∀ q, u3.ownBlock = some q → w.heap.size ≤ q) := fun q hq => (HOW.out.lt q hq).1
    by_cases hlt : 64 < s.length - 64 * k
    · have hkn : k < S.nch s.length := by unfold S.nch; omega
      have hkn2 : k + 1 < S.nch s.length := by unfold S.nch; omega
      clear hk2
      generalize s.drop (64 * k) = q at *
      have hbq := M.bs_size q
      have hql : (64 : Int) < (q.length : Int) := by omega
      have htk := take_bs q 64
      have hdr : (M.bs q).extract 64 q.length = M.bs (q.drop 64) := by have := drop_bs q 64; rwa [hbq] at this
      have hqm : q.length ≤ 1000000 := by omega
      have HOW2 : Hid ((wr.alloc (.cells #[.string (M.bs (q.take 64))] 9)).ownsRow w.heap.size 9 1 u3 k (((S.split s).take k).map encS)) := World.ownsRow.alloc (w := wr) HOW.out _
      have HBE2 : Hid (Below w.heap.size w (wr.alloc (.cells #[.string (M.bs (q.take 64))] 9))) := HBE.out.alloc hszw _
      have HSL : Hid (strLen (.string (M.bs (q.drop 64))) < strLen (.string (M.bs q))) := by show strLen _ < strLen _; simp [strLen, M.bs_size]; omega
      clear hq hlt
      go_wp2_with (at_builtin; refine wpList_append_own _ rfl _ _ 22 rfl w.heap.size 9 i0 (.string ByteArray.empty) 1 16 Tryd.underlying22 HI.out hz0 hz1 hz2 rfl (by decide) _ _ _ rfl HOW2.out ⟨wr.heap.size, 0, none⟩ 1 1 [.string (M.bs (q.take 64))] rfl rfl (cell_one_new _ _ _) (fun x hx => by simp at hx; subst hx; rfl) (by unfold maxLen; omega) (by omega) (by simp; omega) ?_)
      intro v' w5 hown5 hgrow5 _
      have HB5 : Hid (Below w.heap.size w w5) := HBE2.out.grown hgrow5 (by simp; omega) (fun q hq => HLT.out q hq)
      have HO5 : Hid (w5.ownsRow w.heap.size 9 1 v' (k + 1) (((S.split s).take (k + 1)).map encS)) := by
        show World.ownsRow _ _ _ _ _ _ _
        rw [HSP.out k hkn, List.map_append, List.map_take, ← HQT.out]; exact hown5
      clear hown5 hgrow5 HBE2 HOW2 HLT
      go_wp2_with fail
      go_roundw
      case rel => exact ⟨k + 1, by omega, by omega, by rw [HQD.out], HO5.out, HB5.out⟩
      case measure => exact HSL.out
    · by_cases h0 : s.length = 0
      · have hk0 : k = 0 := by have : S.nch s.length = 0 := by { unfold S.nch; omega }; omega
        have hq0 : s.drop (64 * k) = [] := List.drop_of_length_le (by omega)
        have hs0 : s = [] := List.eq_nil_of_length_eq_zero h0
        rw [hq0]
        have hOW := HOW.out
        rw [hk0] at hOW
        have HST : Hid (Strs wr.heap.size wr u3 (S.split s)) := by
          have hsp : S.split s = [] := by rw [hs0]; exact S.split_nil
          rw [hsp]
          exact strs_of_owns (ks := []) (by simpa using hOW)
        obtain ⟨a, c, rfl⟩ : ∃ a c, u3 = .slice a (S.split s).length c := HST.out.shape
        have hbe := bs_beq0 []
        have hb0 : (M.bs ([] : List UInt8)).size = 0 := rfl
        clear HOW hOW HLT hq hlt hk2
        go_wp2_with fail
        go_ret
        exact ⟨_, _, rfl, HST.out, HBE.out⟩
      · have hkn : k < S.nch s.length := by omega
        have hke : k + 1 = S.nch s.length := by unfold S.nch at *; omega
        have HKE : Hid (k + 1 = S.nch s.length) := hke
        clear hke
        have HQ64 : Hid (S.chk s k = s.drop (64 * k)) := by
          show _ = _
          unfold S.chk; rw [List.take_of_length_le (by omega)]
        have hq1 : 0 < (s.drop (64 * k)).length := by rw [hq]; unfold S.nch at hkn; omega
        generalize s.drop (64 * k) = q at *
        have hbq := M.bs_size q
        have hql : ¬ (64 : Int) < (q.length : Int) := by omega
        have hne : ((M.bs q).toList == []) = false := bs_beq0 q |>.trans (by simp; intro e; rw [e] at hq1; simp at hq1)
        have hne2 := bs_ne q hq1
        have HOW2 : Hid ((wr.alloc (.cells #[.string (M.bs q)] 9)).ownsRow w.heap.size 9 1 u3 k (((S.split s).take k).map encS)) := World.ownsRow.alloc (w := wr) HOW.out _
        have HBE2 : Hid (Below w.heap.size w (wr.alloc (.cells #[.string (M.bs q)] 9))) := HBE.out.alloc hszw _
        clear hq hlt hk2 h0
        go_wp2_with (at_builtin; refine wpList_append_own _ rfl _ _ 22 rfl w.heap.size 9 i0 (.string ByteArray.empty) 1 16 Tryd.underlying22 HI.out hz0 hz1 hz2 rfl (by decide) _ _ _ rfl HOW2.out ⟨wr.heap.size, 0, none⟩ 1 1 [.string (M.bs q)] rfl rfl (cell_one_new _ _ _) (fun x hx => by simp at hx; subst hx; rfl) (by unfold maxLen; omega) (by omega) (by simp; omega) ?_)
        intro v' w5 hown5 hgrow5 _
        have HB5 : Hid (Below w.heap.size w w5) := HBE2.out.grown hgrow5 (by simp; omega) (fun q hq => HLT.out q hq)
        have HO5 : Hid (w5.ownsRow w.heap.size 9 1 v' (k + 1) (((S.split s).take (k + 1)).map encS)) := by
          show World.ownsRow _ _ _ _ _ _ _
          rw [HSP.out k hkn, List.map_append, List.map_take, HQ64.out]; exact hown5
        have hOW := HO5.out
        rw [List.take_of_length_le (by rw [S.split_length]; have := HKE.out; omega)] at hOW
        have HST : Hid (Strs w5.heap.size w5 v' (S.split s)) := strs_of_owns (by rw [S.split_length, ← HKE.out]; exact hOW)
        obtain ⟨a, c, rfl⟩ : ∃ a c, v' = .slice a (S.split s).length c := HST.out.shape
        clear hown5 hgrow5 HBE2 HOW2 HLT HO5 hOW
        go_wp2_with fail
        go_ret
        exact ⟨_, _, rfl, HST.out, HB5.out⟩
end Go.Proofs.YtkbggcmjicaifaaDoor
