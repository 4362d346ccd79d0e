/- What recipe.readInputs and recipe.readAction answer. -/
import Derived.Test.YtgjpcddjfmdobaaDoorL8
namespace Go.Proofs.YtgjpcddjfmdobaaDoor
open Go.RowKit
set_option linter.unusedVariables false

/-- texts as a slice: where they lie, and room -/
structure SX2 (W : World) (a : Option Addr) (n c : Nat) (l : List (List UInt8)) : Prop where
  v : Strs W.heap.size W (.slice a n c) l
  c : n ≤ c
theorem SX2.bl {W W' : World} {a : Option Addr} {n c : Nat} {l : List (List UInt8)} (h : SX2 W a n c l) (hb : Bl W W') : SX2 W' a n c l := ⟨h.v.bl hb, h.c⟩
theorem cloneS (b off c : Nat) (r : List (List UInt8)) {w W : World} (HB : Bl w W) (hr : ∀ i t, r[i]? = some t → W.cell? ⟨b, off + i, none⟩ = some (.string (M.bs t))) (hn : r.length ≤ 100000) :
    Calls Tryd.prog 74 #[.slice (some ⟨b, off, none⟩) r.length c] W fun e w' => ∃ a' c', e = .returned (.slice a' r.length c') ∧ w'.ownsRow W.heap.size 9 1 (.slice a' r.length c') r.length (r.map encS) ∧ Bl w w' := by
  refine (Tryd.slices_Clone_string b off r.length c (r.map M.bs) W (by simp) (by omega) (fun j hj => ?_)).mono ?_
  · simp only [List.length_map] at hj
    rw [hr j r[j] (List.getElem?_eq_getElem hj)]
    simp [List.getD_eq_getElem?_getD, List.getElem?_eq_getElem hj]
  · rintro e w' ⟨v', rfl, h1, _, h2⟩
    have h3 : w'.ownsRow W.heap.size 9 1 v' r.length (r.map encS) := by
      have e : (List.take r.length (r.map M.bs)).map Value.string = r.map encS := by
        rw [List.take_of_length_le (by simp), List.map_map]; rfl
      rw [e] at h1; exact h1
    obtain ⟨a', c', rfl, _, hs⟩ := Strs.ofOwns h3
    exact ⟨a', c', rfl, h3, HB.step h2⟩
theorem readIns_cons (f : List UInt8) (r : List (List UInt8)) : RC.readIns (f :: r) = if f = RC.wFrom ∧ r ≠ [] ∧ r.length ≤ 4 ∧ r.all RC.isNm = true then some r else none := rfl
theorem bs_eqW (a b : List UInt8) : ((M.bs a).toList == b) = decide (a = b) := by
  rw [Lib.toList_data, M.bs_toList]
  by_cases h : a = b
  · subst h; simp
  · simp [h]

set_option maxRecDepth 8000 in
set_option maxHeartbeats 2000000 in
theorem readInputs_none (ws : List (List UInt8)) (a : Option Addr) (c : Nat) {w W : World} (HB : Bl w W) (hx : SX2 W a ws.length c ws) (hl : ∀ t ∈ ws, t.length ≤ maxLen) (hn : ws.length ≤ 100000) (hq : RC.readIns ws = none) :
    Calls Tryd.prog 66 #[.slice a ws.length c] W fun e w' => e = .returned (.tuple #[.slice none 0 0, .bool false]) ∧ Bl w w' := by
  obtain ⟨hv, hc⟩ := hx
  have HB0 : Hid (Bl w W) := HB
  clear HB
  cases ws with
  | nil => simp [RC.readIns] at hq
  | cons f r =>
    rw [readIns_cons] at hq
    have hq2 : ¬ (f = RC.wFrom ∧ r ≠ [] ∧ r.length ≤ 4 ∧ r.all RC.isNm = true) := by
      intro h; rw [if_pos h] at hq; simp at hq
    clear hq
    simp only [List.length_cons] at hv hc hn ⊢
    have hsa := (Strs.sa hv).2
    obtain ⟨b, off, rfl, h0⟩ := hsa 0 f rfl
    rw [Nat.add_zero] at h0
    have h1 : ∀ i t, r[i]? = some t → W.cell? ⟨b, off + 1 + i, none⟩ = some (.string (M.bs t)) := fun i t ht => by
      obtain ⟨b', off', e, hh⟩ := hsa (i + 1) t (by simpa using ht)
      cases e
      rw [show off + 1 + i = off + (i + 1) by omega]; exact hh
    have hne := bs_eqW f RC.wFrom
    unfold RC.wFrom at hne
    have CA : Hid (Calls Tryd.prog 36 #[.slice (some ⟨b, off + 1, none⟩) r.length (c - 1)] W fun e w' => e = .returned (.bool (r.all RC.isNm)) ∧ w' = W) := areNames_at r _ _ W (fun i t ht => ⟨b, off + 1, rfl, h1 i t ht⟩) (fun t ht => hl t (by simp [ht])) (by unfold maxLen; omega)
    clear hv hsa h1 hl
    unfold maxLen at *
    by_cases c1 : f = RC.wFrom
    · rw [decide_eq_true (show f = [102, 114, 111, 109] from c1)] at hne
      by_cases c2 : r.length = 0
      · clear c1 hq2 CA
        go_enter Tryd.func66, Tryd.ntmps66
        go_wp2_with fail
        all_goals
          go_ret2
          exact ⟨rfl, HB0.out⟩
      · have hc1 : ¬ c = 1 := by omega
        by_cases c3 : 4 < r.length
        · clear c1 hq2 CA
          go_enter Tryd.func66, Tryd.ntmps66
          go_wp2_with fail
          go_ret2
          exact ⟨rfl, HB0.out⟩
        · have c4 : r.all RC.isNm = false := by
            cases e : r.all RC.isNm with
            | false => rfl
            | true => exact absurd ⟨c1, fun e => c2 (by rw [e]; rfl), by omega, e⟩ hq2
          rw [c4] at CA
          clear c1 hq2 c4
          go_enter Tryd.func66, Tryd.ntmps66
          go_wp2_with (go_at_call 36; refine CA.out.mono ?_; rintro e w' ⟨rfl, rfl⟩)
          go_ret2
          exact ⟨rfl, HB0.out⟩
    · rw [decide_eq_false (show ¬ f = [102, 114, 111, 109] from c1)] at hne
      clear c1 hq2 CA
      go_enter Tryd.func66, Tryd.ntmps66
      go_wp2_with fail
      all_goals
        go_ret2
        exact ⟨rfl, HB0.out⟩

set_option maxRecDepth 8000 in
set_option maxHeartbeats 2000000 in
theorem readInputs_some (ws ins : List (List UInt8)) (a : Option Addr) (c : Nat) {w W : World} (HB : Bl w W) (hx : SX2 W a ws.length c ws) (hl : ∀ t ∈ ws, t.length ≤ maxLen) (hn : ws.length ≤ 100000) (hq : RC.readIns ws = some ins) :
    Calls Tryd.prog 66 #[.slice a ws.length c] W fun e w' => ∃ a' c', e = .returned (.tuple #[.slice a' ins.length c', .bool true]) ∧ w'.ownsRow W.heap.size 9 1 (.slice a' ins.length c') ins.length (ins.map encS) ∧ Bl w w' := by
  obtain ⟨hv, hc⟩ := hx
  cases ws with
  | nil =>
    simp only [RC.readIns, Option.some.injEq] at hq
    subst hq
    have HB0 : Hid (Bl w W) := HB
    clear HB hv
    simp only [List.length_nil]
    go_enter Tryd.func66, Tryd.ntmps66
    go_wp2_with fail
    go_ret2
    exact ⟨none, 0, rfl, ⟨rfl, Or.inl ⟨rfl, rfl⟩⟩, HB0.out⟩
  | cons f r =>
    rw [readIns_cons] at hq
    have hq2 : f = RC.wFrom ∧ r ≠ [] ∧ r.length ≤ 4 ∧ r.all RC.isNm = true := by
      refine Classical.byContradiction fun h => ?_
      rw [if_neg h] at hq; simp at hq
    rw [if_pos hq2] at hq
    simp only [Option.some.injEq] at hq
    subst hq
    obtain ⟨c1, c2, c3, c4⟩ := hq2
    simp only [List.length_cons] at hv hc hn ⊢
    have hsa := (Strs.sa hv).2
    obtain ⟨b, off, rfl, h0⟩ := hsa 0 f rfl
    rw [Nat.add_zero] at h0
    have h1 : ∀ i t, r[i]? = some t → W.cell? ⟨b, off + 1 + i, none⟩ = some (.string (M.bs t)) := fun i t ht => by
      obtain ⟨b', off', e, hh⟩ := hsa (i + 1) t (by simpa using ht)
      cases e
      rw [show off + 1 + i = off + (i + 1) by omega]; exact hh
    have hne := bs_eqW f RC.wFrom
    unfold RC.wFrom at hne
    rw [decide_eq_true (show f = [102, 114, 111, 109] from c1)] at hne
    have CA : Hid (Calls Tryd.prog 36 #[.slice (some ⟨b, off + 1, none⟩) r.length (c - 1)] W fun e w' => e = .returned (.bool true) ∧ w' = W) := by
      show Calls _ _ _ _ _
      rw [← c4]
      exact areNames_at r _ _ W (fun i t ht => ⟨b, off + 1, rfl, h1 i t ht⟩) (fun t ht => hl t (by simp [ht])) (by unfold maxLen; omega)
    have CC : Hid (Calls Tryd.prog 74 #[.slice (some ⟨b, off + 1, none⟩) r.length (c - 1)] W fun e w' => ∃ a' c', e = .returned (.slice a' r.length c') ∧ w'.ownsRow W.heap.size 9 1 (.slice a' r.length c') r.length (r.map encS) ∧ Bl w w') := cloneS b (off + 1) (c - 1) r HB h1 (by omega)
    have c5 : 0 < r.length := List.length_pos_iff.2 c2
    have hc1 : ¬ c = 1 := by omega
    have hb0 : ((r.length : Int) == 0) = false := by rw [beq_eq_false_iff_ne]; omega
    clear hv hsa h1 hl c1 c4 HB c2
    go_enter Tryd.func66, Tryd.ntmps66
    go_wp2_with (first
      | (go_at_call 36; refine CA.out.mono ?_; rintro e w' ⟨rfl, hw⟩; rw [hw]; clear hw w')
      | (go_at_call 74; refine CC.out.mono ?_; rintro e w3 ⟨a', c', rfl, hs, HB⟩))
    go_ret2
    exact ⟨a', c', rfl, hs, HB⟩
end Go.Proofs.YtgjpcddjfmdobaaDoor
