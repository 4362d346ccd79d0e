/- The law's own blob and built. -/
import Derived.Test.YtlblbdfpcaplkaaGreatDoorAw9
import Derived.Test.YtlblbdfpcaplkaaGreatDoorGre9
namespace Go.Proofs.YtlblbdfpcaplkaaGreatDoor
open Go.RowKit
set_option linter.unusedVariables false
set_option linter.unusedSimpArgs false

theorem bs_eq9 (a b : List UInt8) : ((M.bs a).toList == (M.bs b).toList) = decide (a = b) := by
  rw [Lib.toList_data, Lib.toList_data, M.bs_toList, M.bs_toList]
  by_cases h : a = b
  · subst h; simp
  · simp [h]
/-- the first source of a name, the first thing built -/
def fndS (l : List O.So) (n : List UInt8) : Option (List UInt8) := (l.find? (fun s => decide (s.1 = n))).map (·.2)
def fndB (l : List (List UInt8 × O.Re)) (n : List UInt8) : Option O.Re := (l.find? (fun s => decide (s.1 = n))).map (·.2)
theorem find_at {α : Type} {p : α → Bool} {l : List α} {k : Nat} {x : α} (hp : ∀ i y, i < k → l[i]? = some y → p y = false) (hx : l[k]? = some x) (h : p x = true) : l.find? p = some x := by
  induction l generalizing k with
  | nil => simp at hx
  | cons a r ih =>
    cases k with
    | zero => simp at hx; subst hx; simp [h]
    | succ k =>
      have h0 := hp 0 a (by omega) rfl
      rw [List.find?_cons, h0]
      exact ih (k := k) (fun i y hi hy => hp (i + 1) y (by omega) (by simpa using hy)) (by simpa using hx)
theorem find_no {α : Type} {p : α → Bool} {l : List α} (hp : ∀ i y, i < l.length → l[i]? = some y → p y = false) : l.find? p = none := by
  rw [List.find?_eq_none]
  intro x hx
  obtain ⟨i, hi⟩ := List.mem_iff_getElem?.1 hx
  rw [hp i x (List.getElem?_eq_some_iff.1 hi).1 hi]; simp
set_option maxRecDepth 8000 in
set_option maxHeartbeats 1000000 in
theorem blob_x (l : List O.So) (a : Option Addr) (c : Nat) (n : List UInt8) (W : World) (hv : RS lyS W a l) (hl : l.length ≤ 1000) :
    Calls Tryz.prog 24 #[.slice a l.length c, .string (M.bs n)] W fun e w' => e = .returned (.tuple #[.string (M.bs ((fndS l n).getD [])), .bool (fndS l n).isSome]) ∧ w' = W := by
  have HV : Hid (RS lyS W a l) := hv
  clear hv
  go_enter Tryz.func24, Tryz.ntmps24
  go_wp2_with fail
  go_loop [6] (fun u6 => ∃ k : Nat, k ≤ l.length ∧ u6 = .int .i64 k ∧ ∀ i e, i < k → l[i]? = some e → decide (e.1 = n) = false) (fun u6 => l.length - (intOf u6).toNat)
  case atStart => exact ⟨0, Nat.zero_le _, rfl, fun i e hi => by omega⟩
  case round =>
    obtain ⟨k, hk, rfl, hpre⟩ := hrel
    have HP : Hid (∀ i e, i < k → l[i]? = some e → decide (e.1 = n) = false) := hpre
    clear hpre
    by_cases hlt : k < l.length
    · obtain ⟨s, hs⟩ : ∃ s, l[k]? = some s := ⟨l[k], List.getElem?_eq_getElem hlt⟩
      obtain ⟨b, off, rfl, hb, hrg⟩ := HV.out k s hs
      have q0 : W.cell? ⟨b, off + k * 2, none⟩ = some (.string (M.bs s.1)) := hrg 0 _ rfl
      have q1 : W.cell? ⟨b, off + k * 2 + 1, none⟩ = some (.string (M.bs s.2)) := hrg 1 _ rfl
      by_cases he : s.1 = n
      · have HF : Hid (fndS l n = some s.2) := by
          show _ = _
          unfold fndS
          rw [find_at HP.out hs (decide_eq_true he)]; rfl
        have hq : ((M.bs s.1).toList == (M.bs n).toList) = true := by rw [he]; simp
        clear hs hrg
        go_wp2_with fail
        go_ret2
        rw [HF.out]
        exact ⟨rfl, rfl⟩
      · have HE : Hid (∀ i e, i < k + 1 → l[i]? = some e → decide (e.1 = n) = false) := fun i e hi hx => by
          rcases (by omega : i < k ∨ i = k) with h' | rfl
          · exact HP.out i e h' hx
          · rw [hs] at hx; cases hx; exact decide_eq_false he
        have hq : ((M.bs s.1).toList == (M.bs n).toList) = false := by rw [bs_eq9]; simp [he]
        clear hs hrg
        go_wp2_with fail
        go_round
        case rel => exact ⟨k + 1, by omega, by go_num, HE.out⟩
        case measure => simp [intOf]; omega
    · obtain rfl : k = l.length := by omega
      have HF : Hid (fndS l n = none) := by show _ = _; unfold fndS; rw [find_no HP.out]; rfl
      go_wp2_with fail
      go_ret2
      rw [HF.out]
      exact ⟨rfl, rfl⟩
set_option maxRecDepth 8000 in
set_option maxHeartbeats 1000000 in
theorem built_x (l : List (List UInt8 × O.Re)) (a : Option Addr) (c : Nat) (n : List UInt8) (W : World) (hv : RS lyB W a l) (hl : l.length ≤ 1000) :
    Calls Tryz.prog 25 #[.slice a l.length c, .string (M.bs n)] W fun e w' => e = .returned (.tuple #[.agg (resV ((fndB l n).getD (0, []))), .bool (fndB l n).isSome]) ∧ Bl W w' := by
  have HWZ : Hid (Bl W (W.alloc (.cells #[.int .i64 0, .string ⟨#[]⟩] 46))) := (Bl.refl W).alloc _
  have HV : Hid (RS lyB (W.alloc (.cells #[.int .i64 0, .string ⟨#[]⟩] 46)) a l) := hv.bl HWZ.out
  have HZ0 : Hid ((W.alloc (.cells #[.int .i64 0, .string ⟨#[]⟩] 46)).heap[W.heap.size]? = some (.cells #[.int .i64 0, .string ⟨#[]⟩] 46 (0, 0))) := heap_alloc_new _ _
  obtain ⟨fs, hum⟩ := undRes
  clear hv
  go_enter Tryz.func25, Tryz.ntmps25
  go_wp2_with fail
  have c0 : (W.alloc (.cells #[.int .i64 0, .string ⟨#[]⟩] 46)).cell? ⟨W.heap.size, 0, none⟩ = some (.int .i64 0) := by rw [Lib.cell_of_heap HZ0.out]; rfl
  have c1 : (W.alloc (.cells #[.int .i64 0, .string ⟨#[]⟩] 46)).cell? ⟨W.heap.size, 1, none⟩ = some (.string ⟨#[]⟩) := by rw [Lib.cell_of_heap HZ0.out]; rfl
  have f0 := frozen_rowM HZ0.out
  generalize W.alloc (.cells #[.int .i64 0, .string ⟨#[]⟩] 46) = Z at *
  go_loop [6] (fun u6 => ∃ k : Nat, k ≤ l.length ∧ u6 = .int .i64 k ∧ ∀ i e, i < k → l[i]? = some e → decide (e.1 = n) = false) (fun u6 => l.length - (intOf u6).toNat)
  case atStart => exact ⟨0, Nat.zero_le _, rfl, fun i e hi => by omega⟩
  case round =>
    obtain ⟨k, hk, rfl, hpre⟩ := hrel
    have HP : Hid (∀ i e, i < k → l[i]? = some e → decide (e.1 = n) = false) := hpre
    clear hpre
    by_cases hlt : k < l.length
    · obtain ⟨⟨sn, sc, sb⟩, hs⟩ : ∃ s, l[k]? = some s := ⟨l[k], List.getElem?_eq_getElem hlt⟩
      obtain ⟨b, off, rfl, hb, hrg⟩ := HV.out k _ hs
      have q0 : Z.cell? ⟨b, off + k * 3, none⟩ = some (.string (M.bs sn)) := hrg 0 _ rfl
      have q1 : Z.cell? ⟨b, off + k * 3 + 1, none⟩ = some (.int .i64 sc) := hrg 1 _ rfl
      have q2 : Z.cell? ⟨b, off + k * 3 + 1 + 1, none⟩ = some (.string (M.bs sb)) := hrg 2 _ rfl
      by_cases he : sn = n
      · have HF : Hid (fndB l n = some (sc, sb)) := by
          show _ = _
          unfold fndB
          rw [find_at HP.out hs (decide_eq_true he)]; rfl
        have hq : ((M.bs sn).toList == (M.bs n).toList) = true := by rw [he]; simp
        clear hs hrg
        go_wp2_with fail
        (try simp only [Exit.inBlock, Exit.then])
        refine bodyPost_ret (results2_rowM rfl _ _ W.heap.size 46 #[.int .i64 sc, .string (M.bs sb)] (0, 0) _ rfl (heap_setCell_rowM (heap_setCell_rowM HZ0.out)) hum rfl infoRes) rfl ?_
        rw [HF.out]
        exact ⟨rfl, (HWZ.out.set (Nat.le_refl _) _ _).set (Nat.le_refl _) _ _⟩
      · have HE : Hid (∀ i e, i < k + 1 → l[i]? = some e → decide (e.1 = n) = false) := fun i e hi hx => by
          rcases (by omega : i < k ∨ i = k) with h' | rfl
          · exact HP.out i e h' hx
          · rw [hs] at hx; cases hx; exact decide_eq_false he
        have hq : ((M.bs sn).toList == (M.bs n).toList) = false := by rw [bs_eq9]; simp [he]
        clear hs hrg
        go_wp2_with fail
        go_round
        case rel => exact ⟨k + 1, by omega, by go_num, HE.out⟩
        case measure => simp [intOf]; omega
    · obtain rfl : k = l.length := by omega
      have HF : Hid (fndB l n = none) := by show _ = _; unfold fndB; rw [find_no HP.out]; rfl
      go_wp2_with fail
      (try simp only [Exit.inBlock, Exit.then])
      refine bodyPost_ret (results2_rowM rfl _ _ W.heap.size 46 #[.int .i64 0, .string ⟨#[]⟩] (0, 0) _ rfl (heap_setCell_rowM (heap_setCell_rowM HZ0.out)) hum rfl infoRes) rfl ?_
      rw [HF.out]
      exact ⟨rfl, (HWZ.out.set (Nat.le_refl _) _ _).set (Nat.le_refl _) _ _⟩
end Go.Proofs.YtlblbdfpcaplkaaGreatDoor
