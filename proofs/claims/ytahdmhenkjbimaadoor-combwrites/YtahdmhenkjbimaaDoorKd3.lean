/- Both Decodes answer alike. -/
import Derived.Test.YtahdmhenkjbimaaDoorK9
import Derived.Test.YtahdmhenkjbimaaDoorKd2
namespace Go.Proofs.YtahdmhenkjbimaaDoor
open Go.RowKit
set_option linter.unusedVariables false

theorem both_decode (s : List UInt8) (hs : s.length ≤ 140737488355328) :
    ((∀ w, Calls Tryd.prog 8 #[.string (M.bs s)] w fun e w' => e = .returned (.tuple #[.agg zero34, .int .i64 3]) ∧ Below w.heap.size w w') ∧
      ∀ w, Calls Tryd.prog 9 #[.string (M.bs s)] w fun e w' => e = .returned (.tuple #[.agg zero34, .int .i64 3]) ∧ Below w.heap.size w w') ∨
    ∃ a n D, a.length = 32 ∧ (∀ d ∈ D, d.length = 32) ∧ D.length ≤ 8 ∧
      (∀ w, Calls Tryd.prog 8 #[.string (M.bs s)] w fun e w' => ∃ pa pc, e = .returned (.tuple #[.agg (mv a n pa D.length pc), .int .i64 0]) ∧ Dgs w'.heap.size w' pa D ∧ Below w.heap.size w w') ∧
      ∀ w, Calls Tryd.prog 9 #[.string (M.bs s)] w fun e w' => ∃ pa pc, e = .returned (.tuple #[.agg (mv a n pa D.length pc), .int .i64 0]) ∧ Dgs w'.heap.size w' pa D ∧ Below w.heap.size w w' := by
  have hs2 : s.length ≤ 9223372036854775807 := by omega
  cases hR : M.readRow s 3 with
  | none => exact Or.inl ⟨fun w => decode_A s w hs2 hR, fun w => rdec_A s w hs hR⟩
  | some x =>
    obtain ⟨l, r⟩ := x
    obtain ⟨e1, e2⟩ := M.readRow_some s l r 3 hR
    have hlen := congrArg List.length e1
    rw [List.length_append] at hlen
    have hl3 : l.length ≤ 3 := by omega
    by_cases hbad : r ≠ [] ∨ l.length ≠ 3
    · exact Or.inl ⟨fun w => decode_B s w hs2 l r hR hbad hl3 (by omega), fun w => rdec_B s w hs l r hR hbad hl3 (by omega)⟩
    · have hr : r = [] := Classical.byContradiction fun h => hbad (Or.inl h)
      have h3 : l.length = 3 := Classical.byContradiction fun h => hbad (Or.inr h)
      subst hr
      obtain ⟨a, b, c, rfl⟩ : ∃ a b c, l = [a, b, c] := by
        match l, h3 with
        | [a, b, c], _ => exact ⟨a, b, c, rfl⟩
      have hrow : (M.rowB [a, b, c]).length = (M.numB 3).length + ((M.numB a.length).length + a.length + ((M.numB b.length).length + b.length + ((M.numB c.length).length + c.length))) := by
        simp [M.rowB, M.textsB, M.textB]; omega
      have hal : a.length ≤ 140737488355328 := by omega
      have hbl : b.length ≤ 140737488355328 := by omega
      have hcl : c.length ≤ 140737488355328 := by omega
      have hal2 : a.length ≤ 9223372036854775807 := by omega
      have hbl2 : b.length ≤ 9223372036854775807 := by omega
      have hcl2 : c.length ≤ 9223372036854775807 := by omega
      by_cases ha : a.length = 32
      · by_cases hm : c.length % 32 = 0
        · cases hN : M.readNum b with
          | none => exact Or.inl ⟨fun w => decode_C s w hs2 a b c hR hal2 hbl2 hcl2 (Or.inl hN), fun w => rdec_C s w hs a b c hR hal hbl hcl (Or.inr (Or.inr ⟨ha, hm, Or.inl hN⟩))⟩
          | some y =>
            obtain ⟨n, r2⟩ := y
            by_cases hr2 : r2 = []
            · subst hr2
              obtain ⟨D, d1, d2, d3⟩ := cut32 (c.length / 32) c (by omega)
              have hgo : ∀ w, Calls Tryd.prog 9 #[.string (M.bs s)] w fun e w' => rdPost w a n D (goodB n D.length) e w' := fun w => rdec_go s w hs a b D n (by rw [d1]; exact hR) hbl hN ha d2 (by omega)
              cases hg : goodB n (c.length / 32) with
              | false =>
                refine Or.inl ⟨fun w => decode_C s w hs2 a b c hR hal2 hbl2 hcl2 (Or.inr ⟨n, [], hN, Or.inr (Or.inr (Or.inr hg))⟩), fun w => (hgo w).mono ?_⟩
                rintro e w' ⟨⟨pa, pc, he, _⟩, hb⟩
                rw [d3, hg, if_neg (by decide)] at he
                exact ⟨he, hb⟩
              | true =>
                have hg2 : goodB n D.length = true := by rw [d3]; exact hg
                have h8 : D.length ≤ 8 := by unfold goodB at hg2; simp only [decide_eq_true_eq] at hg2; unfold S.nch at hg2; omega
                refine Or.inr ⟨a, n, D, ha, d2, h8, fun w => decode_yes s w hs2 a b D n (by rw [d1]; exact hR) hbl2 hN ha d2 hg2, fun w => (hgo w).mono ?_⟩
                rintro e w' ⟨⟨pa, pc, he, hd⟩, hb⟩
                rw [hg2, if_pos rfl] at he
                exact ⟨pa, pc, he, hd, hb⟩
            · exact Or.inl ⟨fun w => decode_C s w hs2 a b c hR hal2 hbl2 hcl2 (Or.inr ⟨n, r2, hN, Or.inl hr2⟩), fun w => rdec_C s w hs a b c hR hal hbl hcl (Or.inr (Or.inr ⟨ha, hm, Or.inr ⟨n, r2, hN, hr2⟩⟩))⟩
        · refine Or.inl ⟨fun w => decode_C s w hs2 a b c hR hal2 hbl2 hcl2 ?_, fun w => rdec_C s w hs a b c hR hal hbl hcl (Or.inr (Or.inl ⟨ha, hm⟩))⟩
          cases hN : M.readNum b with
          | none => exact Or.inl rfl
          | some y => exact Or.inr ⟨y.1, y.2, rfl, Or.inr (Or.inr (Or.inl hm))⟩
      · refine Or.inl ⟨fun w => decode_C s w hs2 a b c hR hal2 hbl2 hcl2 ?_, fun w => rdec_C s w hs a b c hR hal hbl hcl (Or.inl ha)⟩
        cases hN : M.readNum b with
        | none => exact Or.inl rfl
        | some y => exact Or.inr ⟨y.1, y.2, rfl, Or.inr (Or.inl ha)⟩
end Go.Proofs.YtahdmhenkjbimaaDoor
