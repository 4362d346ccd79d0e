/- What comb.Decode answers, all in all; a manifest's bytes are its own. -/
import Derived.Test.YtahdmhenkjbimaaDoorK8
namespace Go.Proofs.YtahdmhenkjbimaaDoor
open Go.RowKit
set_option linter.unusedVariables false
set_option linter.unusedSimpArgs false

theorem cut32 : ∀ (k : Nat) (c : List UInt8), c.length = 32 * k → ∃ D : List (List UInt8), D.flatten = c ∧ (∀ d ∈ D, d.length = 32) ∧ D.length = k
  | 0, c, h => ⟨[], (List.length_eq_zero_iff.1 (by omega)).symm, by simp, rfl⟩
  | k + 1, c, h => by
    obtain ⟨D, h1, h2, h3⟩ := cut32 k (c.drop 32) (by rw [List.length_drop]; omega)
    refine ⟨c.take 32 :: D, by rw [List.flatten_cons, h1, List.take_append_drop], fun d hd => ?_, by simp [h3]⟩
    rcases List.mem_cons.1 hd with rfl | hd
    · rw [List.length_take]; omega
    · exact h2 d hd
theorem flat_inj : ∀ (P Q : List (List UInt8)), (∀ d ∈ P, d.length = 32) → (∀ d ∈ Q, d.length = 32) → P.flatten = Q.flatten → P = Q
  | [], [], _, _, _ => rfl
  | [], y :: Q, _, hQ, h => by
    have := congrArg List.length h
    rw [List.flatten_cons, List.length_append, hQ y (by simp), List.flatten_nil, List.length_nil] at this
    omega
  | x :: P, [], hP, _, h => by
    have := congrArg List.length h
    rw [List.flatten_cons, List.length_append, hP x (by simp), List.flatten_nil, List.length_nil] at this
    omega
  | x :: P, y :: Q, hP, hQ, h => by
    rw [List.flatten_cons, List.flatten_cons] at h
    obtain ⟨h1, h2⟩ := List.append_inj h (by rw [hP x (by simp), hQ y (by simp)])
    rw [h1, flat_inj P Q (fun d hd => hP d (by simp [hd])) (fun d hd => hQ d (by simp [hd])) h2]
theorem enc_read (wh : List UInt8) (sz : Int) (P : List (List UInt8)) (hw : wh.length = 32) (hP : P.flatten.length ≤ 1000) : M.readRow (encB wh sz P) 3 = some ([wh, M.numB sz, P.flatten], []) := by
  have := M.readRow_rowB [wh, M.numB sz, P.flatten] [] 3 (by simp) (fun t ht => by
    have := M.numB_len sz
    simp only [List.mem_cons, List.not_mem_nil, or_false] at ht
    rcases ht with rfl | rfl | rfl <;> omega) (by simp)
  rwa [List.append_nil] at this
theorem num_read (sz : Int) (h1 : -9223372036854775808 ≤ sz) (h2 : sz < 9223372036854775808) : M.readNum (M.numB sz) = some (sz, []) := by
  have := M.readNum_numB sz h1 h2 []
  rwa [List.append_nil] at this
theorem encB_inj (wh1 wh2 : List UInt8) (s1 s2 : Int) (P Q : List (List UInt8)) (h1 : wh1.length = 32) (h2 : wh2.length = 32) (hP : ∀ d ∈ P, d.length = 32) (hQ : ∀ d ∈ Q, d.length = 32) (hp : P.flatten.length ≤ 1000) (hq : Q.flatten.length ≤ 1000)
    (b1 : -9223372036854775808 ≤ s1 ∧ s1 < 9223372036854775808) (b2 : -9223372036854775808 ≤ s2 ∧ s2 < 9223372036854775808) (h : encB wh1 s1 P = encB wh2 s2 Q) : wh1 = wh2 ∧ s1 = s2 ∧ P = Q := by
  have e1 := enc_read wh1 s1 P h1 hp
  have e2 := enc_read wh2 s2 Q h2 hq
  rw [h, e2] at e1
  simp only [Option.some.injEq, Prod.mk.injEq, List.cons.injEq, and_true] at e1
  obtain ⟨g1, g2, g3⟩ := e1
  have n1 := num_read s1 b1.1 b1.2
  rw [← g2, num_read s2 b2.1 b2.2] at n1
  simp only [Option.some.injEq, Prod.mk.injEq, and_true] at n1
  exact ⟨g1.symm, n1.symm, flat_inj P Q hP hQ g3.symm⟩

/-- WHAT Decode ANSWERS -/
theorem Decode_any (s : List UInt8) (hs : s.length ≤ 9223372036854775807) :
    (∀ w, Calls Tryd.prog 8 #[.string (M.bs s)] w fun e w' => e = .returned (.tuple #[.agg zero34, .int .i64 3]) ∧ Below w.heap.size w w') ∨
    ∃ a n D, a.length = 32 ∧ (∀ d ∈ D, d.length = 32) ∧ goodB n D.length = true ∧ encB a n D = s ∧ ∀ w, Calls Tryd.prog 8 #[.string (M.bs s)] w fun e w' => ∃ pa pc, e = .returned (.tuple #[.agg (mv a n pa D.length pc), .int .i64 0]) ∧ Dgs w'.heap.size w' pa D ∧ Below w.heap.size w w' := by
  cases hR : M.readRow s 3 with
  | none => exact Or.inl fun w => decode_A s w hs hR
  | some x =>
    obtain ⟨l, r⟩ := x
    obtain ⟨e1, e2⟩ := M.readRow_some s l r 3 hR
    have hlen := congrArg List.length e1
    rw [List.length_append] at hlen
    have hl3 : l.length ≤ 3 := by omega
    by_cases hbad : r ≠ [] ∨ l.length ≠ 3
    · exact Or.inl fun w => decode_B s w hs l r hR hbad hl3 (by omega)
    · have hr : r = [] := Classical.byContradiction fun h => hbad (Or.inl h)
      have h3 : l.length = 3 := Classical.byContradiction fun h => hbad (Or.inr h)
      subst hr
      obtain ⟨a, b, c, rfl⟩ : ∃ a b c, l = [a, b, c] := by
        match l, h3 with
        | [a, b, c], _ => exact ⟨a, b, c, rfl⟩
      have hrow : (M.rowB [a, b, c]).length = (M.numB 3).length + ((M.numB a.length).length + a.length + ((M.numB b.length).length + b.length + ((M.numB c.length).length + c.length))) := by
        simp [M.rowB, M.textsB, M.textB]; omega
      have hal : a.length ≤ 9223372036854775807 := by omega
      have hbl : b.length ≤ 9223372036854775807 := by omega
      have hcl : c.length ≤ 9223372036854775807 := by omega
      cases hN : M.readNum b with
      | none => exact Or.inl fun w => decode_C s w hs a b c hR hal hbl hcl (Or.inl hN)
      | some y =>
        obtain ⟨n, r2⟩ := y
        by_cases hb2 : r2 ≠ [] ∨ a.length ≠ 32 ∨ c.length % 32 ≠ 0 ∨ goodB n (c.length / 32) = false
        · exact Or.inl fun w => decode_C s w hs a b c hR hal hbl hcl (Or.inr ⟨n, r2, hN, hb2⟩)
        · have hr2 : r2 = [] := Classical.byContradiction fun h => hb2 (Or.inl h)
          have ha : a.length = 32 := Classical.byContradiction fun h => hb2 (Or.inr (Or.inl h))
          have hm : c.length % 32 = 0 := Classical.byContradiction fun h => hb2 (Or.inr (Or.inr (Or.inl h)))
          have hg : goodB n (c.length / 32) = true := by
            cases h : goodB n (c.length / 32) with
            | true => rfl
            | false => exact absurd (Or.inr (Or.inr (Or.inr h))) hb2
          subst hr2
          obtain ⟨D, d1, d2, d3⟩ := cut32 (c.length / 32) c (by omega)
          rw [← d3] at hg
          rw [← d1] at hR
          obtain ⟨f1, _, _⟩ := M.readNum_some _ _ _ hN
          refine Or.inr ⟨a, n, D, ha, d2, hg, ?_, fun w => decode_yes s w hs a b D n hR hbl hN ha d2 hg⟩
          unfold encB
          rw [d1]
          rw [List.append_nil] at e1 f1
          rw [f1]
          exact e1
end Go.Proofs.YtahdmhenkjbimaaDoor
