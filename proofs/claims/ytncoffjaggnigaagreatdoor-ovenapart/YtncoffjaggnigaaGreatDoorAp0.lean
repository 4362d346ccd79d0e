/- Keys apart, on lists. -/
import Derived.Test.YtncoffjaggnigaaGreatDoorOMath
import Derived.Test.YtncoffjaggnigaaGreatDoorMath
namespace Go.Proofs.YtncoffjaggnigaaGreatDoor.O
set_option linter.unusedVariables false
set_option linter.unusedSimpArgs false

/-- a result without the blob that plays no part -/
def strip (r : Re) : Re := if r.1 = 0 then r else (r.1, [])
theorem told_strip (r : Re) : told (strip r) = told r := by
  unfold strip
  split
  · rfl
  · rename_i h
    unfold told
    rw [if_neg h, if_neg (by simpa using h)]
theorem numB_inj9 {n m : Int} (h1 : -9223372036854775808 ≤ n ∧ n ≤ 9223372036854775807) (h2 : -9223372036854775808 ≤ m ∧ m ≤ 9223372036854775807) (h : M.numB n = M.numB m) : n = m := by
  have a := M.readNum_numB n h1.1 (by omega) []
  have b := M.readNum_numB m h2.1 (by omega) []
  rw [h, b] at a
  simp only [Option.some.injEq, Prod.mk.injEq, and_true] at a
  exact a.symm
theorem rowB_inj9 {l m : List (List UInt8)} (h1 : l.length ≤ 1000) (h2 : m.length ≤ 1000) (h3 : ∀ t ∈ l, t.length ≤ 2000000) (h4 : ∀ t ∈ m, t.length ≤ 2000000) (h : M.rowB l = M.rowB m) : l = m := by
  have a := M.readRow_rowB l [] 1000 (by omega) (fun t ht => by have := h3 t ht; omega) (by omega)
  have b := M.readRow_rowB m [] 1000 (by omega) (fun t ht => by have := h4 t ht; omega) (by omega)
  rw [h, b] at a
  simp only [Option.some.injEq, Prod.mk.injEq, and_true] at a
  exact a.symm
theorem keyR_of {ca cb : List UInt8} {la lb : List Re} (h : ca = cb) (h2 : la.map strip = lb.map strip) : keyR ca la = keyR cb lb := by
  subst h
  have e : ∀ l : List Re, l.map told = (l.map strip).map told := fun l => by simp [told_strip]
  unfold keyR
  rw [e la, e lb, h2]
theorem keyR_parts {ca cb : List UInt8} {la lb : List Re} (h : keyR ca la = keyR cb lb) : ca = cb ∧ la.map told = lb.map told := by
  unfold keyR at h
  simp at h
  exact h
/-- numbers that an int holds -/
def In64 (r : Re) : Prop := -9223372036854775808 ≤ r.1 ∧ r.1 ≤ 9223372036854775807
theorem strip_of {r s : Re} (hr : In64 r) (hs : In64 s) (inj : S.sha r.2 = S.sha s.2 → r.2 = s.2) (h : told r = told s) : strip r = strip s := by
  unfold told at h
  unfold strip
  by_cases h1 : r.1 = 0
  · by_cases h2 : s.1 = 0
    · rw [if_pos h1, if_pos h2] at h
      rw [if_pos h1, if_pos h2]
      exact Prod.ext (by rw [h1, h2]) (inj (List.cons.inj h).2)
    · rw [if_pos h1, if_neg h2] at h
      have := (List.cons.inj h).1
      exact absurd this (by decide)
  · by_cases h2 : s.1 = 0
    · rw [if_neg h1, if_pos h2] at h
      have := (List.cons.inj h).1
      exact absurd this (by decide)
    · rw [if_neg h1, if_neg h2] at h
      rw [if_neg h1, if_neg h2, numB_inj9 hr hs (List.cons.inj h).2]
theorem map_strip : ∀ {la lb : List Re}, (∀ r ∈ la, In64 r) → (∀ r ∈ lb, In64 r) → (∀ r ∈ la, ∀ s ∈ lb, S.sha r.2 = S.sha s.2 → r.2 = s.2) → la.map told = lb.map told → la.map strip = lb.map strip
  | [], [], _, _, _, _ => rfl
  | [], s :: lb, _, _, _, h => by simp at h
  | r :: la, [], _, _, _, h => by simp at h
  | r :: la, s :: lb, h1, h2, h3, h => by
    simp only [List.map_cons, List.cons.injEq] at h ⊢
    exact ⟨strip_of (h1 r (by simp)) (h2 s (by simp)) (h3 r (by simp) s (by simp)) h.1, map_strip (fun x hx => h1 x (by simp [hx])) (fun x hx => h2 x (by simp [hx])) (fun x hx y hy => h3 x (by simp [hx]) y (by simp [hy])) h.2⟩
/-- whether two makings are alike, as far as the law has looked -/
def smB (ca cb : List UInt8) (la lb : List Re) (k : Nat) : Bool := decide (ca = cb ∧ la.length = lb.length ∧ (la.map strip).take k = (lb.map strip).take k)
theorem smB_zero (ca cb : List UInt8) (la lb : List Re) : smB ca cb la lb 0 = (decide (ca = cb) && decide (la.length = lb.length)) := by
  unfold smB
  rw [Bool.eq_iff_iff]; simp
theorem smB_succ {ca cb : List UInt8} {la lb : List Re} {k : Nat} {s : Re} (h : lb[k]? = some s) : smB ca cb la lb (k + 1) = (smB ca cb la lb k && (match la[k]? with | some r => decide (strip r = strip s) | none => false)) := by
  have hk := (List.getElem?_eq_some_iff.1 h).1
  unfold smB
  rw [Bool.eq_iff_iff]
  simp only [Bool.and_eq_true, decide_eq_true_eq]
  have hb : (lb.map strip).take (k + 1) = (lb.map strip).take k ++ [strip s] := by rw [List.take_add_one, List.getElem?_map, h]; rfl
  cases hl : la[k]? with
  | none =>
    have : la.length ≤ k := by
      rcases Nat.lt_or_ge k la.length with h' | h'
      · rw [List.getElem?_eq_getElem h'] at hl; cases hl
      · exact h'
    simp only [Bool.false_eq_true, and_false, iff_false]
    rintro ⟨_, h2, _⟩
    omega
  | some r =>
    have hk2 := (List.getElem?_eq_some_iff.1 hl).1
    have ha : (la.map strip).take (k + 1) = (la.map strip).take k ++ [strip r] := by rw [List.take_add_one, List.getElem?_map, hl]; rfl
    simp only [decide_eq_true_eq]
    rw [ha, hb]
    constructor
    · rintro ⟨h1, h2, h3⟩
      have h4 := List.append_inj' h3 rfl
      exact ⟨⟨h1, h2, h4.1⟩, by simpa using h4.2⟩
    · rintro ⟨⟨h1, h2, h3⟩, h4⟩
      exact ⟨h1, h2, by rw [h3, h4]⟩
theorem smB_all (ca cb : List UInt8) (la lb : List Re) : smB ca cb la lb lb.length = decide (ca = cb ∧ la.map strip = lb.map strip) := by
  unfold smB
  rw [decide_eq_decide]
  constructor
  · rintro ⟨h1, h2, h3⟩
    rw [List.take_of_length_le (by simp; omega), List.take_of_length_le (by simp)] at h3
    exact ⟨h1, h3⟩
  · rintro ⟨h1, h2⟩
    have h3 : la.length = lb.length := by simpa using congrArg List.length h2
    exact ⟨h1, h3, by rw [h2]⟩
end Go.Proofs.YtncoffjaggnigaaGreatDoor.O
