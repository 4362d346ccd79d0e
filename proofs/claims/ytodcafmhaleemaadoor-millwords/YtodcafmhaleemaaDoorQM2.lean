/- What every code comes to: a bound of steps, a blob or a code. -/
import Derived.Test.YtodcafmhaleemaaDoorT12
namespace Go.Proofs.YtodcafmhaleemaaDoor.Q

/-- the codes that a step can answer -/
def isC (c : Nat) : Prop := c = 0 ∨ c = 31 ∨ c = 32 ∨ c = 33
theorem put_c (st : List (List UInt8)) (t : List UInt8) : isC (put st t).1 := by
  unfold put isC
  split
  · simp
  · split <;> simp
theorem change_c (f) (st : List (List UInt8)) : isC (change f st).1 := by
  rcases st with _ | ⟨t, r⟩
  · simp [change, isC]
  · exact put_c _ _
theorem fold_c (f) (st : List (List UInt8)) : isC (fold f st).1 := by
  rcases st with _ | ⟨t, r⟩
  · simp [fold, isC]
  · exact change_c _ _
theorem double_c (st : List (List UInt8)) : isC (double st).1 := by
  rcases st with _ | ⟨t, r⟩
  · simp [double, isC]
  · exact put_c _ _
theorem swap_c (st : List (List UInt8)) : isC (swap st).1 := by
  rcases st with _ | ⟨t, _ | ⟨u, r⟩⟩ <;> simp [swap, isC]
theorem drop_c (st : List (List UInt8)) : isC (drop st).1 := by
  rcases st with _ | ⟨t, r⟩ <;> simp [drop, isC]
theorem ite_c {p : Prop} [Decidable p] {a b : Nat × List (List UInt8)} (ha : isC a.1) (hb : isC b.1) : isC (if p then a else b).1 := by
  by_cases h : p
  · rw [if_pos h]; exact ha
  · rw [if_neg h]; exact hb
theorem act_c (ins st : List (List UInt8)) (s : List UInt8) : isC (act ins st s).1 := by
  unfold act
  simp only
  repeat' first | exact put_c _ _ | exact fold_c _ _ | exact double_c _ | exact swap_c _ | exact drop_c _ | exact change_c _ _ | exact (by simp [isC] : isC 32) | exact (by simp [isC] : isC 0) | refine ite_c ?_ ?_

/-- what a code comes to is a blob or a code, in at most 300 steps -/
structure Good (R : Re) : Prop where
  n : R.n ≤ 300
  l : R.blob.length ≤ 512
  e : R.code ≠ 0 → R.blob = []
  c : R.code = 0 ∨ R.code = 4 ∨ R.code = 31 ∨ R.code = 32 ∨ R.code = 30 ∨ R.code = 33
  f : R.code = 30 → R.n = 300
theorem good_top {m : Ms} (hn : m.n ≤ 300) (ho : Oks m.st) : Good (top m) := by
  obtain ⟨st, p, n⟩ := m
  rcases st with _ | ⟨t, st⟩
  · exact ⟨hn, by simp [top], fun _ => rfl, by simp [top], fun h => by simp [top] at h⟩
  · exact ⟨hn, ho.2 t (by simp), fun h => absurd rfl h, by simp [top], fun h => by simp [top] at h⟩
theorem good_runF (code : List UInt8) (ins : List (List UInt8)) : ∀ (k : Nat) (m : Ms), m.n + k = 301 → 0 < k → Oks m.st → Good (runF code ins k m) := by
  intro k
  induction k with
  | zero => intro m _ h; omega
  | succ k ih =>
    intro m hk _ ho
    unfold runF
    by_cases h1 : m.place = code.length
    · rw [if_pos h1]; exact good_top (by omega) ho
    · rw [if_neg h1]
      cases hs : stepAt code m.place with
      | none => exact ⟨by simp; omega, by simp, fun _ => rfl, by simp, fun h => by simp at h⟩
      | some s =>
        simp only
        by_cases h2 : 300 ≤ m.n
        · rw [if_pos h2]; exact ⟨by simp; omega, by simp, fun _ => rfl, by simp, fun _ => by simp; omega⟩
        · rw [if_neg h2]
          by_cases h3 : (step ins m s).1 = 0
          · rw [if_pos h3]
            refine ih _ ?_ (by omega) (act_ok ho s)
            show m.n + 1 + k = 301
            omega
          · rw [if_neg h3]
            have hc := act_c ins m.st s
            have hc' : isC (step ins m s).1 := hc
            refine ⟨by show m.n + 1 ≤ 300; omega, by simp, fun _ => rfl, ?_, fun h => ?_⟩
            · simp only
              rcases hc' with h | h | h | h <;> simp [h]
            · simp only at h
              rcases hc' with h' | h' | h' | h' <;> rw [h'] at h <;> omega
theorem good_run (code : List UInt8) (ins : List (List UInt8)) : Good (run code ins) := by
  unfold run
  split
  · exact ⟨by simp, by simp, fun _ => rfl, by simp, fun h => by simp at h⟩
  · exact good_runF code ins 301 _ rfl (by omega) ⟨by simp, fun t ht => by cases ht⟩
end Go.Proofs.YtodcafmhaleemaaDoor.Q
