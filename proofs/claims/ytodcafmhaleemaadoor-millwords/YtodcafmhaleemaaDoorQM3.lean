/- A code behind a jump over anything: what it comes to. Codes that ask for no input. -/
import Derived.Test.YtodcafmhaleemaaDoorQM2
namespace Go.Proofs.YtodcafmhaleemaaDoor.Q

theorem parse_cons_some {s x : List UInt8} {l : List (List UInt8)} (h : parse s = some (x :: l)) : first s = some x ∧ parse (s.drop x.length) = some l := by
  by_cases h0 : s = []
  · subst h0; rw [parse_nil] at h; cases h
  · rw [parse_cons h0] at h
    cases hf : first s with
    | none => rw [hf] at h; cases h
    | some y =>
      rw [hf] at h
      simp only at h
      cases hp : parse (s.drop y.length) with
      | none => rw [hp] at h; cases h
      | some r =>
        rw [hp] at h
        simp only [Option.map_some, Option.some.injEq, List.cons.injEq] at h
        obtain ⟨rfl, rfl⟩ := h
        exact ⟨rfl, hp⟩
theorem parse_nil_some {s : List UInt8} (h : parse s = some []) : s = [] := by
  have := (parse_some h).1
  simpa using this.symm
def up (R : Re) : Re := ⟨R.code, R.blob, R.n + 1⟩
theorem top_up (st : List (List UInt8)) (p q n : Nat) : top ⟨st, p, n + 1⟩ = up (top ⟨st, q, n⟩) := by
  cases st <;> rfl
/-- a step that is no jump -/
def plain (s : List UInt8) : Prop := s.getD 0 0 ≠ 106 ∧ s.getD 0 0 ≠ 103
theorem next_plain {m : Ms} {s : List UInt8} (h : plain s) : next m s = m.place + s.length := by
  unfold next; rw [if_neg h.2, if_neg h.1]
theorem sim (code pre : List UInt8) (ins : List (List UInt8)) (hc : code.length ≤ 64) : ∀ (l : List (List UInt8)) (st : List (List UInt8)) (p n k k' : Nat), parse (code.drop p) = some l → (∀ s ∈ l, plain s) → p ≤ code.length → n ≤ p → code.length - p < k → code.length - p < k' →
    runF (pre ++ code) ins k' ⟨st, pre.length + p, n + 1⟩ = up (runF code ins k ⟨st, p, n⟩) := by
  intro l
  induction l with
  | nil =>
    intro st p n k k' hp _ hpl hn hk hk'
    have h0 := parse_nil_some hp
    have hpe : p = code.length := by
      have := congrArg List.length h0
      rw [List.length_drop] at this
      simp at this; omega
    obtain ⟨k, rfl⟩ : ∃ j, k = j + 1 := ⟨k - 1, by omega⟩
    obtain ⟨k', rfl⟩ : ∃ j, k' = j + 1 := ⟨k' - 1, by omega⟩
    unfold runF
    rw [if_pos (show pre.length + p = (pre ++ code).length by rw [List.length_append, hpe]), if_pos hpe]
    exact top_up _ _ _ _
  | cons s l ih =>
    intro st p n k k' hp hpl hple hn hk hk'
    obtain ⟨hf, hr⟩ := parse_cons_some hp
    have hsl := (first_some hf).2.1
    have hs0 := first_len hf
    rw [List.length_drop] at hsl
    rw [List.drop_drop] at hr
    obtain ⟨k, rfl⟩ : ∃ j, k = j + 1 := ⟨k - 1, by omega⟩
    obtain ⟨k', rfl⟩ : ∃ j, k' = j + 1 := ⟨k' - 1, by omega⟩
    have e1 : stepAt code p = some s := hf
    have e2 : stepAt (pre ++ code) (pre.length + p) = some s := by
      unfold stepAt
      rw [List.drop_append, List.drop_of_length_le (by omega), List.nil_append, Nat.add_sub_cancel_left]
      exact hf
    have hps := hpl s (by simp)
    unfold runF
    rw [if_neg (show ¬ pre.length + p = (pre ++ code).length by rw [List.length_append]; omega), if_neg (show ¬ p = code.length by omega)]
    simp only [e1, e2]
    rw [if_neg (show ¬ 300 ≤ n + 1 by omega), if_neg (show ¬ 300 ≤ n by omega)]
    have a1 : (step ins ⟨st, pre.length + p, n + 1⟩ s).1 = (act ins st s).1 := rfl
    have a2 : (step ins ⟨st, p, n⟩ s).1 = (act ins st s).1 := rfl
    rw [a1, a2]
    by_cases h0 : (act ins st s).1 = 0
    · rw [if_pos h0, if_pos h0]
      have b1 : (step ins ⟨st, pre.length + p, n + 1⟩ s).2 = ⟨(act ins st s).2, pre.length + (p + s.length), n + 1 + 1⟩ := by
        unfold step; simp only [next_plain hps]; rw [Nat.add_assoc]
      have b2 : (step ins ⟨st, p, n⟩ s).2 = ⟨(act ins st s).2, p + s.length, n + 1⟩ := by
        unfold step; simp only [next_plain hps]
      rw [b1, b2]
      exact ih _ _ _ _ _ hr (fun x hx => hpl x (by simp [hx])) (by omega) (by omega) (by omega) (by omega)
    · rw [if_neg h0, if_neg h0]
      rfl
theorem run_jump (code junk : List UInt8) (ins : List (List UInt8)) (l : List (List UInt8)) (z : UInt8) (hz : z.toNat = 2 + junk.length) (hl : 2 + junk.length + code.length ≤ 64) (hp : parse code = some l) (hpl : ∀ s ∈ l, plain s) :
    (run code ins = ⟨4, [], 0⟩ ∧ run (103 :: z :: (junk ++ code)) ins = ⟨4, [], 0⟩) ∨ ((run code ins).code ≠ 4 ∧ run (103 :: z :: (junk ++ code)) ins = up (run code ins)) := by
  by_cases hb : 4 < ins.length ∨ ins.any (fun t => decide (512 < t.length)) = true
  · left
    constructor
    · unfold run; rw [if_pos (Or.inr hb)]
    · unfold run; rw [if_pos (Or.inr hb)]
  · right
    have hc : code.length ≤ 64 := by omega
    have e1 : run code ins = runF code ins 301 ⟨[], 0, 0⟩ := by
      unfold run; rw [if_neg]; rintro (h | h)
      · omega
      · exact hb h
    have e2 : run (103 :: z :: (junk ++ code)) ins = runF (103 :: z :: (junk ++ code)) ins 301 ⟨[], 0, 0⟩ := by
      unfold run; rw [if_neg]; rintro (h | h)
      · simp at h; omega
      · exact hb h
    have hst : stepAt (103 :: z :: (junk ++ code)) 0 = some [103, z] := by
      unfold stepAt first
      have hw : width (103 :: z :: (junk ++ code)) = 2 := by unfold width; simp [one, two]
      rw [List.drop_zero, if_neg (by simp), hw, if_neg (by simp)]; rfl
    have e3 : runF (103 :: z :: (junk ++ code)) ins 301 ⟨[], 0, 0⟩ = runF (103 :: z :: (junk ++ code)) ins 300 ⟨[], 2 + junk.length, 1⟩ := by
      conv => lhs; unfold runF
      rw [if_neg (by simp)]
      simp only [hst]
      rw [if_neg (by omega)]
      have s1 : (step ins ⟨[], 0, 0⟩ [103, z]).1 = 0 := by unfold step act; simp
      have s2 : (step ins ⟨[], 0, 0⟩ [103, z]).2 = ⟨[], 2 + junk.length, 1⟩ := by unfold step act next; simp [hz]
      rw [s1, s2, if_pos rfl]
    have e4 := sim code (103 :: z :: junk) ins hc l [] 0 0 301 300 (by simpa using hp) hpl (by omega) (by omega) (by omega) (by omega)
    have e5 : (103 :: z :: junk) ++ code = 103 :: z :: (junk ++ code) := rfl
    have e6 : (103 :: z :: junk).length + 0 = 2 + junk.length := by simp; omega
    rw [e5, e6] at e4
    refine ⟨?_, by rw [e1, e2, e3, e4]⟩
    rw [e1]
    intro h4
    have hk : ∀ (k : Nat) (m : Ms), (runF code ins k m).code ≠ 4 := by
      intro k
      induction k with
      | zero => intro m; unfold runF; simp
      | succ k ih =>
        intro m
        unfold runF
        by_cases h1 : m.place = code.length
        · rw [if_pos h1]; obtain ⟨st, p, n⟩ := m; cases st <;> simp [top]
        · rw [if_neg h1]
          cases hs : stepAt code m.place with
          | none => simp
          | some s =>
            simp only
            by_cases h2 : 300 ≤ m.n
            · rw [if_pos h2]; simp
            · rw [if_neg h2]
              by_cases h3 : (step ins m s).1 = 0
              · rw [if_pos h3]; exact ih _
              · rw [if_neg h3]
                have hc' : isC (step ins m s).1 := act_c ins m.st s
                simp only
                rcases hc' with h | h | h | h <;> rw [h] <;> decide
    exact hk _ _ h4

/-- a code that has no byte 'i' hangs on no input -/
theorem act_blind {a b st : List (List UInt8)} {s : List UInt8} (h : s.getD 0 0 ≠ 105) : act a st s = act b st s := by
  unfold act
  simp only
  rw [if_neg h, if_neg h]
theorem stepAt_head {code s : List UInt8} {p : Nat} (h : stepAt code p = some s) : s.getD 0 0 ∈ code := by
  have h1 := first_app h
  have h0 := first_len h
  rcases s with _ | ⟨c, s⟩
  · simp at h0
  · have : c ∈ code.drop p := by rw [h1]; simp
    exact List.mem_of_mem_drop this
theorem runF_blind (code : List UInt8) (a b : List (List UInt8)) (hi : ∀ c ∈ code, c ≠ 105) : ∀ (k : Nat) (m : Ms), runF code a k m = runF code b k m := by
  intro k
  induction k with
  | zero => intro m; rfl
  | succ k ih =>
    intro m
    unfold runF
    by_cases h1 : m.place = code.length
    · rw [if_pos h1, if_pos h1]
    · rw [if_neg h1, if_neg h1]
      cases hs : stepAt code m.place with
      | none => rfl
      | some s =>
        have hh : s.getD 0 0 ≠ 105 := hi _ (stepAt_head hs)
        have e : step a m s = step b m s := by unfold step; rw [act_blind (a := a) (b := b) hh]
        simp only [e, ih]
theorem run_blind (code : List UInt8) (a b : List (List UInt8)) (hi : ∀ c ∈ code, c ≠ 105) (ha : a.length ≤ 4) (hb : b.length ≤ 4) (hal : ∀ t ∈ a, t.length ≤ 512) (hbl : ∀ t ∈ b, t.length ≤ 512) : run code a = run code b := by
  have ea : a.any (fun t => decide (512 < t.length)) = false := by rw [List.any_eq_false]; intro t ht; have := hal t ht; simp; omega
  have eb : b.any (fun t => decide (512 < t.length)) = false := by rw [List.any_eq_false]; intro t ht; have := hbl t ht; simp; omega
  unfold run
  by_cases h : 64 < code.length
  · rw [if_pos (Or.inl h), if_pos (Or.inl h)]
  · rw [if_neg, if_neg]
    · exact runF_blind code a b hi _ _
    · rintro (h' | h' | h')
      · exact h h'
      · omega
      · rw [eb] at h'; cases h'
    · rintro (h' | h' | h')
      · exact h h'
      · omega
      · rw [ea] at h'; cases h'
end Go.Proofs.YtodcafmhaleemaaDoor.Q
