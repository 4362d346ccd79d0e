/- A code on lists: what its steps are, what they do, what it comes to. No program is named here. -/
import Derived.Test.YtjbffhdccgmfpaaGreatDoorSMath
import Derived.Shelf.Strconv.Itoa3
namespace Go.Proofs.YtjbffhdccgmfpaaGreatDoor.Q

def one (c : UInt8) : Bool := c == 99 || c == 100 || c == 115 || c == 120 || c == 114 || c == 104 || c == 108 || c == 61
def two (c : UInt8) : Bool := c == 105 || c == 116 || c == 107 || c == 106 || c == 103
/-- how many bytes the step has with which a text begins -/
def width (s : List UInt8) : Nat :=
  if one (s.getD 0 0) then 1 else if two (s.getD 0 0) then 2 else if s.getD 0 0 == 112 then (if s.length < 2 then 2 else 2 + (s.getD 1 0).toNat) else 0
/-- the step with which a text begins -/
def first (s : List UInt8) : Option (List UInt8) :=
  if s = [] then none else if width s = 0 ∨ s.length < width s then none else some (s.take (width s))
/-- the step at a place -/
def stepAt (code : List UInt8) (k : Nat) : Option (List UInt8) := first (code.drop k)

/-- a text's steps -/
def parseF : Nat → List UInt8 → Option (List (List UInt8))
  | 0, _ => some []
  | k + 1, s => if s = [] then some [] else match first s with
    | none => none
    | some x => (parseF k (s.drop x.length)).map (x :: ·)
def parse (s : List UInt8) : Option (List (List UInt8)) := parseF s.length s

theorem first_some {s x : List UInt8} (h : first s = some x) : x ≠ [] ∧ x.length ≤ s.length ∧ x = s.take x.length := by
  unfold first at h
  by_cases h0 : s = []
  · rw [if_pos h0] at h; cases h
  · rw [if_neg h0] at h
    by_cases h1 : width s = 0 ∨ s.length < width s
    · rw [if_pos h1] at h; cases h
    · rw [if_neg h1] at h
      have h1' : ¬ width s = 0 ∧ ¬ s.length < width s := ⟨fun e => h1 (Or.inl e), fun e => h1 (Or.inr e)⟩
      cases h
      have hl : (s.take (width s)).length = width s := by rw [List.length_take]; omega
      refine ⟨fun e => ?_, by omega, by rw [hl]⟩
      rw [e] at hl
      have : width s = 0 := by simpa using hl.symm
      exact h1'.1 this
theorem first_app {s x : List UInt8} (h : first s = some x) : s = x ++ s.drop x.length := by
  obtain ⟨_, _, h3⟩ := first_some h
  conv => lhs; rw [← List.take_append_drop x.length s]
  rw [← h3]
theorem first_len {s x : List UInt8} (h : first s = some x) : 0 < x.length := by
  have := (first_some h).1
  rcases x with _ | ⟨c, x⟩
  · exact absurd rfl this
  · simp

theorem parseF_fuel : ∀ (k : Nat) (s : List UInt8), s.length ≤ k → parseF k s = parse s := by
  have key : ∀ (n : Nat) (s : List UInt8), s.length ≤ n → ∀ k, s.length ≤ k → ∀ j, s.length ≤ j → parseF k s = parseF j s := by
    intro n
    induction n with
    | zero =>
      intro s hs k _ j _
      have : s = [] := List.length_eq_zero_iff.1 (by omega)
      subst this
      cases k <;> cases j <;> simp [parseF]
    | succ n ih =>
      intro s hs k hk j hj
      by_cases h0 : s = []
      · subst h0
        cases k <;> cases j <;> simp [parseF]
      · have hl : 0 < s.length := by
          rcases s with _ | ⟨c, s⟩
          · exact absurd rfl h0
          · simp
        obtain ⟨k, rfl⟩ : ∃ k', k = k' + 1 := ⟨k - 1, by omega⟩
        obtain ⟨j, rfl⟩ : ∃ j', j = j' + 1 := ⟨j - 1, by omega⟩
        unfold parseF
        rw [if_neg h0, if_neg h0]
        cases hf : first s with
        | none => rfl
        | some x =>
          have := first_len hf
          have hd : (s.drop x.length).length ≤ s.length - 1 := by rw [List.length_drop]; omega
          simp only
          rw [ih (s.drop x.length) (by omega) k (by omega) j (by omega)]
  intro k s h
  exact key s.length s (Nat.le_refl _) k h s.length (Nat.le_refl _)
theorem parse_nil : parse [] = some [] := rfl
theorem parse_cons {s : List UInt8} (h0 : s ≠ []) : parse s = match first s with | none => none | some x => (parse (s.drop x.length)).map (x :: ·) := by
  have hl : 0 < s.length := by
    rcases s with _ | ⟨c, s⟩
    · exact absurd rfl h0
    · simp
  obtain ⟨k, hk⟩ : ∃ k', s.length = k' + 1 := ⟨s.length - 1, by omega⟩
  have e : parse s = parseF (k + 1) s := by unfold parse; rw [hk]
  rw [e]
  unfold parseF
  rw [if_neg h0]
  cases hf : first s with
  | none => rfl
  | some x =>
    simp only
    have := first_len hf
    rw [parseF_fuel k (s.drop x.length) (by rw [List.length_drop]; omega)]
theorem parse_some {s : List UInt8} {l : List (List UInt8)} (h : parse s = some l) : l.flatten = s ∧ ∀ x ∈ l, x ≠ [] := by
  generalize hn : s.length = n
  induction n using Nat.strongRecOn generalizing s l with
  | ind n ih =>
    by_cases h0 : s = []
    · subst h0; rw [parse_nil] at h; cases h; simp
    · rw [parse_cons h0] at h
      cases hf : first s with
      | none => rw [hf] at h; cases h
      | some x =>
        rw [hf] at h
        simp only at h
        have hx := first_len hf
        cases hp : parse (s.drop x.length) with
        | none => rw [hp] at h; cases h
        | some r =>
          rw [hp] at h
          simp only [Option.map_some, Option.some.injEq] at h
          subst h
          have hs : 0 < s.length := by have := (first_some hf).2.1; omega
          obtain ⟨h1, h2⟩ := ih (s.drop x.length).length (by rw [List.length_drop]; omega) hp rfl
          refine ⟨?_, ?_⟩
          · rw [List.flatten_cons, h1]; exact (first_app hf).symm
          · intro y hy
            rcases List.mem_cons.1 hy with rfl | hy
            · exact (first_some hf).1
            · exact h2 y hy

/-- a code that is run: its stack (the top first), the place, how many steps were done -/
structure Ms where
  st : List (List UInt8)
  place : Nat
  n : Nat
def put (st : List (List UInt8)) (t : List UInt8) : Nat × List (List UInt8) := if 8 ≤ st.length then (31, st) else if 512 < t.length then (33, st) else (0, t :: st)
def change (f : List UInt8 → List UInt8) : List (List UInt8) → Nat × List (List UInt8)
  | [] => (31, [])
  | t :: r => put r (f t)
def fold (f : List UInt8 → List UInt8 → List UInt8) : List (List UInt8) → Nat × List (List UInt8)
  | [] => (31, [])
  | t :: r => change (fun x => f x t) r
def double : List (List UInt8) → Nat × List (List UInt8)
  | [] => (31, [])
  | t :: r => put (t :: r) t
def swap : List (List UInt8) → Nat × List (List UInt8)
  | a :: b :: r => (0, b :: a :: r)
  | l => (31, l)
def drop : List (List UInt8) → Nat × List (List UInt8)
  | [] => (31, [])
  | _ :: r => (0, r)
def cmp (a b : List UInt8) : List UInt8 := if a = b then [49] else []
def len (a : List UInt8) : List UInt8 := Lib.itoa (a.length : Int)
def isE : List (List UInt8) → Bool
  | [] :: _ => true
  | _ => false
/-- what a step does to the stack -/
def act (ins : List (List UInt8)) (st : List (List UInt8)) (s : List UInt8) : Nat × List (List UInt8) :=
  let c := s.getD 0 0
  let k := (s.getD 1 0).toNat
  if c = 105 then (if ins.length ≤ k then (32, st) else put st (ins.getD k []))
  else if c = 112 then put st (s.drop 2)
  else if c = 99 then fold (fun a b => a ++ b) st
  else if c = 100 then double st
  else if c = 115 then swap st
  else if c = 120 then drop st
  else if c = 114 then change List.reverse st
  else if c = 104 then change S.sha st
  else if c = 108 then change len st
  else if c = 116 then change (fun t => t.take k) st
  else if c = 107 then change (fun t => t.drop k) st
  else if c = 61 then fold cmp st
  else if c = 106 then drop st
  else if c = 103 then (0, st)
  else (32, st)
/-- where it goes on -/
def next (m : Ms) (s : List UInt8) : Nat :=
  if s.getD 0 0 = 103 then (s.getD 1 0).toNat else if s.getD 0 0 = 106 then (if isE m.st then (s.getD 1 0).toNat else m.place + s.length) else m.place + s.length
def step (ins : List (List UInt8)) (m : Ms) (s : List UInt8) : Nat × Ms := ((act ins m.st s).1, ⟨(act ins m.st s).2, next m s, m.n + 1⟩)
/-- what a code comes to: its code, its blob, its steps -/
structure Re where
  code : Nat
  blob : List UInt8
  n : Nat
def top (m : Ms) : Re := match m.st with
  | [] => ⟨31, [], m.n⟩
  | t :: _ => ⟨0, t, m.n⟩
def runF (code : List UInt8) (ins : List (List UInt8)) : Nat → Ms → Re
  | 0, m => ⟨30, [], m.n⟩
  | k + 1, m => if m.place = code.length then top m else match stepAt code m.place with
    | none => ⟨32, [], m.n⟩
    | some s => if 300 ≤ m.n then ⟨30, [], m.n⟩ else if (step ins m s).1 = 0 then runF code ins k (step ins m s).2 else ⟨(step ins m s).1, [], (step ins m s).2.n⟩
def run (code : List UInt8) (ins : List (List UInt8)) : Re :=
  if 64 < code.length ∨ 4 < ins.length ∨ ins.any (fun t => decide (512 < t.length)) = true then ⟨4, [], 0⟩ else runF code ins 301 ⟨[], 0, 0⟩

/-- what always holds of a code that is run -/
structure Ok (m : Ms) : Prop where
  n8 : m.st.length ≤ 8
  l : ∀ t ∈ m.st, t.length ≤ 512
  p : m.place ≤ 600
def Oks (st : List (List UInt8)) : Prop := st.length ≤ 8 ∧ ∀ t ∈ st, t.length ≤ 512
theorem Oks.tail {t : List UInt8} {st : List (List UInt8)} (h : Oks (t :: st)) : Oks st := ⟨by have := h.1; simp at this; omega, fun x hx => h.2 x (by simp [hx])⟩
theorem put_ok {st : List (List UInt8)} (h : Oks st) (t : List UInt8) : Oks (put st t).2 := by
  unfold put
  split
  · exact h
  · split
    · exact h
    · refine ⟨by simp; omega, fun x hx => ?_⟩
      rcases List.mem_cons.1 hx with rfl | hx
      · omega
      · exact h.2 x hx
theorem change_ok {st : List (List UInt8)} (h : Oks st) (f) : Oks (change f st).2 := by
  rcases st with _ | ⟨t, r⟩
  · exact h
  · exact put_ok h.tail _
theorem fold_ok {st : List (List UInt8)} (h : Oks st) (f) : Oks (fold f st).2 := by
  rcases st with _ | ⟨t, r⟩
  · exact h
  · exact change_ok h.tail _
theorem double_ok {st : List (List UInt8)} (h : Oks st) : Oks (double st).2 := by
  rcases st with _ | ⟨t, r⟩
  · exact h
  · exact put_ok h _
theorem swap_ok {st : List (List UInt8)} (h : Oks st) : Oks (swap st).2 := by
  rcases st with _ | ⟨t, _ | ⟨u, r⟩⟩
  · exact h
  · exact h
  · refine ⟨h.1, fun x hx => h.2 x ?_⟩
    have hx : x ∈ u :: t :: r := hx
    simp only [List.mem_cons] at hx ⊢
    rcases hx with e | e | e
    · exact Or.inr (Or.inl e)
    · exact Or.inl e
    · exact Or.inr (Or.inr e)
theorem drop_ok {st : List (List UInt8)} (h : Oks st) : Oks (drop st).2 := by
  rcases st with _ | ⟨t, r⟩
  · exact h
  · exact h.tail
theorem ite_ok {p : Prop} [Decidable p] {a b : Nat × List (List UInt8)} (ha : Oks a.2) (hb : Oks b.2) : Oks (if p then a else b).2 := by
  by_cases h : p
  · rw [if_pos h]; exact ha
  · rw [if_neg h]; exact hb
theorem act_ok {ins st : List (List UInt8)} (h : Oks st) (s : List UInt8) : Oks (act ins st s).2 := by
  unfold act
  simp only
  repeat' first | exact h | exact put_ok h _ | exact fold_ok h _ | exact double_ok h | exact swap_ok h | exact drop_ok h | exact change_ok h _ | refine ite_ok ?_ ?_
end Go.Proofs.YtjbffhdccgmfpaaGreatDoor.Q
