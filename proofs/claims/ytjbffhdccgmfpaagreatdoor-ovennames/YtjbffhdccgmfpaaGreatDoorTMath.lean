/- What of a build stands on what, on lists: sets of names as bits, the order laid one by one, what an action needs. No program is named here. -/
import Derived.Test.YtjbffhdccgmfpaaGreatDoorRMath
namespace Go.Proofs.YtjbffhdccgmfpaaGreatDoor.TR
open RC
set_option linter.unusedVariables false

/-- a build's names: the sources', then the actions' -/
def nm (g : Gr) : List Bs := g.1 ++ g.2.map (·.1)
/-- the number of a name -/
def pos (l : List Bs) (s : Bs) : Option Nat := l.findIdx? (fun x => decide (x = s))
def bit (l : List Bs) (s : Bs) : Nat := match pos l s with | some i => 2 ^ i | none => 0
def setOf (l xs : List Bs) : Nat := xs.foldl (fun a x => a ||| bit l x) 0

theorem pos_some {l : List Bs} {s : Bs} {i : Nat} (h : pos l s = some i) : l[i]? = some s ∧ i < l.length := by
  obtain ⟨hi, hp, _⟩ := List.findIdx?_eq_some_iff_getElem.1 h
  refine ⟨?_, hi⟩
  rw [List.getElem?_eq_getElem hi]
  exact congrArg some (by simpa using hp)
theorem pos_none {l : List Bs} {s : Bs} : pos l s = none ↔ s ∉ l := by
  unfold pos
  rw [List.findIdx?_eq_none_iff]
  constructor
  · intro h hs; have := h s hs; simp at this
  · intro h x hx
    have : x ≠ s := fun e => h (e ▸ hx)
    simp [this]
theorem pos_mem {l : List Bs} {s : Bs} (h : s ∈ l) : ∃ i, pos l s = some i := by
  cases hp : pos l s with
  | none => exact absurd h (pos_none.1 hp)
  | some i => exact ⟨i, rfl⟩
theorem getElem?_inj {l : List Bs} (hl : l.Nodup) {i j : Nat} {s : Bs} (hi : l[i]? = some s) (hj : l[j]? = some s) : i = j := by
  have h1 := (List.getElem?_eq_some_iff.1 hi).1
  exact (List.getElem?_inj h1 hl).1 (by rw [hi, hj])
theorem pos_of {l : List Bs} (hl : l.Nodup) {i : Nat} {s : Bs} (h : l[i]? = some s) : pos l s = some i := by
  obtain ⟨j, hj⟩ := pos_mem (List.mem_of_getElem? h)
  rw [hj, getElem?_inj hl (pos_some hj).1 h]
theorem nodup_of_pos {l : List Bs} (h : ∀ i x, l[i]? = some x → pos l x = some i) : l.Nodup := by
  unfold List.Nodup
  rw [List.pairwise_iff_getElem]
  intro i j hi hj hij he
  have h1 := h i l[i] (List.getElem?_eq_getElem hi)
  have h2 := h j l[j] (List.getElem?_eq_getElem hj)
  rw [he, h2] at h1
  simp at h1
  omega
theorem pos_app {l m : List Bs} {s : Bs} (h : s ∈ l) : pos (l ++ m) s = pos l s := by
  obtain ⟨i, hi⟩ := pos_mem h
  unfold pos at hi ⊢
  rw [List.findIdx?_append, hi]
  rfl

theorem bit_t {l : List Bs} {s : Bs} {i : Nat} : (bit l s).testBit i = true ↔ pos l s = some i := by
  unfold bit
  cases h : pos l s with
  | none => simp
  | some j => simp [Nat.testBit_two_pow]
theorem setF_t (l : List Bs) : ∀ (xs : List Bs) (a i : Nat), (xs.foldl (fun a x => a ||| bit l x) a).testBit i = true ↔ a.testBit i = true ∨ ∃ x ∈ xs, pos l x = some i
  | [], a, i => by simp
  | x :: xs, a, i => by
    rw [List.foldl_cons, setF_t l xs]
    simp only [Nat.testBit_or, Bool.or_eq_true, bit_t, List.mem_cons, exists_eq_or_imp]
    exact or_assoc
theorem setOf_t {l xs : List Bs} {i : Nat} : (setOf l xs).testBit i = true ↔ ∃ x ∈ xs, pos l x = some i := by
  unfold setOf
  rw [setF_t]; simp
theorem setOf_snoc (l xs : List Bs) (x : Bs) : setOf l (xs ++ [x]) = setOf l xs ||| bit l x := by
  unfold setOf
  rw [List.foldl_append]; rfl
theorem bit_lt (l : List Bs) (s : Bs) : bit l s < 2 ^ l.length := by
  unfold bit
  cases h : pos l s with
  | none => exact Nat.two_pow_pos _
  | some j => exact Nat.pow_lt_pow_right (by omega) (pos_some h).2
theorem setF_lt (l : List Bs) : ∀ (xs : List Bs) (a : Nat), a < 2 ^ l.length → xs.foldl (fun a x => a ||| bit l x) a < 2 ^ l.length
  | [], a, h => h
  | x :: xs, a, h => by rw [List.foldl_cons]; exact setF_lt l xs _ (Nat.or_lt_two_pow h (bit_lt l x))
theorem setOf_lt (l xs : List Bs) : setOf l xs < 2 ^ l.length := setF_lt l xs 0 (Nat.two_pow_pos _)
theorem lt32 {n k : Nat} (h : n < 2 ^ k) (hk : k ≤ 32) : n < 4294967296 := Nat.lt_of_lt_of_le h (Nat.le_trans (Nat.pow_le_pow_right (by omega) hk) (by decide))

/-- within, in bits -/
def sub (s o : Nat) : Bool := decide (s &&& o = s)
theorem sub_t {s o : Nat} : sub s o = true ↔ ∀ i, s.testBit i = true → o.testBit i = true := by
  unfold sub
  rw [decide_eq_true_eq]
  constructor
  · intro h i hi
    rw [← h] at hi
    simp at hi; exact hi.2
  · intro h
    apply Nat.eq_of_testBit_eq
    intro i
    rw [Nat.testBit_and]
    cases hi : s.testBit i with
    | false => rfl
    | true => rw [h i hi]; rfl
theorem and_zero {s o : Nat} : (s &&& o) = 0 ↔ ∀ i, ¬ (s.testBit i = true ∧ o.testBit i = true) := by
  constructor
  · intro h i hi
    have : (s &&& o).testBit i = true := by rw [Nat.testBit_and, hi.1, hi.2]; rfl
    rw [h] at this; simp at this
  · intro h
    apply Nat.eq_of_testBit_eq
    intro i
    rw [Nat.testBit_and, Nat.zero_testBit]
    have := h i
    cases h1 : s.testBit i <;> cases h2 : o.testBit i <;> simp_all
/-- within, as the program asks it -/
theorem sub_not {s o : Nat} (hs : s < 4294967296) (ho : o < 4294967296) : decide ((s &&& (4294967295 - o)) = 0) = sub s o := by
  have e : 4294967295 - o = 2 ^ 32 - (o + 1) := by omega
  rw [e]
  rw [Bool.eq_iff_iff, decide_eq_true_eq, and_zero, sub_t]
  constructor
  · intro h i hi
    have h1 := h i
    rw [Nat.testBit_two_pow_sub_succ (by exact ho)] at h1
    have h32 : i < 32 := by
      refine Classical.byContradiction fun hc => ?_
      have := Nat.testBit_lt_two_pow (x := s) (i := i) (Nat.lt_of_lt_of_le hs (Nat.le_trans (by decide : 4294967296 ≤ 2 ^ 32) (Nat.pow_le_pow_right (by omega) (by omega))))
      rw [this] at hi; simp at hi
    cases ho2 : o.testBit i with
    | true => rfl
    | false => exact absurd ⟨hi, by simp [h32, ho2]⟩ h1
  · intro h i ⟨h1, h2⟩
    rw [Nat.testBit_two_pow_sub_succ (by exact ho), h i h1] at h2
    simp at h2
theorem has_t (s n : Nat) : decide ((s / 2 ^ n) % 2 = 1) = s.testBit n := by
  rw [Nat.testBit_eq_decide_div_mod_eq]

/-- what is known of a build: the names that are there, the order, what each action needs -/
structure St where
  there : Nat
  order : List Nat
  needs : List Nat

def insO (g : Gr) (p : Nat) : List Bs := match g.2[p]? with | some a => a.2.1 | none => []
def ndAt (l : List Nat) (o : Nat) : Nat := (l[o]?).getD 0
def ready (g : Gr) (th : Nat) (a : Ac) : Bool := decide (setOf (nm g) [a.1] &&& th = 0) && sub (setOf (nm g) a.2.1) th
def needF (g : Gr) (ins : Nat) (nd : List Nat) (a : Nat) (o : Nat) : Nat := if ins.testBit (g.1.length + o) then a ||| ndAt nd o else a
def needN (g : Gr) (st : St) (p : Nat) : Nat := st.order.foldl (needF g (setOf (nm g) (insO g p)) st.needs) (setOf (nm g) (insO g p))
def take (g : Gr) (st : St) (p : Nat) : St := ⟨st.there ||| 2 ^ (g.1.length + p), st.order ++ [p], st.needs.set p (needN g st p)⟩
def arr (g : Gr) : Nat → St → Option St
  | 0, st => some st
  | n + 1, st => match g.2.findIdx? (ready g st.there) with
    | none => none
    | some p => arr g n (take g st p)
def st0 (g : Gr) : St := ⟨setOf (nm g) g.1, [], List.replicate 12 0⟩
def missA (l : List Bs) (a : Ac) : Bool := a.2.1.any fun s => !decide (s ∈ l)
def miss (g : Gr) : Bool := g.2.any (missA (nm g))
/-- what Check answers -/
def chk (g : Gr) : Nat :=
  if can g = false then 1 else if ¬ (nm g).Nodup then 21 else if miss g = true then 22 else match arr g g.2.length (st0 g) with | none => 23 | some _ => 0
/-- what is known of a build that can be -/
def fin (g : Gr) : St := (arr g g.2.length (st0 g)).getD ⟨0, [], []⟩

/-- what a build that can be is like -/
structure Good (g : Gr) : Prop where
  can : can g = true
  nd : (nm g).Nodup
  ms : miss g = false
  arr : arr g g.2.length (st0 g) = some (fin g)
theorem chk_zero {g : Gr} : chk g = 0 ↔ Good g := by
  unfold chk
  constructor
  · intro h
    by_cases h1 : RC.can g = false
    · rw [if_pos h1] at h; simp at h
    rw [if_neg h1] at h
    by_cases h2 : (nm g).Nodup
    · rw [if_neg (by simp [h2])] at h
      by_cases h3 : miss g = true
      · rw [if_pos h3] at h; simp at h
      rw [if_neg h3] at h
      cases h4 : TR.arr g g.2.length (st0 g) with
      | none => rw [h4] at h; simp at h
      | some st => exact ⟨by simpa using h1, h2, by simpa using h3, by unfold fin; rw [h4]; rfl⟩
    · rw [if_pos h2] at h; simp at h
  · intro ⟨h1, h2, h3, h4⟩
    rw [if_neg (by simp [h1]), if_neg (by simp [h2]), if_neg (by simp [h3]), h4]
theorem missA_not {l : List Bs} {a : Ac} (h : missA l a = false) : ∀ s ∈ a.2.1, s ∈ l := by
  intro s hs
  have := (List.any_eq_false.1 h) s hs
  simpa using this
theorem miss_not {g : Gr} (h : miss g = false) : ∀ a ∈ g.2, ∀ s ∈ a.2.1, s ∈ nm g := fun a ha =>
  missA_not (by simpa using (List.any_eq_false.1 h) a ha)

/-- names and numbers -/
theorem nm_len (g : Gr) : (nm g).length = g.1.length + g.2.length := by simp [nm]
theorem nm_src {g : Gr} {i : Nat} (h : i < g.1.length) : (nm g)[i]? = g.1[i]? := by unfold nm; rw [List.getElem?_append_left h]
theorem nm_act {g : Gr} {o : Nat} {a : Ac} (h : g.2[o]? = some a) : (nm g)[g.1.length + o]? = some a.1 := by
  unfold nm; rw [List.getElem?_append_right (by omega)]; simp [h]
theorem pos_act {g : Gr} (hn : (nm g).Nodup) {o : Nat} {a : Ac} (h : g.2[o]? = some a) : pos (nm g) a.1 = some (g.1.length + o) := pos_of hn (nm_act h)
theorem set_one {g : Gr} (hn : (nm g).Nodup) {o : Nat} {a : Ac} (h : g.2[o]? = some a) {i : Nat} : (setOf (nm g) [a.1]).testBit i = true ↔ i = g.1.length + o := by
  rw [setOf_t]; simp [pos_act hn h]; exact eq_comm
theorem set_src {g : Gr} (hn : (nm g).Nodup) {i : Nat} : (setOf (nm g) g.1).testBit i = true ↔ i < g.1.length := by
  rw [setOf_t]
  constructor
  · rintro ⟨x, hx, hp⟩
    obtain ⟨j, hj, rfl⟩ := List.getElem_of_mem hx
    have : (nm g)[j]? = some g.1[j] := by rw [nm_src hj]; exact List.getElem?_eq_getElem hj
    rw [pos_of hn this] at hp
    simp at hp; omega
  · intro h
    refine ⟨g.1[i], List.getElem_mem h, pos_of hn ?_⟩
    rw [nm_src h]; exact List.getElem?_eq_getElem h
theorem insO_of {g : Gr} {p : Nat} {a : Ac} (h : g.2[p]? = some a) : insO g p = a.2.1 := by unfold insO; rw [h]

/-- what holds of what is known, while the order is laid -/
structure Inv (g : Gr) (st : St) : Prop where
  lt : ∀ o ∈ st.order, o < g.2.length
  nd : st.order.Nodup
  th : ∀ i, st.there.testBit i = true ↔ i < g.1.length ∨ ∃ o ∈ st.order, i = g.1.length + o
  topo : ∀ j o, st.order[j]? = some o → ∀ s ∈ insO g o, s ∈ g.1 ∨ ∃ (j' o' : Nat) (b : Ac), j' < j ∧ st.order[j']? = some o' ∧ g.2[o']? = some b ∧ b.1 = s
  need : ∀ o ∈ st.order, ∀ i, (ndAt st.needs o).testBit i = true ↔ (setOf (nm g) (insO g o)).testBit i = true ∨ ∃ o' ∈ st.order, (setOf (nm g) (insO g o)).testBit (g.1.length + o') = true ∧ (ndAt st.needs o').testBit i = true
  len : st.needs.length = 12
  thlt : st.there < 2 ^ (nm g).length
  ndlt : ∀ o, ndAt st.needs o < 2 ^ (nm g).length
theorem inv0 {g : Gr} (hn : (nm g).Nodup) : Inv g (st0 g) := by
  refine ⟨by simp [st0], by simp [st0], fun i => ?_, by simp [st0], by simp [st0], by simp [st0], setOf_lt _ _, fun o => ?_⟩
  · simp only [st0]; rw [set_src hn]; simp
  · have : ndAt (List.replicate 12 0) o = 0 := by
      unfold ndAt
      rw [List.getElem?_replicate]
      split <;> rfl
    show ndAt (List.replicate 12 0) o < _
    rw [this]; exact Nat.two_pow_pos _
theorem needF_t (g : Gr) (ins : Nat) (nd : List Nat) (i : Nat) : ∀ (l : List Nat) (a : Nat), (l.foldl (needF g ins nd) a).testBit i = true ↔ a.testBit i = true ∨ ∃ o ∈ l, ins.testBit (g.1.length + o) = true ∧ (ndAt nd o).testBit i = true
  | [], a => by simp
  | o :: l, a => by
    rw [List.foldl_cons, needF_t g ins nd i l]
    unfold needF
    by_cases h : ins.testBit (g.1.length + o) = true
    · rw [if_pos h]; simp [Nat.testBit_or, h, or_assoc]
    · rw [if_neg h]
      simp [h]
theorem needF_lt (g : Gr) (ins : Nat) (nd : List Nat) (k : Nat) (hd : ∀ o, ndAt nd o < 2 ^ k) : ∀ (l : List Nat) (a : Nat), a < 2 ^ k → l.foldl (needF g ins nd) a < 2 ^ k
  | [], a, h => h
  | o :: l, a, h => by
    rw [List.foldl_cons]
    refine needF_lt g ins nd k hd l _ ?_
    unfold needF
    split
    · exact Nat.or_lt_two_pow h (hd o)
    · exact h
theorem needN_lt {g : Gr} {st : St} (h : Inv g st) (p : Nat) : needN g st p < 2 ^ (nm g).length := needF_lt g _ _ _ h.ndlt _ _ (setOf_lt _ _)
theorem ndAt_set {l : List Nat} {p v o : Nat} (hp : p < l.length) : ndAt (l.set p v) o = if o = p then v else ndAt l o := by
  unfold ndAt
  rw [List.getElem?_set]
  by_cases h : p = o
  · subst h; rw [if_pos rfl, if_pos hp, if_pos rfl]; rfl
  · rw [if_neg h, if_neg (fun e => h e.symm)]
/-- an action that is ready: it isn't there, its inputs are -/
theorem ready_t {g : Gr} (hn : (nm g).Nodup) {st : St} (h : Inv g st) {p : Nat} {a : Ac} (ha : g.2[p]? = some a) (hm : ∀ s ∈ a.2.1, s ∈ nm g) :
    ready g st.there a = true ↔ p ∉ st.order ∧ ∀ s ∈ a.2.1, s ∈ g.1 ∨ ∃ (j' o' : Nat) (b : Ac), st.order[j']? = some o' ∧ g.2[o']? = some b ∧ b.1 = s := by
  unfold ready
  rw [Bool.and_eq_true, decide_eq_true_eq, and_zero, sub_t]
  have e1 : (∀ i, ¬ ((setOf (nm g) [a.1]).testBit i = true ∧ st.there.testBit i = true)) ↔ p ∉ st.order := by
    constructor
    · intro h1 hp
      exact h1 (g.1.length + p) ⟨(set_one hn ha).2 rfl, (h.th _).2 (Or.inr ⟨p, hp, rfl⟩)⟩
    · intro hp i ⟨h1, h2⟩
      have := (set_one hn ha).1 h1
      subst this
      rcases (h.th _).1 h2 with h3 | ⟨o, ho, h3⟩
      · omega
      · obtain rfl : p = o := by omega
        exact hp ho
  rw [e1]
  refine and_congr_right fun _ => ?_
  constructor
  · intro h1 s hs
    obtain ⟨i, hi⟩ := pos_mem (hm s hs)
    have h2 := (h.th i).1 (h1 i (setOf_t.2 ⟨s, hs, hi⟩))
    have h3 := (pos_some hi).1
    rcases h2 with h2 | ⟨o, ho, rfl⟩
    · refine Or.inl ?_; rw [nm_src h2] at h3; exact List.mem_of_getElem? h3
    · refine Or.inr ?_
      obtain ⟨j, hj, e⟩ := List.getElem_of_mem ho
      have hlt := h.lt o ho
      have hb := List.getElem?_eq_getElem hlt
      refine ⟨j, o, g.2[o], by rw [List.getElem?_eq_getElem hj, e], hb, ?_⟩
      rw [nm_act hb] at h3
      exact Option.some.inj h3
  · intro h1 i hi
    obtain ⟨s, hs, hp⟩ := setOf_t.1 hi
    refine (h.th i).2 ?_
    rcases h1 s hs with h2 | ⟨j, o, b, hj, hb, rfl⟩
    · refine Or.inl ?_
      obtain ⟨j, hj, rfl⟩ := List.getElem_of_mem h2
      have : (nm g)[j]? = some g.1[j] := by rw [nm_src hj]; exact List.getElem?_eq_getElem hj
      rw [pos_of hn this] at hp
      simp at hp; omega
    · refine Or.inr ?_
      refine ⟨o, List.mem_of_getElem? hj, ?_⟩
      rw [pos_act hn hb] at hp
      exact (Option.some.inj hp).symm
theorem Inv.take {g : Gr} (hn : (nm g).Nodup) {st : St} (h : Inv g st) {p : Nat} {a : Ac} (ha : g.2[p]? = some a) (hm : ∀ s ∈ a.2.1, s ∈ nm g) (hr : ready g st.there a = true) (h12 : g.2.length ≤ 12) : Inv g (take g st p) := by
  obtain ⟨hp, hi⟩ := (ready_t hn h ha hm).1 hr
  have hlt : p < g.2.length := (List.getElem?_eq_some_iff.1 ha).1
  have hins := insO_of ha
  have hpl : p < st.needs.length := by rw [h.len]; omega
  refine ⟨?_, ?_, ?_, ?_, ?_, by simp [TR.take, h.len], ?_, ?_⟩
  · intro o ho
    simp only [TR.take, List.mem_append, List.mem_singleton] at ho
    rcases ho with ho | rfl
    · exact h.lt o ho
    · exact hlt
  · simp only [TR.take]
    rw [List.nodup_append]
    exact ⟨h.nd, by simp, fun x hx y hy e => by simp at hy; subst hy; subst e; exact hp hx⟩
  · intro i
    simp only [TR.take, Nat.testBit_or, Bool.or_eq_true, Nat.testBit_two_pow, decide_eq_true_eq, List.mem_append, List.mem_singleton]
    rw [h.th]
    constructor
    · rintro ((h1 | ⟨o, h1, h2⟩) | h1)
      · exact Or.inl h1
      · exact Or.inr ⟨o, Or.inl h1, h2⟩
      · exact Or.inr ⟨p, Or.inr rfl, h1.symm⟩
    · rintro (h1 | ⟨o, h1 | rfl, h2⟩)
      · exact Or.inl (Or.inl h1)
      · exact Or.inl (Or.inr ⟨o, h1, h2⟩)
      · exact Or.inr h2.symm
  · intro j o hj s hs
    simp only [TR.take] at hj
    rcases Nat.lt_or_ge j st.order.length with hj' | hj'
    · rw [List.getElem?_append_left hj'] at hj
      rcases h.topo j o hj s hs with h1 | ⟨j', o', b, h1, h2, h3⟩
      · exact Or.inl h1
      · exact Or.inr ⟨j', o', b, h1, by simp only [TR.take]; rw [List.getElem?_append_left (by omega)]; exact h2, h3⟩
    · rw [List.getElem?_append_right hj'] at hj
      have hj0 : j - st.order.length = 0 := by
        have := (List.getElem?_eq_some_iff.1 hj).1
        simp at this; omega
      rw [hj0] at hj
      simp at hj
      subst hj
      rw [hins] at hs
      rcases hi s hs with h1 | ⟨j', o', b, h2, h3⟩
      · exact Or.inl h1
      · have := (List.getElem?_eq_some_iff.1 h2).1
        exact Or.inr ⟨j', o', b, by omega, by simp only [TR.take]; rw [List.getElem?_append_left this]; exact h2, h3⟩
  · -- what each needs
    have key : ∀ o, o ∈ st.order → ndAt (TR.take g st p).needs o = ndAt st.needs o := fun o ho => by
      simp only [TR.take]
      rw [ndAt_set hpl, if_neg (fun (e : o = p) => hp (e ▸ ho))]
    have keyp : ndAt (TR.take g st p).needs p = needN g st p := by
      simp only [TR.take]
      rw [ndAt_set hpl, if_pos rfl]
    -- an input of what is there is there
    have hin : ∀ o, o ∈ st.order ∨ o = p → (setOf (nm g) (insO g o)).testBit (g.1.length + p) = false := fun o ho => by
      refine Bool.eq_false_iff.2 fun hc => ?_
      obtain ⟨s, hs, hps⟩ := setOf_t.1 hc
      have hsa : s = a.1 := by
        have h1 := (pos_some hps).1
        rw [nm_act ha] at h1
        exact (Option.some.inj h1).symm
      have no : ¬ (s ∈ g.1 ∨ ∃ (j' o' : Nat) (b : Ac), st.order[j']? = some o' ∧ g.2[o']? = some b ∧ b.1 = s) := by
        rintro (h1 | ⟨j', o', b, h2, h3, h4⟩)
        · obtain ⟨k, hk, e⟩ := List.getElem_of_mem h1
          have : (nm g)[k]? = some s := by rw [nm_src hk, List.getElem?_eq_getElem hk, e]
          rw [pos_of hn this] at hps
          simp at hps; omega
        · rw [← h4, pos_act hn h3] at hps
          have : o' = p := by simp at hps; omega
          subst this
          exact hp (List.mem_of_getElem? h2)
      rcases ho with ho | rfl
      · obtain ⟨j, hj, e⟩ := List.getElem_of_mem ho
        rcases h.topo j o (by rw [List.getElem?_eq_getElem hj, e]) s hs with h1 | ⟨j', o', b, _, h2, h3, h4⟩
        · exact no (Or.inl h1)
        · exact no (Or.inr ⟨j', o', b, h2, h3, h4⟩)
      · rw [hins] at hs
        exact no (hi s hs)
    intro o ho i
    have ho' : o ∈ st.order ∨ o = p := by simpa [TR.take] using ho
    have ex : (∃ o' ∈ (TR.take g st p).order, (setOf (nm g) (insO g o)).testBit (g.1.length + o') = true ∧ (ndAt (TR.take g st p).needs o').testBit i = true) ↔ (∃ o' ∈ st.order, (setOf (nm g) (insO g o)).testBit (g.1.length + o') = true ∧ (ndAt st.needs o').testBit i = true) := by
      constructor
      · rintro ⟨o', h1, h2, h3⟩
        have h1' : o' ∈ st.order ∨ o' = p := by simpa [TR.take] using h1
        rcases h1' with h1' | rfl
        · rw [key o' h1'] at h3; exact ⟨o', h1', h2, h3⟩
        · rw [hin o ho'] at h2; simp at h2
      · rintro ⟨o', h1, h2, h3⟩
        exact ⟨o', by simp [TR.take, h1], h2, by rw [key o' h1]; exact h3⟩
    rw [ex]
    rcases ho' with ho' | rfl
    · rw [key o ho']; exact h.need o ho' i
    · rw [keyp]; exact needF_t g _ _ i _ _
  · simp only [TR.take]
    refine Nat.or_lt_two_pow h.thlt (Nat.pow_lt_pow_right (by omega) ?_)
    rw [nm_len]; omega
  · intro o
    simp only [TR.take]
    rw [ndAt_set hpl]
    split
    · exact needN_lt h p
    · exact h.ndlt o
theorem arr_inv {g : Gr} (hn : (nm g).Nodup) (hm : miss g = false) (h12 : g.2.length ≤ 12) : ∀ (n : Nat) (st st' : St), Inv g st → arr g n st = some st' → Inv g st' ∧ st'.order.length = st.order.length + n
  | 0, st, st', h, he => by simp [arr] at he; subst he; exact ⟨h, rfl⟩
  | n + 1, st, st', h, he => by
    unfold arr at he
    cases hf : g.2.findIdx? (ready g st.there) with
    | none => rw [hf] at he; simp at he
    | some p =>
      rw [hf] at he
      obtain ⟨hp, hr, _⟩ := List.findIdx?_eq_some_iff_getElem.1 hf
      obtain ⟨h1, h2⟩ := arr_inv hn hm h12 n _ _ (h.take hn (List.getElem?_eq_getElem hp) (miss_not hm _ (List.getElem_mem hp)) hr h12) he
      refine ⟨h1, ?_⟩
      rw [h2]; simp [take]; omega

theorem nodup_len : ∀ (n : Nat) (l : List Nat), l.Nodup → (∀ x ∈ l, x < n) → l.length ≤ n
  | 0, l, _, h => by
    cases l with
    | nil => simp
    | cons a l => have := h a (by simp); omega
  | n + 1, l, hd, h => by
    by_cases hn : n ∈ l
    · have h1 := nodup_len n (l.erase n) (hd.erase n) (fun x hx => by
        have := (hd.mem_erase_iff).1 hx
        have := h x this.2
        omega)
      rw [List.length_erase_of_mem hn] at h1
      omega
    · have := nodup_len n l hd (fun x hx => by
        have := h x hx
        have : x ≠ n := fun e => hn (e ▸ hx)
        omega)
      omega
theorem all_in {n : Nat} {l : List Nat} (hd : l.Nodup) (h : ∀ x ∈ l, x < n) (hl : l.length = n) {p : Nat} (hp : p < n) : p ∈ l := by
  refine Classical.byContradiction fun hc => ?_
  have := nodup_len n (p :: l) (List.nodup_cons.2 ⟨hc, hd⟩) (fun x hx => by
    rcases List.mem_cons.1 hx with rfl | hx
    · exact hp
    · exact h x hx)
  simp at this; omega
theorem can_le {g : Gr} (h : can g = true) : g.1.length ≤ 8 ∧ g.2.length ≤ 12 := by
  unfold can at h
  simp only [Bool.and_eq_true, decide_eq_true_eq] at h
  exact ⟨h.1.1.1, h.1.1.2⟩

theorem Good.le {g : Gr} (h : Good g) : g.1.length ≤ 8 ∧ g.2.length ≤ 12 := can_le h.can
theorem Good.inv {g : Gr} (h : Good g) : Inv g (fin g) := (arr_inv h.nd h.ms h.le.2 _ _ _ (inv0 h.nd) h.arr).1
theorem Good.len {g : Gr} (h : Good g) : (fin g).order.length = g.2.length := by
  have := (arr_inv h.nd h.ms h.le.2 _ _ _ (inv0 h.nd) h.arr).2
  simpa [st0] using this
theorem Good.all {g : Gr} (h : Good g) {p : Nat} (hp : p < g.2.length) : p ∈ (fin g).order := all_in h.inv.nd h.inv.lt h.len hp
end Go.Proofs.YtjbffhdccgmfpaaGreatDoor.TR
