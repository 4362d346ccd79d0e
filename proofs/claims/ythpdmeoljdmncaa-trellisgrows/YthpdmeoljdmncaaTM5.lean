/- A build, and the same with an action more on which nobody stands: on lists. -/
import Derived.Test.YthpdmeoljdmncaaTM4
namespace Go.Proofs.Ythpdmeoljdmncaa
open RC TR
set_option linter.unusedVariables false

/-- a build with an action more -/
def gPlus (g : Gr) (z : Ac) : Gr := (g.1, g.2 ++ [z])
theorem nm_plus (g : Gr) (z : Ac) : nm (gPlus g z) = nm g ++ [z.1] := by simp [nm, gPlus]
theorem set_app {l m xs : List (List UInt8)} (h : ∀ x ∈ xs, x ∈ l) : setOf (l ++ m) xs = setOf l xs := by
  apply Nat.eq_of_testBit_eq
  intro i
  rw [Bool.eq_iff_iff, setOf_t, setOf_t]
  constructor
  · rintro ⟨x, hx, hp⟩; exact ⟨x, hx, by rw [pos_app (h x hx)] at hp; exact hp⟩
  · rintro ⟨x, hx, hp⟩; exact ⟨x, hx, by rw [pos_app (h x hx)]; exact hp⟩
theorem set_low {l m xs : List (List UInt8)} {i : Nat} (hi : i < l.length) : (setOf (l ++ m) xs).testBit i = (setOf l xs).testBit i := by
  rw [Bool.eq_iff_iff, setOf_t, setOf_t]
  constructor
  · rintro ⟨x, hx, hp⟩
    refine ⟨x, hx, ?_⟩
    have h1 := (pos_some hp).1
    rw [List.getElem?_append_left hi] at h1
    rw [pos_app (List.mem_of_getElem? h1)] at hp; exact hp
  · rintro ⟨x, hx, hp⟩
    exact ⟨x, hx, by rw [pos_app (List.mem_of_getElem? (pos_some hp).1)]; exact hp⟩
theorem fm_congr {α β : Type} {f f' : α → Option β} : ∀ {l : List α}, (∀ x ∈ l, f x = f' x) → l.filterMap f = l.filterMap f'
  | [], _ => rfl
  | a :: l, h => by
    rw [List.filterMap_cons, List.filterMap_cons, h a (by simp), fm_congr (fun x hx => h x (by simp [hx]))]
theorem arr_s (g : Gr) (n : Nat) (st : St) : arr g (n + 1) st = match g.2.findIdx? (ready g st.there) with | none => none | some p => arr g n (take g st p) := rfl
theorem arr_add (g : Gr) : ∀ (a b : Nat) (st : St), arr g (a + b) st = match arr g a st with | none => none | some st' => arr g b st'
  | 0, b, st => by simp [arr]
  | a + 1, b, st => by
    rw [show a + 1 + b = (a + b) + 1 by omega, arr_s g (a + b) st, arr_s g a st]
    cases g.2.findIdx? (ready g st.there) with
    | none => rfl
    | some p =>
      simp only []
      exact arr_add g a b (take g st p)
theorem mem_nm {g : Gr} {a : Ac} (ha : a ∈ g.2) : a.1 ∈ nm g := by
  unfold nm; exact List.mem_append.2 (Or.inr (List.mem_map.2 ⟨a, ha, rfl⟩))
theorem insO_plus {g : Gr} {z : Ac} {p : Nat} (hp : p < g.2.length) : insO (gPlus g z) p = insO g p := by
  unfold insO gPlus
  simp only []
  rw [List.getElem?_append_left hp]
theorem st0_plus {g : Gr} {z : Ac} : st0 (gPlus g z) = st0 g := by
  unfold st0
  rw [nm_plus, show (gPlus g z).1 = g.1 from rfl, set_app (fun x hx => by unfold nm; exact List.mem_append.2 (Or.inl hx))]
section
variable {g : Gr} {z : Ac} (h : TR.Good g)
include h
theorem ready_plus (th : Nat) {a : Ac} (ha : a ∈ g.2) : ready (gPlus g z) th a = ready g th a := by
  unfold ready
  rw [nm_plus, set_app (fun x hx => by simp at hx; rw [hx]; exact mem_nm ha), set_app (miss_not h.ms a ha)]
theorem take_plus (st : St) {p : Nat} (hp : p < g.2.length) : take (gPlus g z) st p = take g st p := by
  have e : setOf (nm (gPlus g z)) (insO (gPlus g z) p) = setOf (nm g) (insO g p) := by
    rw [insO_plus hp, nm_plus, set_app]
    intro x hx
    rw [insO_of (List.getElem?_eq_getElem hp)] at hx
    exact miss_not h.ms _ (List.getElem_mem hp) x hx
  unfold take needN
  rw [e]
  rfl
theorem find_congr (th : Nat) : g.2.findIdx? (ready (gPlus g z) th) = g.2.findIdx? (ready g th) := by
  have : ∀ l : List Ac, (∀ a ∈ l, a ∈ g.2) → l.findIdx? (ready (gPlus g z) th) = l.findIdx? (ready g th) := fun l => by
    induction l with
    | nil => intro _; rfl
    | cons a l ih =>
      intro hl
      rw [List.findIdx?_cons, List.findIdx?_cons, ready_plus h th (hl a (by simp)), ih (fun b hb => hl b (by simp [hb]))]
  exact this g.2 (fun a ha => ha)
theorem arr_plus : ∀ (k : Nat) (st st' : St), arr g k st = some st' → arr (gPlus g z) k st = some st'
  | 0, st, st', he => he
  | k + 1, st, st', he => by
    unfold arr at he ⊢
    cases hf : g.2.findIdx? (ready g st.there) with
    | none => rw [hf] at he; simp at he
    | some p =>
      rw [hf] at he
      have hp : p < g.2.length := (List.findIdx?_eq_some_iff_getElem.1 hf).1
      have e : (gPlus g z).2.findIdx? (ready (gPlus g z) st.there) = some p := by
        show (g.2 ++ [z]).findIdx? _ = _
        rw [List.findIdx?_append, find_congr h, hf]; rfl
      rw [e]
      simp only []
      rw [take_plus h st hp]
      exact arr_plus k _ _ he
variable (hh : TR.Good (gPlus g z))
include hh
theorem fin_plus : (fin (gPlus g z)).order = (fin g).order ++ [g.2.length] ∧ ∀ p, p < g.2.length → ndAt (fin (gPlus g z)).needs p = ndAt (fin g).needs p := by
  have hl : (gPlus g z).2.length = g.2.length + 1 := by simp [gPlus]
  have h1 := hh.arr
  rw [hl, arr_add, st0_plus, arr_plus h _ _ _ h.arr] at h1
  simp only [] at h1
  unfold arr at h1
  cases hf : (gPlus g z).2.findIdx? (ready (gPlus g z) (fin g).there) with
  | none => rw [hf] at h1; simp at h1
  | some p =>
    rw [hf] at h1
    simp only [arr, Option.some.injEq] at h1
    obtain ⟨hp, hr, _⟩ := List.findIdx?_eq_some_iff_getElem.1 hf
    have hpn : p = g.2.length := by
      refine Classical.byContradiction fun hc => ?_
      have hlt : p < g.2.length := by rw [hl] at hp; omega
      have e : (gPlus g z).2[p] = g.2[p] := by simp [gPlus, List.getElem_append_left hlt]
      rw [e, ready_plus h _ (List.getElem_mem hlt)] at hr
      exact ((ready_t h.nd h.inv (List.getElem?_eq_getElem hlt) (miss_not h.ms _ (List.getElem_mem hlt))).1 hr).1 (h.all hlt)
    subst hpn
    rw [← h1]
    refine ⟨rfl, fun q hq => ?_⟩
    have h12 : g.2.length < (fin g).needs.length := by rw [h.inv.len]; have := hh.le.2; omega
    show ndAt ((fin g).needs.set _ _) q = _
    rw [ndAt_set h12, if_neg (by omega)]
theorem ndL_plus {p : Nat} {t : Ac} (ht : g.2[p]? = some t) : ndL (gPlus g z) t.1 = ndL g t.1 := by
  have hp : p < g.2.length := (List.getElem?_eq_some_iff.1 ht).1
  have ht' : (gPlus g z).2[p]? = some t := by
    show (g.2 ++ [z])[p]? = _
    rw [List.getElem?_append_left hp]; exact ht
  rw [ndL_of h ht, ndL_of hh ht', (fin_plus h hh).2 p hp, nm_plus]
  have hlt := h.inv.ndlt p
  congr 1
  generalize ndAt (fin g).needs p = s at *
  generalize nm g = l at *
  rw [List.length_append, List.length_singleton, nin_succ (l ++ [z.1]) s l.length z.1 (by simp)]
  have hb : s.testBit l.length = false := Nat.testBit_lt_two_pow hlt
  rw [hb]
  simp only [Bool.false_eq_true, if_false, List.append_nil]
  unfold nin
  apply fm_congr
  intro i hi
  rw [List.mem_range] at hi
  rw [List.getElem?_append_left hi]
theorem drt_plus (xs : List (List UInt8)) {p : Nat} (hp : p < g.2.length) : drt (gPlus g z) (fin (gPlus g z)) (setOf (nm (gPlus g z)) xs) p = drt g (fin g) (setOf (nm g) xs) p := by
  unfold drt
  rw [(fin_plus h hh).2 p hp, nm_plus]
  have hlt := h.inv.ndlt p
  have e1 : ((ndAt (fin g).needs p &&& setOf (nm g ++ [z.1]) xs) = 0) ↔ ((ndAt (fin g).needs p &&& setOf (nm g) xs) = 0) := by
    rw [and_zero, and_zero]
    refine forall_congr' fun i => not_congr (and_congr_right fun hb => ?_)
    have hi : i < (nm g).length := by
      refine Classical.byContradiction fun hc => ?_
      have := Nat.testBit_lt_two_pow (x := ndAt (fin g).needs p) (i := i) (Nat.lt_of_lt_of_le hlt (Nat.pow_le_pow_right (by omega) (by omega)))
      rw [this] at hb; simp at hb
    rw [set_low hi]
  have e2 : (setOf (nm g ++ [z.1]) xs).testBit ((gPlus g z).1.length + p) = (setOf (nm g) xs).testBit (g.1.length + p) := set_low (show g.1.length + p < (nm g).length by rw [nm_len]; omega)
  rw [e2]
  congr 2
  exact decide_eq_decide.2 e1
theorem drL_plus (xs : List (List UInt8)) : drL (gPlus g z) xs = drL g xs ∨ drL (gPlus g z) xs = drL g xs ++ [g.2.length] := by
  unfold drL
  rw [if_pos (chk_zero.2 hh), if_pos (chk_zero.2 h)]
  have hl : (gPlus g z).2.length = g.2.length + 1 := by simp [gPlus]
  rw [hl, plcs_succ]
  have e : plcs (drt (gPlus g z) (fin (gPlus g z)) (setOf (nm (gPlus g z)) xs)) g.2.length = plcs (drt g (fin g) (setOf (nm g) xs)) g.2.length := by
    unfold plcs
    apply List.filter_congr
    intro p hp
    rw [List.mem_range] at hp
    exact drt_plus h hh xs hp
  rw [e]
  by_cases hq : drt (gPlus g z) (fin (gPlus g z)) (setOf (nm (gPlus g z)) xs) g.2.length = true
  · rw [if_pos hq]; exact Or.inr rfl
  · rw [if_neg hq]; exact Or.inl (by simp)
end
end Go.Proofs.Ythpdmeoljdmncaa
