/- The texts HgM HgA HgS HgI HgP as one. -/
import Derived.Sort.Defs
/- Stable sorting on lists: the stable merge, the stable sort, how a merge is cut in two, one of each key. -/
namespace Go.Proofs.YtfbjakhanjbaeaaDoor
set_option linter.unusedVariables false
set_option linter.unusedSimpArgs false
namespace SS
variable {α : Type}

/-- a strict weak order -/
structure Wk (lt : α → α → Bool) : Prop where
  asym : ∀ x y, lt x y = true → lt y x = false
  neg : ∀ x y z, lt x y = false → lt y z = false → lt x z = false

theorem Wk.irr {lt : α → α → Bool} (h : Wk lt) (x : α) : lt x x = false := by
  cases e : lt x x
  · rfl
  · have := h.asym x x e; rw [e] at this; exact this
theorem Wk.tr {lt : α → α → Bool} (h : Wk lt) {x y z : α} (a : lt x y = true) (b : lt y z = true) : lt x z = true := by
  cases e : lt x z
  · have := h.neg x z y e (h.asym _ _ b); rw [a] at this; cases this
  · rfl
theorem Wk.lt_le {lt : α → α → Bool} (h : Wk lt) {x y z : α} (a : lt x y = true) (b : lt z y = false) : lt x z = true := by
  cases e : lt x z
  · have := h.neg x z y e b; rw [a] at this; cases this
  · rfl
theorem Wk.le_lt {lt : α → α → Bool} (h : Wk lt) {x y z : α} (a : lt y x = false) (b : lt y z = true) : lt x z = true := by
  cases e : lt x z
  · have := h.neg y x z a e; rw [b] at this; cases this
  · rfl

/-- the stable merge: of equals those of the first list first -/
def mrg (lt : α → α → Bool) : List α → List α → List α
  | [], M => M
  | x :: L, [] => x :: L
  | x :: L, y :: M => if lt y x = true then y :: mrg lt (x :: L) M else x :: mrg lt L (y :: M)
  termination_by L M => L.length + M.length

/-- the stable sort -/
def iso (lt : α → α → Bool) : List α → List α
  | [] => []
  | x :: l => mrg lt [x] (iso lt l)

section
variable {lt : α → α → Bool}
@[simp] theorem mrg_nil_left (M : List α) : mrg lt [] M = M := by rw [mrg]
@[simp] theorem mrg_nil_right (L : List α) : mrg lt L [] = L := by cases L <;> rw [mrg]
theorem mrg_yes {x y : α} (L M : List α) (h : lt y x = true) : mrg lt (x :: L) (y :: M) = y :: mrg lt (x :: L) M := by rw [mrg, if_pos h]
theorem mrg_no {x y : α} (L M : List α) (h : lt y x = false) : mrg lt (x :: L) (y :: M) = x :: mrg lt L (y :: M) := by rw [mrg, if_neg (by rw [h]; decide)]

theorem mrg_len (L M : List α) : (mrg lt L M).length = L.length + M.length := by
  induction h : L.length + M.length using Nat.strongRecOn generalizing L M with
  | ind n ih =>
    cases L with
    | nil => simp at h ⊢; exact h
    | cons x L =>
      cases M with
      | nil => simp at h ⊢; exact h
      | cons y M =>
        simp only [List.length_cons] at h
        cases e : lt y x
        · rw [mrg_no _ _ e, List.length_cons, ih (L.length + (y :: M).length) (by simp; omega) L (y :: M) rfl]; simp; omega
        · rw [mrg_yes _ _ e, List.length_cons, ih ((x :: L).length + M.length) (by simp; omega) (x :: L) M rfl]; simp; omega

theorem mrg_mem {z : α} (L M : List α) : z ∈ mrg lt L M ↔ z ∈ L ∨ z ∈ M := by
  induction h : L.length + M.length using Nat.strongRecOn generalizing L M with
  | ind n ih =>
    cases L with
    | nil => simp
    | cons x L =>
      cases M with
      | nil => simp
      | cons y M =>
        simp only [List.length_cons] at h
        cases e : lt y x
        · rw [mrg_no _ _ e, List.mem_cons, ih (L.length + (y :: M).length) (by simp; omega) L (y :: M) rfl]; simp [or_assoc]
        · rw [mrg_yes _ _ e, List.mem_cons, ih ((x :: L).length + M.length) (by simp; omega) (x :: L) M rfl]; simp; constructor
          · rintro (a | (a | a) | a) <;> simp [a]
          · rintro ((a | a) | a | a) <;> simp [a]

theorem mrg_assoc (hw : Wk lt) (A B C : List α) : mrg lt A (mrg lt B C) = mrg lt (mrg lt A B) C := by
  induction h : A.length + B.length + C.length using Nat.strongRecOn generalizing A B C with
  | ind n ih =>
    cases A with
    | nil => simp
    | cons x A =>
      cases B with
      | nil => simp
      | cons y B =>
        cases C with
        | nil => simp
        | cons z C =>
          simp only [List.length_cons] at h
          cases eyx : lt y x
          · cases ezx : lt z x
            · -- x first
              rw [mrg_no A B eyx, mrg_no _ C ezx, ← ih (A.length + (y :: B).length + (z :: C).length) (by simp; omega) A (y :: B) (z :: C) rfl]
              cases ezy : lt z y
              · rw [mrg_no B C ezy, mrg_no _ _ eyx]
              · rw [mrg_yes B C ezy, mrg_no _ _ ezx]
            · -- z < x ≤ y
              have ezy : lt z y = true := hw.lt_le ezx eyx
              rw [mrg_yes B C ezy, mrg_yes _ _ ezx, ih ((x :: A).length + (y :: B).length + C.length) (by simp; omega) (x :: A) (y :: B) C rfl, mrg_no A B eyx, mrg_yes _ C ezx]
          · cases ezy : lt z y
            · rw [mrg_no B C ezy, mrg_yes _ _ eyx, mrg_yes A B eyx, mrg_no _ C ezy, ih ((x :: A).length + B.length + (z :: C).length) (by simp; omega) (x :: A) B (z :: C) rfl]
            · have ezx : lt z x = true := hw.tr ezy eyx
              rw [mrg_yes B C ezy, mrg_yes _ _ ezx, ih ((x :: A).length + (y :: B).length + C.length) (by simp; omega) (x :: A) (y :: B) C rfl, mrg_yes A B eyx, mrg_yes _ C ezy]

theorem iso_append (hw : Wk lt) (l m : List α) : iso lt (l ++ m) = mrg lt (iso lt l) (iso lt m) := by
  induction l with
  | nil => simp [iso]
  | cons x l ih => rw [List.cons_append, iso, ih, iso, mrg_assoc hw]
theorem iso_one (x : α) : iso lt [x] = [x] := by simp [iso]
theorem iso_len (l : List α) : (iso lt l).length = l.length := by
  induction l with
  | nil => rfl
  | cons x l ih => rw [iso, mrg_len, ih]; simp; omega
theorem iso_mem {z : α} (l : List α) : z ∈ iso lt l ↔ z ∈ l := by
  induction l with
  | nil => rfl
  | cons x l ih => rw [iso, mrg_mem, ih]; simp

/-- no later one is less than an earlier one -/
abbrev Sd (lt : α → α → Bool) (l : List α) : Prop := l.Pairwise fun x y => lt y x = false

theorem mrg_sd (hw : Wk lt) (L M : List α) (hL : Sd lt L) (hM : Sd lt M) : Sd lt (mrg lt L M) := by
  induction h : L.length + M.length using Nat.strongRecOn generalizing L M with
  | ind n ih =>
    cases L with
    | nil => simpa using hM
    | cons x L =>
      cases M with
      | nil => simpa using hL
      | cons y M =>
        simp only [List.length_cons] at h
        have hL' := List.pairwise_cons.mp hL
        have hM' := List.pairwise_cons.mp hM
        cases e : lt y x
        · rw [mrg_no _ _ e]
          refine List.pairwise_cons.mpr ⟨fun z hz => ?_, ih (L.length + (y :: M).length) (by simp; omega) L (y :: M) hL'.2 hM rfl⟩
          rcases (mrg_mem _ _).mp hz with hz | hz
          · exact hL'.1 z hz
          · rcases List.mem_cons.mp hz with rfl | hz
            · exact e
            · exact hw.neg _ _ _ (hM'.1 z hz) e
        · rw [mrg_yes _ _ e]
          refine List.pairwise_cons.mpr ⟨fun z hz => ?_, ih ((x :: L).length + M.length) (by simp; omega) (x :: L) M hL hM'.2 rfl⟩
          rcases (mrg_mem _ _).mp hz with hz | hz
          · rcases List.mem_cons.mp hz with rfl | hz
            · exact hw.asym _ _ e
            · exact hw.neg _ _ _ (hL'.1 z hz) (hw.asym _ _ e)
          · exact hM'.1 z hz
theorem iso_sd (hw : Wk lt) (l : List α) : Sd lt (iso lt l) := by
  induction l with
  | nil => exact List.Pairwise.nil
  | cons x l ih => rw [iso]; exact mrg_sd hw _ _ (List.pairwise_singleton _ _) ih

/-- A MERGE IN TWO -/
theorem mrg_split (X1 X2 Y1 Y2 : List α) (h1 : ∀ x ∈ X1, ∀ y ∈ Y2, lt y x = false) (h2 : ∀ y ∈ Y1, ∀ x ∈ X2, lt y x = true) : mrg lt (X1 ++ X2) (Y1 ++ Y2) = mrg lt X1 Y1 ++ mrg lt X2 Y2 := by
  induction h : X1.length + Y1.length using Nat.strongRecOn generalizing X1 Y1 with
  | ind n ih =>
    cases X1 with
    | nil =>
      cases Y1 with
      | nil => simp
      | cons y Y1 =>
        cases X2 with
        | nil => simp
        | cons x X2 =>
          have e := h2 y (by simp) x (by simp)
          rw [List.nil_append, List.cons_append, mrg_yes _ _ e, mrg_nil_left, List.cons_append]
          have := ih Y1.length (by simp at h; omega) [] Y1 (by simp) (fun a ha b hb => h2 a (by simp [ha]) b hb) (by simp)
          rw [List.nil_append, mrg_nil_left] at this
          rw [this]
    | cons x X1 =>
      cases Y1 with
      | nil =>
        cases Y2 with
        | nil => simp
        | cons y Y2 =>
          have e := h1 x (by simp) y (by simp)
          rw [List.nil_append, List.cons_append, mrg_no _ _ e, mrg_nil_right, List.cons_append]
          have := ih X1.length (by simp at h; omega) X1 [] (fun a ha b hb => h1 a (by simp [ha]) b hb) (by simp) (by simp)
          rw [List.nil_append, mrg_nil_right] at this
          rw [this]
      | cons y Y1 =>
        simp only [List.length_cons] at h
        cases e : lt y x
        · rw [List.cons_append, List.cons_append, mrg_no _ _ e, mrg_no _ _ e, List.cons_append]
          congr 1
          rw [← List.cons_append]
          exact ih (X1.length + (y :: Y1).length) (by simp; omega) X1 (y :: Y1) (fun a ha b hb => h1 a (by simp [ha]) b hb) h2 rfl
        · rw [List.cons_append, List.cons_append, mrg_yes _ _ e, mrg_yes _ _ e, List.cons_append]
          congr 1
          rw [← List.cons_append]
          exact ih ((x :: X1).length + Y1.length) (by simp; omega) (x :: X1) Y1 h1 (fun a ha b hb => h2 a (by simp [ha]) b hb) rfl
theorem mrg_one_left (x : α) (Y1 Y2 : List α) (h1 : ∀ y ∈ Y2, lt y x = false) (h2 : ∀ y ∈ Y1, lt y x = true) : mrg lt [x] (Y1 ++ Y2) = Y1 ++ x :: Y2 := by
  have a := mrg_split (lt := lt) [] [x] Y1 Y2 (by simp) (by simpa using h2)
  have b := mrg_split (lt := lt) [x] [] [] Y2 (by simpa using h1) (by simp)
  simp at a b; rw [a, b]
theorem mrg_one_right (y : α) (X1 X2 : List α) (h1 : ∀ x ∈ X1, lt y x = false) (h2 : ∀ x ∈ X2, lt y x = true) : mrg lt (X1 ++ X2) [y] = X1 ++ y :: X2 := by
  have a := mrg_split (lt := lt) X1 X2 [] [y] (by simpa using h1) (by simp)
  have b := mrg_split (lt := lt) [] X2 [y] [] (by simp) (by simpa using h2)
  simp at a b; rw [a, b]

/-- those of one key stay as they came -/
theorem mrg_filter {κ : Type} [DecidableEq κ] (key : α → κ) (c : κ) (hk : ∀ x y, key x = key y → lt x y = false) (x : α) (M : List α) : (mrg lt [x] M).filter (fun z => decide (key z = c)) = ([x] ++ M).filter (fun z => decide (key z = c)) := by
  induction M with
  | nil => simp
  | cons y M ih =>
    cases e : lt y x
    · rw [mrg_no _ _ e]; simp
    · rw [mrg_yes _ _ e]
      have hne : key y ≠ key x := fun h => by have := hk y x h; rw [e] at this; cases this
      simp only [List.cons_append, List.nil_append, List.filter_cons] at ih ⊢
      rw [ih]
      by_cases h1 : key y = c
      · have h2 : ¬ key x = c := fun h => hne (h1.trans h.symm)
        simp [h1, h2]
      · simp [h1]
theorem iso_filter {κ : Type} [DecidableEq κ] (key : α → κ) (c : κ) (hk : ∀ x y, key x = key y → lt x y = false) (l : List α) : (iso lt l).filter (fun z => decide (key z = c)) = l.filter (fun z => decide (key z = c)) := by
  induction l with
  | nil => rfl
  | cons x l ih =>
    rw [iso, mrg_filter key c hk]
    simp only [List.cons_append, List.nil_append, List.filter_cons]
    rw [ih]
end

end SS
end Go.Proofs.YtfbjakhanjbaeaaDoor

/- What the library's stable sort does to an array, against lists. -/
namespace Go.Proofs.YtfbjakhanjbaeaaDoor
open Go.Sort
set_option linter.unusedVariables false
set_option linter.unusedSimpArgs false
namespace SS
variable {α : Type} {lt : α → α → Bool}
theorem snoc (l : List α) : l = [] ∨ ∃ l' a, l = l' ++ [a] := by
  rcases List.eq_nil_or_concat l with h | ⟨l', a, h⟩
  · exact Or.inl h
  · exact Or.inr ⟨l', a, by rw [h, List.concat_eq_append]⟩
section
variable [Inhabited α]

theorem ar_at (P : List α) (x : α) (Q : List α) : (P ++ x :: Q).toArray[P.length]! = x := by
  rw [getElem!_pos _ _ (by simp)]; simp
theorem ar_at' {P : List α} {x : α} {Q : List α} {i : Nat} (h : i = P.length) : (P ++ x :: Q).toArray[i]! = x := by subst h; exact ar_at P x Q
theorem swp_list (P : List α) (x : α) (M : List α) (y : α) (R : List α) (i j : Nat) (hi : i = P.length) (hj : j = P.length + 1 + M.length) : swp (P ++ x :: (M ++ y :: R)).toArray i j = (P ++ y :: (M ++ x :: R)).toArray := by
  have e1 : (P ++ x :: (M ++ y :: R)).toArray[i]! = x := ar_at' hi
  have e2 : (P ++ x :: (M ++ y :: R)).toArray[j]! = y := by
    have := ar_at' (P := P ++ x :: M) (x := y) (Q := R) (i := j) (by simp; omega)
    simpa using this
  unfold swp
  rw [e1, e2]
  apply Array.toList_inj.mp
  rw [Array.toList_setIfInBounds, Array.toList_setIfInBounds]
  show ((P ++ x :: (M ++ y :: R)).set i y).set j x = _
  rw [hi, List.set_append_right _ _ (by omega), Nat.sub_self, List.set_cons_zero, hj, List.set_append_right _ _ (by omega), show P.length + 1 + M.length - P.length = M.length + 1 by omega, List.set_cons_succ, List.set_append_right _ _ (by omega), Nat.sub_self, List.set_cons_zero]
theorem swp_listR (P : List α) (x : α) (M : List α) (y : α) (R : List α) (i j : Nat) (hi : i = P.length) (hj : j = P.length + 1 + M.length) : swp (P ++ x :: (M ++ y :: R)).toArray j i = (P ++ y :: (M ++ x :: R)).toArray := by
  rw [← swp_list P x M y R i j hi hj]
  unfold swp
  exact Array.setIfInBounds_comm _ _ (by omega)

/-- two stretches changed with each other -/
def swr (d : Array α) (a b : Nat) : Nat → Array α
  | 0 => d
  | n + 1 => swp (swr d a b n) (a + n) (b + n)
theorem swp_size (d : Array α) (i j : Nat) : (swp d i j).size = d.size := by simp [swp]
theorem swr_size (d : Array α) (a b n : Nat) : (swr d a b n).size = d.size := by
  induction n with
  | zero => rfl
  | succ n ih => rw [swr, swp_size, ih]
theorem swr_list (A X M Y B : List α) (n : Nat) (hX : X.length = n) (hY : Y.length = n) (X2 Y2 : List α) (hxy : X2.length = Y2.length) :
    swr (A ++ (X ++ X2) ++ M ++ (Y ++ Y2) ++ B).toArray A.length (A.length + (X ++ X2).length + M.length) n = (A ++ (Y ++ X2) ++ M ++ (X ++ Y2) ++ B).toArray := by
  induction n generalizing X Y X2 Y2 with
  | zero =>
    have := List.eq_nil_of_length_eq_zero hX; have := List.eq_nil_of_length_eq_zero hY; subst X; subst Y; rfl
  | succ n ih =>
    obtain ⟨X', x, rfl⟩ : ∃ X' x, X = X' ++ [x] := by
      rcases snoc X with h | ⟨l, a, h⟩
      · rw [h] at hX; simp at hX
      · exact ⟨l, a, h⟩
    obtain ⟨Y', y, rfl⟩ : ∃ Y' y, Y = Y' ++ [y] := by
      rcases snoc Y with h | ⟨l, a, h⟩
      · rw [h] at hY; simp at hY
      · exact ⟨l, a, h⟩
    simp at hX hY
    have h := ih X' Y' hX hY (x :: X2) (y :: Y2) (by simp [hxy])
    rw [swr]
    have e : (X' ++ [x] ++ X2) = X' ++ x :: X2 := by simp
    have e' : (Y' ++ [y] ++ Y2) = Y' ++ y :: Y2 := by simp
    rw [e, e', h]
    have g := swp_list (A ++ Y') x (X2 ++ M ++ X') y (Y2 ++ B) (A.length + n) (A.length + (X' ++ x :: X2).length + M.length + n) (by simp [hY]) (by simp [hX, hY]; omega)
    simp only [List.append_assoc, List.cons_append, List.nil_append] at g ⊢
    exact g
theorem swr_whole (A X M Y B : List α) (a b n : Nat) (hX : X.length = n) (hY : Y.length = n) (ha : a = A.length) (hb : b = A.length + n + M.length) :
    swr (A ++ (X ++ (M ++ (Y ++ B)))).toArray a b n = (A ++ (Y ++ (M ++ (X ++ B)))).toArray := by
  have := swr_list A X M Y B n hX hY [] [] rfl
  simp only [List.append_nil, List.append_assoc, hX] at this
  rw [ha, hb]; exact this

/-- one thing carried up -/
def shU (d : Array α) (a : Nat) : Nat → Array α
  | 0 => d
  | t + 1 => swp (shU d a t) (a + t) (a + t + 1)
theorem shU_size (d : Array α) (a n : Nat) : (shU d a n).size = d.size := by
  induction n with
  | zero => rfl
  | succ n ih => rw [shU, swp_size, ih]
theorem shU_list (A : List α) (x : α) (Y R : List α) (a t : Nat) (ha : a = A.length) (ht : t = Y.length) : shU (A ++ x :: (Y ++ R)).toArray a t = (A ++ (Y ++ x :: R)).toArray := by
  induction t generalizing Y R with
  | zero => have := List.eq_nil_of_length_eq_zero ht.symm; subst Y; rfl
  | succ t ih =>
    obtain ⟨Y', y, rfl⟩ : ∃ Y' y, Y = Y' ++ [y] := by
      rcases snoc Y with h | ⟨l, a, h⟩
      · rw [h] at ht; simp at ht
      · exact ⟨l, a, h⟩
    simp at ht
    have h := ih Y' (y :: R) ht
    rw [shU, show (Y' ++ [y]) ++ R = Y' ++ y :: R by simp, h]
    have g := swp_list (A ++ Y') x [] y R (a + t) (a + t + 1) (by simp [ha, ht]) (by simp [ha, ht])
    simp only [List.append_assoc, List.cons_append, List.nil_append] at g ⊢
    exact g
/-- one thing carried down -/
def shD (d : Array α) (m : Nat) : Nat → Array α
  | 0 => d
  | t + 1 => swp (shD d m t) (m - t) (m - t - 1)
theorem shD_size (d : Array α) (a n : Nat) : (shD d a n).size = d.size := by
  induction n with
  | zero => rfl
  | succ n ih => rw [shD, swp_size, ih]
theorem shD_list (A X : List α) (y : α) (R : List α) (m t : Nat) (hm : m = A.length + X.length) (ht : t = X.length) : shD (A ++ (X ++ y :: R)).toArray m t = (A ++ y :: (X ++ R)).toArray := by
  induction t generalizing A X with
  | zero => have := List.eq_nil_of_length_eq_zero ht.symm; subst X; rfl
  | succ t ih =>
    cases X with
    | nil => simp at ht
    | cons x X =>
      simp at ht hm
      have h := ih (A ++ [x]) X (by simp; omega) ht
      rw [shD, show A ++ (x :: X ++ y :: R) = (A ++ [x]) ++ (X ++ y :: R) by simp, h]
      have g := swp_listR A x [] y (X ++ R) (m - t - 1) (m - t) (by omega) (by simp; omega)
      simp only [List.append_assoc, List.cons_append, List.nil_append] at g ⊢
      exact g

/-- the library's insertion sort of a stretch -/
theorem insInner_list (hw : Wk lt) (A : List α) (S : List α) (y : α) (R : List α) (a j : Nat) (ha : a = A.length) (hj : j = A.length + S.length) (hS : Sd lt S) : insInner lt a j (A ++ (S ++ y :: R)).toArray = (A ++ (mrg lt S [y] ++ R)).toArray := by
  induction j generalizing S R with
  | zero =>
    have := List.eq_nil_of_length_eq_zero (show S.length = 0 by omega); subst S
    rw [insInner]; simp
  | succ j ih =>
    rcases snoc S with h | ⟨S', x, hx⟩
    · subst S
      simp at hj
      have hn : ¬ (j + 1 > a) := by omega
      rw [insInner]
      simp [hn]
    · subst hx
      simp at hj
      have hgt : j + 1 > a := by omega
      have e1 : (A ++ ((S' ++ [x]) ++ y :: R)).toArray[j + 1]! = y := by
        have := ar_at' (P := A ++ (S' ++ [x])) (x := y) (Q := R) (i := j + 1) (by simp; omega)
        rwa [List.append_assoc] at this
      have e2 : (A ++ ((S' ++ [x]) ++ y :: R)).toArray[j]! = x := by
        have := ar_at' (P := A ++ S') (x := x) (Q := y :: R) (i := j) (by simp; omega)
        simpa using this
      have hp := List.pairwise_append.mp hS
      rw [insInner, e1, e2]
      cases e : lt y x
      · simp only [hgt, decide_true, Bool.and_false, Bool.false_eq_true, if_false]
        have := mrg_one_right (lt := lt) y (S' ++ [x]) [] (fun z hz => by
          rcases List.mem_append.mp hz with hz | hz
          · exact hw.neg y x z e (hp.2.2 z hz x (by simp))
          · simp at hz; rw [hz]; exact e) (by simp)
        rw [List.append_nil] at this
        rw [this]; simp
      · simp only [hgt, decide_true, Bool.and_self, if_true]
        have g := swp_listR (A ++ S') x [] y R j (j + 1) (by simp; omega) (by simp; omega)
        have g' : swp (A ++ ((S' ++ [x]) ++ y :: R)).toArray (j + 1) j = (A ++ (S' ++ y :: (x :: R))).toArray := by simpa using g
        rw [g', ih S' (x :: R) (by omega) hp.1]
        have := mrg_split (lt := lt) S' [x] [y] [] (by simp) (fun z hz u hu => by simp at hz hu; subst hz; subst hu; exact e)
        rw [List.append_nil, mrg_nil_right] at this
        rw [this]; simp
theorem insOuter_list (hw : Wk lt) (A X1 X2 B : List α) (a b i : Nat) (ha : a = A.length) (hi : i = A.length + X1.length) (hb : b = A.length + X1.length + X2.length) : insOuter lt a b i (A ++ (iso lt X1 ++ (X2 ++ B))).toArray = (A ++ (iso lt (X1 ++ X2) ++ B)).toArray := by
  induction X2 generalizing X1 i with
  | nil =>
    have hn : ¬ i < b := by simp at hb; omega
    rw [insOuter, if_neg hn]; simp
  | cons y X2 ih =>
    have hl : i < b := by simp at hb; omega
    rw [insOuter, if_pos hl]
    have h1 := insInner_list hw A (iso lt X1) y (X2 ++ B) a i ha (by rw [iso_len]; exact hi) (iso_sd hw X1)
    rw [show y :: X2 ++ B = y :: (X2 ++ B) from rfl, h1, ← iso_one (lt := lt) y, ← iso_append hw]
    have := ih (X1 ++ [y]) (i + 1) (by simp; omega) (by simp at hb ⊢; omega)
    rw [this]; simp
theorem insertion_list (hw : Wk lt) (A X B : List α) (a b : Nat) (ha : a = A.length) (hb : b = A.length + X.length) : insertionSort lt (A ++ (X ++ B)).toArray a b = (A ++ (iso lt X ++ B)).toArray := by
  unfold insertionSort
  cases X with
  | nil => rw [insOuter, if_neg (by simp at hb; omega)]; rfl
  | cons x X =>
    have := insOuter_list hw A [x] X B a b (a + 1) ha (by simp; omega) (by simp at hb ⊢; omega)
    rw [iso_one] at this
    simpa using this

end
/-- each stretch of s things sorted -/
def blk (lt : α → α → Bool) (s : Nat) (L : List α) : List α :=
  if h : s = 0 ∨ L = [] then [] else iso lt (L.take s) ++ blk lt s (L.drop s)
  termination_by L.length
  decreasing_by
    have h1 : L.length ≠ 0 := fun e => h (Or.inr (List.eq_nil_of_length_eq_zero e))
    have h2 : s ≠ 0 := fun e => h (Or.inl e)
    simp; omega
theorem blk_nil (s : Nat) : blk lt s [] = ([] : List α) := by rw [blk, dif_pos (Or.inr rfl)]
theorem blk_more {s : Nat} (hs : 0 < s) {L : List α} (hL : L ≠ []) : blk lt s L = iso lt (L.take s) ++ blk lt s (L.drop s) := by
  rw [blk, dif_neg (by rintro (h | h); omega; exact hL h)]
theorem blk_one {s : Nat} (hs : 0 < s) {L : List α} (h : L.length ≤ s) : blk lt s L = iso lt L := by
  cases L with
  | nil => rw [blk_nil]; rfl
  | cons x L => rw [blk_more hs (by simp), List.take_of_length_le h, List.drop_of_length_le h, blk_nil, List.append_nil]
theorem blk_two (hw : Wk lt) {s : Nat} (hs : 0 < s) {D : List α} (h : 2 * s ≤ D.length) : blk lt s D = iso lt (D.take s) ++ (iso lt ((D.drop s).take s) ++ blk lt s (D.drop (2 * s))) ∧ blk lt (2 * s) D = mrg lt (iso lt (D.take s)) (iso lt ((D.drop s).take s)) ++ blk lt (2 * s) (D.drop (2 * s)) := by
  have h1 : D ≠ [] := by intro e; subst e; simp at h; omega
  have h2 : D.drop s ≠ [] := by intro e; have := congrArg List.length e; simp at this; omega
  refine ⟨by rw [blk_more hs h1, blk_more hs h2, List.drop_drop, show s + s = 2 * s by omega], ?_⟩
  rw [blk_more (by omega) h1, ← iso_append hw, show 2 * s = s + s by omega, List.take_add]
theorem blk_last (hw : Wk lt) {s : Nat} (hs : 0 < s) {D : List α} (h : s < D.length) (h' : D.length < 2 * s) : blk lt s D = iso lt (D.take s) ++ iso lt (D.drop s) ∧ blk lt (2 * s) D = mrg lt (iso lt (D.take s)) (iso lt (D.drop s)) := by
  have h1 : D ≠ [] := by intro e; subst e; simp at h
  refine ⟨by rw [blk_more hs h1, blk_one hs (by simp; omega)], ?_⟩
  rw [blk_one (by omega) (by omega), ← iso_append hw, List.take_append_drop]

/-- where the merge is cut: n things of the first list's end stay behind -/
theorem cut_ok (hw : Wk lt) (X1 X2 Y1 Y2 : List α) (hX : Sd lt (X1 ++ X2)) (hY : Sd lt (Y1 ++ Y2))
    (h1 : ∀ x, X1.getLast? = some x → ∀ y, Y2.head? = some y → lt y x = false) (h2 : ∀ y, Y1.getLast? = some y → ∀ x, X2.head? = some x → lt y x = true) : mrg lt (X1 ++ X2) (Y1 ++ Y2) = mrg lt X1 Y1 ++ mrg lt X2 Y2 := by
  have pX := List.pairwise_append.mp hX
  have pY := List.pairwise_append.mp hY
  have last : ∀ {l : List α}, Sd lt l → ∀ x, l.getLast? = some x → ∀ z ∈ l, lt x z = false := by
    intro l hl x hx z hz
    obtain ⟨l', rfl⟩ : ∃ l', l = l' ++ [x] := by
      rcases snoc l with h | ⟨l', a, this⟩
      · subst h; simp at hx
      · subst this; simp at hx; subst hx; exact ⟨l', rfl⟩
    rcases List.mem_append.mp hz with hz | hz
    · exact (List.pairwise_append.mp hl).2.2 z hz x (by simp)
    · simp at hz; subst hz; exact hw.irr _
  have hd : ∀ {l : List α}, Sd lt l → ∀ x, l.head? = some x → ∀ z ∈ l, lt z x = false := by
    intro l hl x hx z hz
    cases l with
    | nil => simp at hx
    | cons a l =>
      simp at hx; subst hx
      rcases List.mem_cons.mp hz with rfl | hz
      · exact hw.irr _
      · exact (List.pairwise_cons.mp hl).1 z hz
  refine mrg_split X1 X2 Y1 Y2 (fun x hx y hy => ?_) (fun y hy x hx => ?_)
  · cases hl : X1.getLast? with
    | none => rw [List.getLast?_eq_none_iff] at hl; subst hl; cases hx
    | some a =>
      cases hh : Y2.head? with
      | none => rw [List.head?_eq_none_iff] at hh; subst hh; cases hy
      | some b => exact hw.neg _ _ _ (hw.neg _ _ _ (hd pY.2.1 b hh y hy) (h1 a hl b hh)) (last pX.1 a hl x hx)
  · cases hl : Y1.getLast? with
    | none => rw [List.getLast?_eq_none_iff] at hl; subst hl; cases hy
    | some a =>
      cases hh : X2.head? with
      | none => rw [List.head?_eq_none_iff] at hh; subst hh; cases hx
      | some b => exact hw.lt_le (hw.le_lt (last pY.1 a hl y hy) (h2 a hl b hh)) (hd pX.2.1 b hh x hx)
end SS
end Go.Proofs.YtfbjakhanjbaeaaDoor

/- Where a stable merge is cut: what a search finds. -/
namespace Go.Proofs.YtfbjakhanjbaeaaDoor
open Go.Sort
set_option linter.unusedVariables false
set_option linter.unusedSimpArgs false
set_option linter.unusedSectionVars false
set_option linter.unnecessarySimpa false
namespace SS
/-- a search under way: true below i, false from j on -/
structure Bs (p : Nat → Bool) (lo hi i j : Nat) : Prop where
  a : lo ≤ i
  b : i ≤ j
  c : j ≤ hi
  t : ∀ c, lo ≤ c → c < i → p c = true
  f : ∀ c, j ≤ c → c < hi → p c = false
theorem Bs.start {p : Nat → Bool} {lo hi : Nat} (h : lo ≤ hi) : Bs p lo hi lo hi := ⟨Nat.le_refl _, h, Nat.le_refl _, fun c h1 h2 => by omega, fun c h1 h2 => by omega⟩
theorem Bs.up {p : Nat → Bool} {lo hi i j : Nat} (h : Bs p lo hi i j) (hm : ∀ c c', lo ≤ c → c ≤ c' → c' < hi → p c' = true → p c = true) (hlt : i < j) (hp : p ((i + j) / 2) = true) : Bs p lo hi ((i + j) / 2 + 1) j := by
  have := h.a; have := h.b; have := h.c
  exact ⟨by omega, by omega, h.c, fun c h1 h2 => hm c _ h1 (by omega) (by omega) hp, h.f⟩
theorem Bs.dn {p : Nat → Bool} {lo hi i j : Nat} (h : Bs p lo hi i j) (hm : ∀ c c', lo ≤ c → c ≤ c' → c' < hi → p c' = true → p c = true) (hlt : i < j) (hp : p ((i + j) / 2) = false) : Bs p lo hi i ((i + j) / 2) := by
  have := h.a; have := h.b; have := h.c
  refine ⟨h.a, by omega, by omega, h.t, fun c h1 h2 => ?_⟩
  cases e : p c
  · rfl
  · have := hm _ c (by omega) h1 h2 e
    rw [hp] at this; cases this

variable {α : Type} [Inhabited α] {lt : α → α → Bool}
theorem arr_at (A X R : List α) {c : Nat} (h1 : A.length ≤ c) (h2 : c < A.length + X.length) : (A ++ (X ++ R)).toArray[c]! = X[c - A.length]'(by omega) := by
  rw [getElem!_pos _ _ (by simp; omega)]
  show (A ++ (X ++ R))[c]'(by simp; omega) = _
  rw [List.getElem_append_right h1, List.getElem_append_left (by omega)]
theorem Sd.le (hw : Wk lt) {X : List α} (h : Sd lt X) {i j : Nat} (hij : i ≤ j) (hj : j < X.length) : lt X[j] (X[i]'(by omega)) = false := by
  rcases Nat.lt_or_ge i j with h' | h'
  · exact List.pairwise_iff_getElem.1 h i j (by omega) hj h'
  · have : i = j := by omega
    subst this; exact hw.irr _

/-- one thing ahead -/
theorem m1_mono (hw : Wk lt) (A : List α) (x : α) (Y B : List α) (hY : Sd lt Y) (c c' : Nat) (h1 : A.length + 1 ≤ c) (h2 : c ≤ c') (h3 : c' < A.length + 1 + Y.length)
    (h : lt (A ++ ([x] ++ (Y ++ B))).toArray[c']! (A ++ ([x] ++ (Y ++ B))).toArray[A.length]! = true) : lt (A ++ ([x] ++ (Y ++ B))).toArray[c]! (A ++ ([x] ++ (Y ++ B))).toArray[A.length]! = true := by
  have e : ∀ c, (h1 : A.length + 1 ≤ c) → (hc : c < A.length + 1 + Y.length) → (A ++ ([x] ++ (Y ++ B))).toArray[c]! = Y[c - (A.length + 1)]'(by omega) := fun c h1 hc => by
    have := arr_at (A ++ [x]) Y B (c := c) (by simp; omega) (by simp; omega)
    simp only [List.append_assoc, List.length_append, List.length_singleton] at this
    exact this
  rw [e c' (by omega) h3] at h
  rw [e c h1 (by omega)]
  exact hw.le_lt (Sd.le hw hY (by omega) (by omega)) h
theorem m1_end (hw : Wk lt) (A : List α) (x : α) (Y B : List α) (i : Nat)
    (h : Bs (fun c => lt (A ++ ([x] ++ (Y ++ B))).toArray[c]! (A ++ ([x] ++ (Y ++ B))).toArray[A.length]!) (A.length + 1) (A.length + 1 + Y.length) i i) :
    shU (A ++ ([x] ++ (Y ++ B))).toArray A.length (i - (A.length + 1)) = (A ++ (mrg lt [x] Y ++ B)).toArray := by
  have e : ∀ c, (h1 : A.length + 1 ≤ c) → (hc : c < A.length + 1 + Y.length) → (A ++ ([x] ++ (Y ++ B))).toArray[c]! = Y[c - (A.length + 1)]'(by omega) := fun c h1 hc => by
    have := arr_at (A ++ [x]) Y B (c := c) (by simp; omega) (by simp; omega)
    simp only [List.append_assoc, List.length_append, List.length_singleton] at this
    exact this
  have e0 : (A ++ ([x] ++ (Y ++ B))).toArray[A.length]! = x := ar_at A x (Y ++ B)
  have ha := h.a; have hc := h.c
  obtain ⟨t, ht⟩ : ∃ t, t = i - (A.length + 1) := ⟨_, rfl⟩
  have hm := mrg_one_left (lt := lt) x (Y.take t) (Y.drop t) (fun y hy => by
    obtain ⟨n, hn, rfl⟩ := List.mem_iff_getElem.1 hy
    rw [List.getElem_drop]
    simp at hn
    have := h.f (A.length + 1 + (t + n)) (by omega) (by omega)
    rw [e0, e _ (by omega) (by omega)] at this
    simpa using this) (fun y hy => by
    obtain ⟨n, hn, rfl⟩ := List.mem_iff_getElem.1 hy
    rw [List.getElem_take]
    simp at hn
    have := h.t (A.length + 1 + n) (by omega) (by omega)
    rw [e0, e _ (by omega) (by omega)] at this
    simpa using this)
  rw [List.take_append_drop] at hm
  rw [hm, ← ht]
  have := shU_list A x (Y.take t) (Y.drop t ++ B) A.length t rfl (by simp; omega)
  rw [← List.append_assoc (Y.take t), List.take_append_drop] at this
  show shU (A ++ x :: (Y ++ B)).toArray A.length t = _
  rw [this]; simp

/-- one thing behind -/
theorem m2_mono (hw : Wk lt) (A X : List α) (y : α) (B : List α) (hX : Sd lt X) (c c' : Nat) (h1 : A.length ≤ c) (h2 : c ≤ c') (h3 : c' < A.length + X.length)
    (h : (!lt (A ++ (X ++ ([y] ++ B))).toArray[A.length + X.length]! (A ++ (X ++ ([y] ++ B))).toArray[c']!) = true) : (!lt (A ++ (X ++ ([y] ++ B))).toArray[A.length + X.length]! (A ++ (X ++ ([y] ++ B))).toArray[c]!) = true := by
  rw [arr_at A X _ (c := c') (by omega) h3, Bool.not_eq_true'] at h
  rw [arr_at A X _ h1 (by omega), Bool.not_eq_true']
  exact hw.neg _ _ _ h (Sd.le hw hX (by omega) (by omega))
theorem m2_end (hw : Wk lt) (A X : List α) (y : α) (B : List α) (i : Nat)
    (h : Bs (fun c => !lt (A ++ (X ++ ([y] ++ B))).toArray[A.length + X.length]! (A ++ (X ++ ([y] ++ B))).toArray[c]!) A.length (A.length + X.length) i i) :
    shD (A ++ (X ++ ([y] ++ B))).toArray (A.length + X.length) (A.length + X.length - i) = (A ++ (mrg lt X [y] ++ B)).toArray := by
  have e0 : (A ++ (X ++ ([y] ++ B))).toArray[A.length + X.length]! = y := by
    have := ar_at' (P := A ++ X) (x := y) (Q := B) (i := A.length + X.length) (by simp)
    simpa using this
  have ha := h.a; have hc := h.c
  obtain ⟨t, ht⟩ : ∃ t, t = i - A.length := ⟨_, rfl⟩
  have hm := mrg_one_right (lt := lt) y (X.take t) (X.drop t) (fun x hx => by
    obtain ⟨n, hn, rfl⟩ := List.mem_iff_getElem.1 hx
    rw [List.getElem_take]
    simp at hn
    have := h.t (A.length + n) (by omega) (by omega)
    rw [e0, arr_at A X _ (by omega) (by omega)] at this
    simpa using this) (fun x hx => by
    obtain ⟨n, hn, rfl⟩ := List.mem_iff_getElem.1 hx
    rw [List.getElem_drop]
    simp at hn
    have := h.f (A.length + (t + n)) (by omega) (by omega)
    rw [e0, arr_at A X _ (by omega) (by omega)] at this
    simpa using this)
  rw [List.take_append_drop] at hm
  rw [hm]
  have := shD_list (A ++ X.take t) (X.drop t) y B (A.length + X.length) (A.length + X.length - i) (by simp; omega) (by simp; omega)
  simp only [List.append_assoc] at this
  rw [← List.append_assoc (X.take t), List.take_append_drop] at this
  show shD (A ++ (X ++ y :: B)).toArray _ _ = _
  rw [this]; simp

/-- in the middle: c of the first list against n - 1 - c of the second -/
theorem m3_mono (hw : Wk lt) (A X Y B : List α) (hX : Sd lt X) (hY : Sd lt Y) (n lo hi : Nat) (hlo : A.length ≤ lo) (hhi : hi ≤ A.length + X.length) (hn1 : A.length + X.length + hi ≤ n) (hn2 : n ≤ lo + (A.length + X.length + Y.length))
    (c c' : Nat) (h1 : lo ≤ c) (h2 : c ≤ c') (h3 : c' < hi)
    (h : (!lt (A ++ (X ++ (Y ++ B))).toArray[n - 1 - c']! (A ++ (X ++ (Y ++ B))).toArray[c']!) = true) : (!lt (A ++ (X ++ (Y ++ B))).toArray[n - 1 - c]! (A ++ (X ++ (Y ++ B))).toArray[c]!) = true := by
  have e : ∀ c, (h1 : A.length + X.length ≤ c) → (hc : c < A.length + X.length + Y.length) → (A ++ (X ++ (Y ++ B))).toArray[c]! = Y[c - (A.length + X.length)]'(by omega) := fun c h1 hc => by
    have := arr_at (A ++ X) Y B (c := c) (by simp; omega) (by simp; omega)
    simp only [List.append_assoc, List.length_append] at this
    exact this
  rw [arr_at A X _ (c := c') (by omega) (by omega), e (n - 1 - c') (by omega) (by omega), Bool.not_eq_true'] at h
  rw [arr_at A X _ (c := c) (by omega) (by omega), e (n - 1 - c) (by omega) (by omega), Bool.not_eq_true']
  exact hw.neg _ _ _ (Sd.le hw hY (by omega) (by omega)) (hw.neg _ _ _ h (Sd.le hw hX (by omega) (by omega)))
theorem m3_end (hw : Wk lt) (A X Y B : List α) (hX : Sd lt X) (hY : Sd lt Y) (n lo hi s : Nat) (hlo : lo = max A.length (n - (A.length + X.length + Y.length))) (hhi : hi = min (A.length + X.length) (n - (A.length + X.length))) (hn1 : A.length + (A.length + X.length) ≤ n) (hn2 : n ≤ A.length + X.length + (A.length + X.length + Y.length))
    (h : Bs (fun c => !lt (A ++ (X ++ (Y ++ B))).toArray[n - 1 - c]! (A ++ (X ++ (Y ++ B))).toArray[c]!) lo hi s s) :
    mrg lt X Y = mrg lt (X.take (s - A.length)) (Y.take (n - s - (A.length + X.length))) ++ mrg lt (X.drop (s - A.length)) (Y.drop (n - s - (A.length + X.length))) := by
  have e : ∀ c, (h1 : A.length + X.length ≤ c) → (hc : c < A.length + X.length + Y.length) → (A ++ (X ++ (Y ++ B))).toArray[c]! = Y[c - (A.length + X.length)]'(by omega) := fun c h1 hc => by
    have := arr_at (A ++ X) Y B (c := c) (by simp; omega) (by simp; omega)
    simp only [List.append_assoc, List.length_append] at this
    exact this
  have ha := h.a; have hc := h.c
  have := cut_ok hw (X.take (s - A.length)) (X.drop (s - A.length)) (Y.take (n - s - (A.length + X.length))) (Y.drop (n - s - (A.length + X.length))) (by rwa [List.take_append_drop]) (by rwa [List.take_append_drop])
    (fun x hx y hy => by
      rw [List.getLast?_eq_getElem?, List.length_take] at hx
      obtain ⟨hx1, hx2⟩ := List.getElem?_eq_some_iff.1 hx
      rw [List.getElem_take] at hx2
      rw [List.length_take] at hx1
      rw [List.head?_eq_getElem?, List.getElem?_drop] at hy
      obtain ⟨hy1, hy2⟩ := List.getElem?_eq_some_iff.1 hy
      have := h.t (s - 1) (by omega) (by omega)
      rw [arr_at A X _ (c := s - 1) (by omega) (by omega), e (n - 1 - (s - 1)) (by omega) (by omega), Bool.not_eq_true'] at this
      rw [← hx2, ← hy2]
      have q1 : s - 1 - A.length = min (s - A.length) X.length - 1 := by omega
      have q2 : n - 1 - (s - 1) - (A.length + X.length) = n - s - (A.length + X.length) + 0 := by omega
      simp only [q1, q2] at this
      exact this)
    (fun y hy x hx => by
      rw [List.getLast?_eq_getElem?, List.length_take] at hy
      obtain ⟨hy1, hy2⟩ := List.getElem?_eq_some_iff.1 hy
      rw [List.getElem_take] at hy2
      rw [List.length_take] at hy1
      rw [List.head?_eq_getElem?, List.getElem?_drop] at hx
      obtain ⟨hx1, hx2⟩ := List.getElem?_eq_some_iff.1 hx
      have := h.f s (by omega) (by omega)
      rw [arr_at A X _ (c := s) (by omega) (by omega), e (n - 1 - s) (by omega) (by omega), Bool.not_eq_false'] at this
      rw [← hx2, ← hy2]
      have q1 : s - A.length = s - A.length + 0 := by omega
      have q2 : n - 1 - s - (A.length + X.length) = min (n - s - (A.length + X.length)) Y.length - 1 := by omega
      simp only [q2] at this
      exact this)
  rwa [List.take_append_drop, List.take_append_drop] at this
end SS
end Go.Proofs.YtfbjakhanjbaeaaDoor

/- The library's stable sort: blocks sorted, then merged two by two. -/
namespace Go.Proofs.YtfbjakhanjbaeaaDoor
open Go.Sort
set_option linter.unusedVariables false
set_option linter.unusedSimpArgs false
namespace SS
variable {α : Type} {lt : α → α → Bool}
/-- the blocks ahead of a are sorted -/
def I1 (lt : α → α → Bool) (L : List α) (s a : Nat) (d : Array α) : Prop :=
  ∃ Q : List α, Q.length = a ∧ a ≤ L.length ∧ d = (Q ++ L.drop a).toArray ∧ Q ++ blk lt s (L.drop a) = blk lt s L
theorem I1.start (L : List α) (s : Nat) : I1 lt L s 0 L.toArray := ⟨[], rfl, Nat.zero_le _, by simp, by simp⟩
theorem I1.step {L : List α} {s a : Nat} {d : Array α} (h : I1 lt L s a d) (hs : 0 < s) (ha : a + s ≤ L.length) : ∃ A X B : List α, d = (A ++ (X ++ B)).toArray ∧ A.length = a ∧ X.length = s ∧ (A ++ (X ++ B)).length = L.length ∧ I1 lt L s (a + s) (A ++ (iso lt X ++ B)).toArray := by
  obtain ⟨Q, h1, h2, rfl, h4⟩ := h
  refine ⟨Q, (L.drop a).take s, L.drop (a + s), ?_, h1, by simp; omega, by simp; omega, Q ++ iso lt ((L.drop a).take s), by simp [iso_len]; omega, ha, by simp, ?_⟩
  · rw [← List.drop_drop, List.take_append_drop]
  · have hne : L.drop a ≠ [] := by intro e; have := List.length_eq_zero_iff.2 e; simp at this; omega
    rw [← h4, blk_more hs hne, List.drop_drop]; simp
theorem I1.last {L : List α} {s a : Nat} {d : Array α} (h : I1 lt L s a d) (hs : 0 < s) (ha : L.length < a + s) : ∃ A X : List α, d = (A ++ (X ++ [])).toArray ∧ A.length = a ∧ A.length + X.length = L.length ∧ a ≤ L.length ∧ (A ++ (iso lt X ++ [])) = blk lt s L := by
  obtain ⟨Q, h1, h2, rfl, h4⟩ := h
  refine ⟨Q, L.drop a, by simp, h1, by simp; omega, h2, ?_⟩
  rw [← h4, blk_one hs (by simp; omega)]; simp
/-- the blocks ahead of a are merged two by two -/
def I2 (lt : α → α → Bool) (L : List α) (s a : Nat) (d : Array α) : Prop :=
  ∃ Q : List α, Q.length = a ∧ a ≤ L.length ∧ d = (Q ++ blk lt s (L.drop a)).toArray ∧ Q ++ blk lt (2 * s) (L.drop a) = blk lt (2 * s) L
theorem blk_len {s : Nat} (hs : 0 < s) (L : List α) : (blk lt s L).length = L.length := by
  induction h : L.length using Nat.strongRecOn generalizing L with
  | ind n ih =>
    cases L with
    | nil => rw [blk_nil]; simpa using h
    | cons x L =>
      rw [blk_more hs (by simp), List.length_append, iso_len, ih ((x :: L).drop s).length (by simp at h ⊢; omega) _ rfl]
      simp at h ⊢; omega
theorem I2.start (L : List α) (s : Nat) : I2 lt L s 0 (blk lt s L).toArray := ⟨[], rfl, Nat.zero_le _, by simp, by simp⟩
theorem I2.step {L : List α} {s a : Nat} {d : Array α} (hw : Wk lt) (h : I2 lt L s a d) (hs : 0 < s) (ha : a + 2 * s ≤ L.length) : ∃ A X Y B : List α, d = (A ++ (X ++ (Y ++ B))).toArray ∧ A.length = a ∧ X.length = s ∧ Y.length = s ∧ (A ++ (X ++ (Y ++ B))).length = L.length ∧ Sd lt X ∧ Sd lt Y ∧ I2 lt L s (a + 2 * s) (A ++ (mrg lt X Y ++ B)).toArray := by
  obtain ⟨Q, h1, h2, rfl, h4⟩ := h
  obtain ⟨e1, e2⟩ := blk_two hw hs (D := L.drop a) (by simp; omega)
  have hl := blk_len (lt := lt) hs (L.drop a)
  rw [e1] at hl
  rw [e2] at h4
  rw [List.drop_drop] at e1 hl h4
  refine ⟨Q, iso lt ((L.drop a).take s), iso lt ((L.drop (a + s)).take s), blk lt s (L.drop (a + 2 * s)), ?_, h1, by rw [iso_len]; simp; omega, by rw [iso_len]; simp; omega, ?_, iso_sd hw _, iso_sd hw _, Q ++ mrg lt (iso lt ((L.drop a).take s)) (iso lt ((L.drop (a + s)).take s)), ?_, ha, by simp, ?_⟩
  · rw [e1, List.drop_drop]
  · rw [List.drop_drop] at hl; rw [List.length_append, hl]; simp; omega
  · rw [List.length_append, mrg_len, iso_len, iso_len]; simp; omega
  · rw [List.drop_drop] at h4; rw [← h4]; simp
theorem I2.last {L : List α} {s a : Nat} {d : Array α} (hw : Wk lt) (h : I2 lt L s a d) (hs : 0 < s) (ha : a + s < L.length) (hb : L.length < a + 2 * s) : ∃ A X Y : List α, d = (A ++ (X ++ (Y ++ []))).toArray ∧ A.length = a ∧ X.length = s ∧ A.length + X.length + Y.length = L.length ∧ Sd lt X ∧ Sd lt Y ∧ (A ++ (mrg lt X Y ++ [])) = blk lt (2 * s) L := by
  obtain ⟨Q, h1, h2, rfl, h4⟩ := h
  obtain ⟨e1, e2⟩ := blk_last hw hs (D := L.drop a) (by simp; omega) (by simp; omega)
  refine ⟨Q, iso lt ((L.drop a).take s), iso lt ((L.drop a).drop s), by rw [e1]; simp, h1, by rw [iso_len]; simp; omega, by rw [iso_len, iso_len]; simp; omega, iso_sd hw _, iso_sd hw _, ?_⟩
  rw [← h4, e2]; simp
theorem I2.end' {L : List α} {s a : Nat} {d : Array α} (h : I2 lt L s a d) (hs : 0 < s) (ha : L.length ≤ a + s) : d = (blk lt (2 * s) L).toArray := by
  obtain ⟨Q, h1, h2, rfl, h4⟩ := h
  rw [← h4, blk_one hs (by simp; omega), blk_one (by omega) (by simp; omega)]
theorem I2.le {L : List α} {s a : Nat} {d : Array α} (h : I2 lt L s a d) : a ≤ L.length := by obtain ⟨_, _, h2, _⟩ := h; exact h2
theorem I1.le {L : List α} {s a : Nat} {d : Array α} (h : I1 lt L s a d) : a ≤ L.length := by obtain ⟨_, _, h2, _⟩ := h; exact h2
end SS
end Go.Proofs.YtfbjakhanjbaeaaDoor

/- The compaction of a row. -/
namespace Go.Proofs.YtfbjakhanjbaeaaDoor
set_option linter.unusedVariables false
set_option linter.unusedSimpArgs false
namespace SS
variable {α : Type}
/-- one of each run of equals that stand beside each other: the first one -/
def cpa (eq : α → α → Bool) : List α → List α
  | [] => []
  | x :: l => x :: go x l
  where go (p : α) : List α → List α
  | [] => []
  | y :: l => if eq y p = true then go y l else y :: go y l
theorem cpa_go (eq : α → α → Bool) (p : α) (l : List α) (x y : α) (hx : (p :: l).getLast? = some x) : cpa.go eq p (l ++ [y]) = if eq y x = true then cpa.go eq p l else cpa.go eq p l ++ [y] := by
  induction l generalizing p with
  | nil => simp at hx; subst hx; simp [cpa.go]
  | cons z l ih =>
    have := ih z (by simpa using hx)
    rw [List.cons_append, cpa.go, cpa.go, this]
    by_cases h1 : eq z p = true <;> by_cases h2 : eq y x = true <;> simp [h1, h2]
theorem cpa_snoc (eq : α → α → Bool) (l : List α) (x y : α) (hx : l.getLast? = some x) : cpa eq (l ++ [y]) = if eq y x = true then cpa eq l else cpa eq l ++ [y] := by
  cases l with
  | nil => simp at hx
  | cons p l =>
    show p :: cpa.go eq p (l ++ [y]) = _
    rw [cpa_go eq p l x y hx]
    by_cases h : eq y x = true <;> simp [h, cpa]
/-- the compaction of a row under way: k things stand, j were looked at -/
structure CI (eq : α → α → Bool) (L : List α) (k j : Nat) (d : List α) : Prop where
  n : d.length = L.length
  k1 : 1 ≤ k
  kj : k ≤ j
  jn : j ≤ L.length
  t : d.take k = cpa eq (L.take j)
  r : ∀ i, k ≤ i → d[i]? = L[i]?
theorem take_last (L : List α) (j : Nat) (x : α) (hj : 1 ≤ j) (hx : L[j - 1]? = some x) : (L.take j).getLast? = some x := by
  have := (List.getElem?_eq_some_iff.1 hx).1
  rw [List.getLast?_eq_getElem?, List.length_take, Nat.min_eq_left (by omega), List.getElem?_take, if_pos (by omega), hx]
theorem take_snoc (L : List α) (j : Nat) (y : α) (hy : L[j]? = some y) : L.take (j + 1) = L.take j ++ [y] := by
  rw [List.take_add_one, hy]; rfl
theorem CI.start (eq : α → α → Bool) (L : List α) (h : 1 ≤ L.length) : CI eq L 1 1 L := by
  refine ⟨rfl, Nat.le_refl _, Nat.le_refl _, h, ?_, fun i _ => rfl⟩
  cases L with
  | nil => simp at h
  | cons x L => simp [cpa, cpa.go]
theorem CI.next {eq : α → α → Bool} {L : List α} {k : Nat} (h : CI eq L k k L) {x y : α} (hy : L[k]? = some y) (hx : L[k - 1]? = some x) (he : eq y x = false) : CI eq L (k + 1) (k + 1) L := by
  have := (List.getElem?_eq_some_iff.1 hy).1
  refine ⟨rfl, by omega, by omega, by omega, ?_, fun i _ => rfl⟩
  rw [take_snoc L k y hy, cpa_snoc eq _ x y (take_last L k x h.k1 hx), he, ← h.t]
  simp
theorem CI.skip {eq : α → α → Bool} {L d : List α} {k j : Nat} (h : CI eq L k j d) {x y : α} (hy : L[j]? = some y) (hx : L[j - 1]? = some x) (he : eq y x = true) : CI eq L k (j + 1) d := by
  have := (List.getElem?_eq_some_iff.1 hy).1
  have h1 := h.k1; have h2 := h.kj
  refine ⟨h.n, h1, by omega, by omega, ?_, h.r⟩
  rw [take_snoc L j y hy, cpa_snoc eq _ x y (take_last L j x (by omega) hx), he, h.t]
  simp
theorem CI.keep {eq : α → α → Bool} {L d : List α} {k j : Nat} (h : CI eq L k j d) (hkj : k < j) {x y : α} (hy : L[j]? = some y) (hx : L[j - 1]? = some x) (he : eq y x = false) : CI eq L (k + 1) (j + 1) (d.set k y) := by
  have := (List.getElem?_eq_some_iff.1 hy).1
  have h1 := h.k1; have h2 := h.n
  refine ⟨by rw [List.length_set]; exact h2, by omega, by omega, by omega, ?_, fun i hi => by rw [List.getElem?_set_ne (by omega)]; exact h.r i (by omega)⟩
  rw [take_snoc L j y hy, cpa_snoc eq _ x y (take_last L j x (by omega) hx), he, ← h.t, List.take_add_one, List.getElem?_set_self (by omega), List.take_set_of_le (Nat.le_refl _)]
  simp
theorem CI.at' {eq : α → α → Bool} {L d : List α} {k j : Nat} (h : CI eq L k j d) {i : Nat} (hi : k ≤ i) {y : α} (hy : L[i]? = some y) : d[i]? = some y := by rw [h.r i hi]; exact hy
theorem CI.all {eq : α → α → Bool} {L d : List α} {k : Nat} (h : CI eq L k L.length d) : d.take k = cpa eq L ∧ k = (cpa eq L).length := by
  have h1 := h.t
  rw [List.take_of_length_le (Nat.le_refl _)] at h1
  refine ⟨h1, ?_⟩
  rw [← h1, List.length_take, h.n, Nat.min_eq_left h.kj]
theorem cpa_none (eq : α → α → Bool) (L : List α) (h : CI eq L L.length L.length L) : cpa eq L = L := by
  have := h.all.1; rw [List.take_of_length_le (Nat.le_refl _)] at this; exact this.symm
theorem cpa_short (eq : α → α → Bool) (L : List α) (h : L.length < 2) : cpa eq L = L := by
  match L, h with
  | [], _ => rfl
  | [x], _ => rfl
end SS
end Go.Proofs.YtfbjakhanjbaeaaDoor
