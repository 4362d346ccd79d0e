/- Builds' texts, on lists: what is written is read as it was, what is read is written so; where a line is none's. -/
import Derived.Test.YtjbffhdccgmfpaaGreatDoorRMath
namespace Go.Proofs.YtjbffhdccgmfpaaGreatDoor.RC
set_option linter.unusedVariables false

theorem join_not (c d : UInt8) (h : c ≠ d) : ∀ (ws : List Bs), (∀ w ∈ ws, c ∉ w) → c ∉ Lib.join ws [d]
  | [], _ => by simp [Lib.join_nil]
  | w :: r, hw => by
    rw [Lib.join_cons]
    simp only [Lib.joinTail, List.mem_append, List.mem_flatten, List.mem_map, not_or, not_exists, not_and]
    refine ⟨hw w (by simp), ?_⟩
    rintro x ⟨y, hy, rfl⟩
    simp [h, hw y (by simp [hy])]
theorem parseF_fuel : ∀ (f f' : Nat) (g : Gr) (n : Nat) (t : Bs), t.length ≤ f → t.length ≤ f' → parseF f g n t = parseF f' g n t
  | 0, 0, g, n, t, _, _ => rfl
  | 0, f' + 1, g, n, t, h, _ => by
    have : t = [] := List.length_eq_zero_iff.1 (by omega)
    subst this; simp [parseF]
  | f + 1, 0, g, n, t, _, h => by
    have : t = [] := List.length_eq_zero_iff.1 (by omega)
    subst this; simp [parseF]
  | f + 1, f' + 1, g, n, t, h, h' => by
    unfold parseF
    split
    · rfl
    · cases hc : cutL 10 t with
      | none => rfl
      | some x =>
        obtain ⟨one, rest⟩ := x
        have := cutL_len 10 t one rest hc
        simp only []
        cases addL g (spl 32 one) with
        | none => rfl
        | some g' => exact parseF_fuel f f' g' (n + 1) rest (by omega) (by omega)
/-- what is read from line n on -/
def P (g : Gr) (n : Nat) (t : Bs) : Gr ⊕ (Nat × Nat) := parseF t.length g n t
theorem P_nil (g : Gr) (n : Nat) : P g n [] = .inl g := rfl
theorem P_cut (g : Gr) (n : Nat) (t one rest : Bs) (h : cutL 10 t = some (one, rest)) : P g n t = match addL g (spl 32 one) with
    | none => .inr (n, 24)
    | some g' => P g' (n + 1) rest := by
  have hl := cutL_len 10 t one rest h
  have ht : t ≠ [] := by intro e; subst e; simp at hl
  unfold P
  rw [show t.length = (one.length + rest.length) + 1 by omega, parseF, if_neg ht, h]
  simp only []
  cases addL g (spl 32 one) with
  | none => rfl
  | some g' => exact parseF_fuel _ _ g' (n + 1) rest (by omega) (by omega)
theorem P_end (g : Gr) (n : Nat) (t : Bs) (h : cutL 10 t = none) (ht : t ≠ []) : P g n t = .inr (n, 3) := by
  unfold P
  cases hl : t.length with
  | zero => exact absurd (List.length_eq_zero_iff.1 hl) ht
  | succ k => rw [parseF, if_neg ht, h]
/-- words of which none holds a blank or a line's end -/
def okW (ws : List Bs) : Prop := ws ≠ [] ∧ ∀ w ∈ ws, (32 : UInt8) ∉ w ∧ (10 : UInt8) ∉ w
theorem P_line (g : Gr) (n : Nat) (ws : List Bs) (t : Bs) (h : okW ws) : P g n (line ws ++ t) = match addL g ws with
    | none => .inr (n, 24)
    | some g' => P g' (n + 1) t := by
  have e : line ws ++ t = Lib.join ws [32] ++ 10 :: t := by simp [line]
  have hn : (10 : UInt8) ∉ Lib.join ws [32] := join_not 10 32 (by decide) ws (fun w hw => (h.2 w hw).2)
  rw [e, P_cut g n _ _ _ (cutL_mk 10 _ t hn), join_spl 32 ws h.1 (fun w hw => (h.2 w hw).1)]
theorem nm_ok {s : Bs} (h : isNm s = true) : (32 : UInt8) ∉ s ∧ (10 : UInt8) ∉ s := ⟨isNm_not h 32 (by decide), isNm_not h 10 (by decide)⟩
theorem okW_source (n : Bs) (h : isNm n = true) : okW [wSource, n] := by
  refine ⟨by simp, fun w hw => ?_⟩
  simp only [List.mem_cons, List.not_mem_nil, or_false] at hw
  rcases hw with rfl | rfl
  · decide
  · exact nm_ok h
theorem canA_parts {a : Ac} (h : canA a = true) : isNm a.1 = true ∧ a.2.1.length ≤ 4 ∧ (∀ x ∈ a.2.1, isNm x = true) ∧ a.2.2.length ≤ 64 := by
  simp only [canA, Bool.and_eq_true, decide_eq_true_eq, List.all_eq_true] at h
  exact ⟨h.1.1.1, h.1.1.2, h.1.2, h.2⟩
theorem canA_mk {a : Ac} (h1 : isNm a.1 = true) (h2 : a.2.1.length ≤ 4) (h3 : ∀ x ∈ a.2.1, isNm x = true) (h4 : a.2.2.length ≤ 64) : canA a = true := by
  simp only [canA, Bool.and_eq_true, decide_eq_true_eq, List.all_eq_true]
  exact ⟨⟨⟨h1, h2⟩, h3⟩, h4⟩
theorem can_parts {g : Gr} (h : can g = true) : g.1.length ≤ 8 ∧ g.2.length ≤ 12 ∧ (∀ x ∈ g.1, isNm x = true) ∧ (∀ a ∈ g.2, canA a = true) := by
  simp only [can, Bool.and_eq_true, decide_eq_true_eq, List.all_eq_true] at h
  exact ⟨h.1.1.1, h.1.1.2, h.1.2, h.2⟩
theorem can_mk {g : Gr} (h1 : g.1.length ≤ 8) (h2 : g.2.length ≤ 12) (h3 : ∀ x ∈ g.1, isNm x = true) (h4 : ∀ a ∈ g.2, canA a = true) : can g = true := by
  simp only [can, Bool.and_eq_true, decide_eq_true_eq, List.all_eq_true]
  exact ⟨⟨⟨h1, h2⟩, h3⟩, h4⟩
theorem okW_words (a : Ac) (h : canA a = true) : okW (words a) := by
  obtain ⟨h1, h2, h3, h4⟩ := canA_parts h
  refine ⟨by simp [words], fun w hw => ?_⟩
  simp only [words, midW, List.mem_append, List.mem_cons, List.not_mem_nil, or_false] at hw
  rcases hw with ((rfl | rfl) | hw) | rfl | rfl
  · decide
  · exact nm_ok h1
  · split at hw
    · simp at hw
    · rcases List.mem_cons.1 hw with rfl | hw
      · decide
      · exact nm_ok (h3 w hw)
  · decide
  · exact ⟨codeW_not _ _ (by decide) (by decide), codeW_not _ _ (by decide) (by decide)⟩
theorem three {α : Type} (l : List α) (h : 3 ≤ l.length) : ∃ a m y z, l = a :: (m ++ [y, z]) := by
  cases l with
  | nil => simp at h
  | cons a r =>
    simp only [List.length_cons] at h
    obtain ⟨r1, z, rfl⟩ : ∃ r1 z, r = r1 ++ [z] := ⟨r.dropLast, r.getLast (by intro e; subst e; simp at h), (List.dropLast_concat_getLast _).symm⟩
    simp only [List.length_append, List.length_cons, List.length_nil] at h
    obtain ⟨m, y, rfl⟩ : ∃ m y, r1 = m ++ [y] := ⟨r1.dropLast, r1.getLast (by intro e; subst e; simp at h), (List.dropLast_concat_getLast _).symm⟩
    exact ⟨a, m, y, z, by simp⟩
theorem readA_three (a : Bs) (m : List Bs) (y z : Bs) : readA (a :: (m ++ [y, z])) = if y ≠ wBy ∨ isNm a = false then none else match readIns m with
    | none => none
    | some ins => match readC z with
      | none => none
      | some c => some (a, ins, c) := by
  have e1 : (a :: (m ++ [y, z])).length = m.length + 3 := by simp
  have e2 : (a :: (m ++ [y, z]))[m.length + 3 - 2]? = some y := by
    rw [show m.length + 3 - 2 = m.length + 1 by omega, List.getElem?_cons_succ, List.getElem?_append_right (Nat.le_refl _)]; simp
  have e3 : ((a :: (m ++ [y, z])).drop 1).take (m.length + 3 - 3) = m := by
    rw [show m.length + 3 - 3 = m.length by omega]; simp
  have e4 : (a :: (m ++ [y, z])).getLastD [] = z := by
    rw [show a :: (m ++ [y, z]) = (a :: (m ++ [y])) ++ [z] by simp, List.getLastD_concat]
  have e5 : (a :: (m ++ [y, z])).headD [] = a := rfl
  unfold readA
  rw [e1, e2, e3, e4, e5]
  by_cases h : y ≠ wBy ∨ isNm a = false
  · rw [if_pos h, if_pos (by rcases h with h | h; exact Or.inr (Or.inl (by simpa using h)); exact Or.inr (Or.inr h))]
  · rw [if_neg h, if_neg (by rintro (h' | h' | h'); omega; exact h (Or.inl (by simpa using h')); exact h (Or.inr h'))]
    rfl
theorem readA_short (ws : List Bs) (h : ws.length < 3) : readA ws = none := by unfold readA; rw [if_pos (Or.inl h)]
theorem readIns_mid (ins : List Bs) (h : ins.length ≤ 4) (hn : ∀ x ∈ ins, isNm x = true) : readIns (midW ins) = some ins := by
  unfold midW
  by_cases e : ins = []
  · subst e; rfl
  · rw [if_neg e]
    exact if_pos ⟨rfl, e, h, List.all_eq_true.2 hn⟩
theorem readIns_some (ws ins : List Bs) (h : readIns ws = some ins) : midW ins = ws ∧ ins.length ≤ 4 ∧ ∀ x ∈ ins, isNm x = true := by
  cases ws with
  | nil => simp [readIns] at h; subst h; simp [midW]
  | cons f r =>
    unfold readIns at h
    simp only [] at h
    split at h
    · rename_i hc
      simp only [Option.some.injEq] at h
      subst h
      obtain ⟨rfl, h2, h3, h4⟩ := hc
      exact ⟨by simp [midW, h2], h3, List.all_eq_true.1 h4⟩
    · simp at h
/-- the words behind "make" -/
def tailW (a : Ac) : List Bs := a.1 :: (midW a.2.1 ++ [wBy, codeW a.2.2])
theorem words_tail (a : Ac) : words a = wMake :: tailW a := by simp [words, tailW]
theorem readA_words (a : Ac) (h : canA a = true) : readA (tailW a) = some a := by
  obtain ⟨h1, h2, h3, h4⟩ := canA_parts h
  unfold tailW
  rw [readA_three, if_neg (by simp [h1]), readIns_mid _ h2 h3]
  simp only [readC_codeW _ h4]
theorem readA_some (ws : List Bs) (a : Ac) (h : readA ws = some a) : tailW a = ws ∧ canA a = true := by
  by_cases hl : ws.length < 3
  · rw [readA_short ws hl] at h; simp at h
  · obtain ⟨x, m, y, z, rfl⟩ := three ws (by omega)
    rw [readA_three] at h
    split at h
    · simp at h
    · rename_i hc
      have hy : y = wBy := Classical.byContradiction fun e => hc (Or.inl e)
      have hx : isNm x = true := by cases e : isNm x with
        | true => rfl
        | false => exact absurd (Or.inr e) hc
      cases hi : readIns m with
      | none => rw [hi] at h; simp at h
      | some ins =>
        rw [hi] at h
        simp only [] at h
        cases hz : readC z with
        | none => rw [hz] at h; simp at h
        | some c =>
          rw [hz] at h
          simp only [Option.some.injEq] at h
          subst h
          obtain ⟨i1, i2, i3⟩ := readIns_some m ins hi
          obtain ⟨c1, c2⟩ := readC_some z c hz
          exact ⟨by simp only [tailW]; rw [i1, c1, hy], canA_mk hx i2 i3 c2⟩
theorem addL_source (g : Gr) (n : Bs) (h0 : g.2 = []) (h1 : g.1.length ≠ 8) (hn : isNm n = true) : addL g [wSource, n] = some (g.1 ++ [n], g.2) := by
  unfold addL
  simp only [if_true]
  rw [if_pos ⟨h0, h1, hn⟩]
theorem addL_make (g : Gr) (a : Ac) (h : canA a = true) (hl : g.2.length ≠ 12) : addL g (words a) = some (g.1, g.2 ++ [a]) := by
  rw [words_tail]
  unfold addL
  simp only []
  rw [if_neg (by decide), if_pos trivial, readA_words a h]
  simp only []
  rw [if_neg hl]
theorem P_sources : ∀ (l : List Bs) (g : Gr) (n : Nat) (t : Bs), g.2 = [] → g.1.length + l.length ≤ 8 → (∀ x ∈ l, isNm x = true) → P g n (linesS l ++ t) = P (g.1 ++ l, g.2) (n + l.length) t
  | [], g, n, t, _, _, _ => by simp [linesS]
  | x :: l, g, n, t, h0, h1, h2 => by
    have hx := h2 x (by simp)
    simp only [List.length_cons] at h1
    have e : linesS (x :: l) ++ t = line [wSource, x] ++ (linesS l ++ t) := by simp [linesS]
    rw [e, P_line _ _ _ _ (okW_source x hx), addL_source g x h0 (by omega) hx]
    simp only []
    rw [P_sources l (g.1 ++ [x], g.2) (n + 1) t h0 (by simp; omega) (fun y hy => h2 y (by simp [hy]))]
    simp [Nat.add_comm, Nat.add_left_comm]
theorem P_actions : ∀ (l : List Ac) (g : Gr) (n : Nat) (t : Bs), g.2.length + l.length ≤ 12 → (∀ x ∈ l, canA x = true) → P g n (linesA l ++ t) = P (g.1, g.2 ++ l) (n + l.length) t
  | [], g, n, t, _, _ => by simp [linesA]
  | x :: l, g, n, t, h1, h2 => by
    have hx := h2 x (by simp)
    simp only [List.length_cons] at h1
    have e : linesA (x :: l) ++ t = line (words x) ++ (linesA l ++ t) := by simp [linesA]
    rw [e, P_line _ _ _ _ (okW_words x hx), addL_make g x hx (by omega)]
    simp only []
    rw [P_actions l (g.1, g.2 ++ [x]) (n + 1) t (by simp; omega) (fun y hy => h2 y (by simp [hy]))]
    simp [Nat.add_comm, Nat.add_left_comm]
theorem P_text (g : Gr) (h : can g = true) (t : Bs) : P ([], []) 1 (text g ++ t) = P g (1 + (g.1.length + g.2.length)) t := by
  obtain ⟨h1, h2, h3, h4⟩ := can_parts h
  unfold text
  rw [List.append_assoc, P_sources g.1 ([], []) 1 _ rfl (by simpa using h1) h3]
  simp only [List.nil_append]
  rw [P_actions g.2 (g.1, []) _ t (by simpa using h2) h4]
  simp [Nat.add_assoc]
theorem line_length (w : Bs) (r : List Bs) : (line (w :: r)).length = w.length + r.length + Lib.lens r + 1 := by
  unfold line
  rw [Lib.join_cons, List.length_append, List.length_append, Lib.joinTail_length]
  simp; omega
theorem lens_le (c : Nat) : ∀ l : List Bs, (∀ x ∈ l, x.length ≤ c) → Lib.lens l ≤ l.length * c
  | [], _ => by simp [Lib.lens]
  | x :: l, h => by
    have ih := lens_le c l (fun y hy => h y (by simp [hy]))
    have hx := h x (by simp)
    simp only [Lib.lens, List.map_cons, List.sum_cons, List.length_cons, Nat.succ_mul] at ih ⊢
    omega
theorem flat_le (c : Nat) : ∀ l : List Bs, (∀ x ∈ l, x.length ≤ c) → l.flatten.length ≤ l.length * c
  | [], _ => by simp
  | x :: l, h => by
    have ih := flat_le c l (fun y hy => h y (by simp [hy]))
    have hx := h x (by simp)
    simp only [List.flatten_cons, List.length_append, List.length_cons, Nat.succ_mul] at ih ⊢
    omega
theorem codeW_length (c : Bs) (h : c.length ≤ 64) : (codeW c).length ≤ 128 := by
  unfold codeW
  split
  · simp
  · rw [hexs_length]; omega
theorem lens_append (a b : List Bs) : Lib.lens (a ++ b) = Lib.lens a + Lib.lens b := by simp [Lib.lens]
theorem lineA_length (a : Ac) (h : canA a = true) : (line (words a)).length ≤ 200 := by
  obtain ⟨h1, h2, h3, h4⟩ := canA_parts h
  rw [words_tail, line_length]
  have e1 := (isNm_len h1).1
  have e2 := codeW_length _ h4
  have e3 := lens_le 8 a.2.1 (fun x hx => (isNm_len (h3 x hx)).1)
  have e4 : Lib.lens (midW a.2.1) ≤ 4 + Lib.lens a.2.1 ∧ (midW a.2.1).length ≤ a.2.1.length + 1 := by
    unfold midW
    split
    · simp [Lib.lens]
    · simp [Lib.lens, wFrom]
  have e5 : Lib.lens (tailW a) = a.1.length + (Lib.lens (midW a.2.1) + (2 + (codeW a.2.2).length)) := by
    unfold tailW
    rw [show a.1 :: (midW a.2.1 ++ [wBy, codeW a.2.2]) = [a.1] ++ (midW a.2.1 ++ [wBy, codeW a.2.2]) from rfl, lens_append, lens_append]
    simp [Lib.lens, wBy]
  have e6 : (tailW a).length = (midW a.2.1).length + 3 := by simp [tailW]
  rw [e5, e6]
  simp only [wMake, List.length_cons, List.length_nil]
  omega
theorem text_length (g : Gr) (h : can g = true) : (text g).length ≤ 2600 := by
  obtain ⟨h1, h2, h3, h4⟩ := can_parts h
  have e1 : (linesS g.1).length ≤ g.1.length * 16 := by
    unfold linesS
    refine Nat.le_trans (flat_le 16 _ fun x hx => ?_) (by simp)
    obtain ⟨n, hn, rfl⟩ := List.mem_map.1 hx
    have := (isNm_len (h3 n hn)).1
    rw [line_length]
    simp [Lib.lens, wSource]; omega
  have e2 : (linesA g.2).length ≤ g.2.length * 200 := by
    unfold linesA
    refine Nat.le_trans (flat_le 200 _ fun x hx => ?_) (by simp)
    obtain ⟨a, ha, rfl⟩ := List.mem_map.1 hx
    exact lineA_length a (h4 a ha)
  unfold text
  rw [List.length_append]
  omega
theorem parse_eq (t : Bs) (h : t.length ≤ 8192) : parse t = P ([], []) 1 t := by unfold parse; rw [if_neg (by omega)]; rfl
theorem parse_text (g : Gr) (h : can g = true) : parse (text g) = .inl g := by
  have hl := text_length g h
  rw [parse_eq _ (by omega)]
  have := P_text g h []
  rw [List.append_nil] at this
  rw [this]; rfl
theorem text_inj (g h : Gr) (hg : can g = true) (hh : can h = true) (e : text g = text h) : g = h := by
  have h1 := parse_text g hg
  rw [e, parse_text h hh] at h1
  simpa using h1.symm
theorem linesS_snoc (l : List Bs) (n : Bs) : linesS (l ++ [n]) = linesS l ++ line [wSource, n] := by simp [linesS]
theorem linesA_snoc (l : List Ac) (a : Ac) : linesA (l ++ [a]) = linesA l ++ line (words a) := by simp [linesA]
theorem addL_some (g g' : Gr) (ws : List Bs) (hg : can g = true) (h : addL g ws = some g') : can g' = true ∧ text g' = text g ++ line ws := by
  obtain ⟨h1, h2, h3, h4⟩ := can_parts hg
  cases ws with
  | nil => simp [addL] at h
  | cons k r =>
    unfold addL at h
    simp only [] at h
    by_cases hk : k = wSource
    · rw [if_pos hk] at h
      subst hk
      rcases r with _ | ⟨n, _ | ⟨m, r⟩⟩
      · simp at h
      · simp only [] at h
        split at h
        · rename_i hc
          simp only [Option.some.injEq] at h
          subst h
          obtain ⟨c1, c2, c3⟩ := hc
          refine ⟨can_mk (by simp; omega) h2 (fun x hx => ?_) h4, ?_⟩
          · rcases List.mem_append.1 hx with hx | hx
            · exact h3 x hx
            · simp at hx; subst hx; exact c3
          · unfold text
            simp only [c1, linesS_snoc]
            simp [linesA]
        · simp at h
      · simp at h
    · rw [if_neg hk] at h
      by_cases hk2 : k = wMake
      · rw [if_pos hk2] at h
        subst hk2
        cases hr : readA r with
        | none => rw [hr] at h; simp at h
        | some a =>
          rw [hr] at h
          simp only [] at h
          split at h
          · simp at h
          · rename_i hc
            simp only [Option.some.injEq] at h
            subst h
            obtain ⟨a1, a2⟩ := readA_some r a hr
            refine ⟨can_mk h1 (by simp; omega) h3 (fun x hx => ?_), ?_⟩
            · rcases List.mem_append.1 hx with hx | hx
              · exact h4 x hx
              · simp at hx; subst hx; exact a2
            · unfold text
              simp only [linesA_snoc, words_tail, a1, List.append_assoc]
      · rw [if_neg hk2] at h; simp at h
theorem parseF_some : ∀ (f : Nat) (g g' : Gr) (n : Nat) (t : Bs), t.length ≤ f → can g = true → parseF f g n t = .inl g' → can g' = true ∧ text g' = text g ++ t
  | 0, g, g', n, t, hl, hg, h => by
    have : t = [] := List.length_eq_zero_iff.1 (by omega)
    subst this
    simp only [parseF, Sum.inl.injEq] at h
    subst h
    exact ⟨hg, by simp⟩
  | f + 1, g, g', n, t, hl, hg, h => by
    unfold parseF at h
    split at h
    · rename_i ht
      simp only [Sum.inl.injEq] at h
      subst h; subst ht
      exact ⟨hg, by simp⟩
    · cases hc : cutL 10 t with
      | none => rw [hc] at h; simp at h
      | some x =>
        obtain ⟨one, rest⟩ := x
        rw [hc] at h
        simp only [] at h
        have hcl := cutL_len 10 t one rest hc
        obtain ⟨c1, c2, _⟩ := cutL_some 10 t one rest hc
        cases ha : addL g (spl 32 one) with
        | none => rw [ha] at h; simp at h
        | some g2 =>
          rw [ha] at h
          simp only [] at h
          obtain ⟨a1, a2⟩ := addL_some g g2 _ hg ha
          obtain ⟨r1, r2⟩ := parseF_some f g2 g' (n + 1) rest (by omega) a1 h
          refine ⟨r1, ?_⟩
          rw [r2, a2, c1, line, spl_join]
          simp
theorem parse_some (t : Bs) (g : Gr) (h : parse t = .inl g) : can g = true ∧ text g = t := by
  unfold parse at h
  split at h
  · simp at h
  · obtain ⟨h1, h2⟩ := parseF_some _ ([], []) g 1 t (Nat.le_refl _) (by decide) h
    exact ⟨h1, by rw [h2]; rfl⟩
theorem parseF_err : ∀ (f : Nat) (g : Gr) (n k e : Nat) (t : Bs), parseF f g n t = .inr (k, e) → n ≤ k ∧ k ≤ n + t.length ∧ (e = 3 ∨ e = 24)
  | 0, g, n, k, e, t, h => by simp [parseF] at h
  | f + 1, g, n, k, e, t, h => by
    unfold parseF at h
    split at h
    · simp at h
    · cases hc : cutL 10 t with
      | none => rw [hc] at h; simp at h; omega
      | some x =>
        obtain ⟨one, rest⟩ := x
        rw [hc] at h
        simp only [] at h
        have hcl := cutL_len 10 t one rest hc
        cases ha : addL g (spl 32 one) with
        | none => rw [ha] at h; simp at h; omega
        | some g2 =>
          rw [ha] at h
          simp only [] at h
          have := parseF_err f g2 (n + 1) k e rest h
          omega
theorem parse_err (t : Bs) (k e : Nat) (ht : t.length ≤ 8192) (h : parse t = .inr (k, e)) : 0 < k ∧ (e = 3 ∨ e = 24) := by
  unfold parse at h
  rw [if_neg (by omega)] at h
  have := parseF_err _ _ _ _ _ _ h
  omega
/-- a line that begins with '!' -/
theorem addL_bang (g : Gr) (l : Bs) : addL g (spl 32 (33 :: l)) = none := by
  unfold spl
  rw [if_neg (by decide)]
  cases hs : spl 32 l with
  | nil => exact absurd hs (spl_ne 32 l)
  | cons x r =>
    simp only []
    unfold addL
    simp only []
    rw [if_neg (by simp [wSource]), if_neg (by simp [wMake])]
theorem parse_bang (g : Gr) (h : can g = true) (l : Bs) (hl : l.length ≤ 200) (hn : (10 : UInt8) ∉ l) : parse (text g ++ ([33] ++ (l ++ [10]))) = .inr (g.1.length + g.2.length + 1, 24) ∧ parse (text g ++ ([33] ++ l)) = .inr (g.1.length + g.2.length + 1, 3) := by
  have ht := text_length g h
  have hb : (10 : UInt8) ∉ (33 : UInt8) :: l := by simp [hn]
  constructor
  · rw [parse_eq _ (by simp; omega), P_text g h]
    rw [show [33] ++ (l ++ [10]) = (33 :: l) ++ 10 :: [] by simp, P_cut _ _ _ _ _ (cutL_mk 10 (33 :: l) [] hb), addL_bang]
    simp only []
    rw [Nat.add_comm 1]
  · rw [parse_eq _ (by simp; omega), P_text g h]
    rw [show [33] ++ l = 33 :: l from rfl, P_end _ _ _ (cutL_not 10 _ hb) (by simp), Nat.add_comm 1]
theorem can_split (g : Gr) : can g = (can (g.1, []) && can ([], g.2)) := by
  simp only [can, List.length_nil, List.all_nil]
  cases decide (g.1.length ≤ 8) <;> cases decide (g.2.length ≤ 12) <;> cases g.1.all isNm <;> cases g.2.all canA <;> rfl
theorem text_split (g : Gr) : text g = text (g.1, []) ++ text ([], g.2) := by simp [text, linesS, linesA]
/-- the document's example -/
def exT : Bs := [115, 111, 117, 114, 99, 101, 32, 97, 10, 109, 97, 107, 101, 32, 120, 32, 102, 114, 111, 109, 32, 97, 32, 97, 32, 98, 121, 32, 54, 57, 48, 48, 54, 51, 10, 109, 97, 107, 101, 32, 121, 32, 98, 121, 32, 45, 10]
def exG : Gr := ([[97]], [([120], [[97], [97]], [105, 0, 99]), ([121], [], [])])
theorem parse_ex : parse exT = .inl exG := by decide +kernel
theorem text_ex : text exG = exT := by decide +kernel
theorem can_ex : can exG = true := by decide +kernel
def exW : Bs := [115, 111, 117, 114, 99, 101, 32, 97, 10, 109, 97, 100, 101, 32, 120, 32, 98, 121, 32, 45, 10]
theorem parse_exW : parse exW = .inr (2, 24) := by decide +kernel
end Go.Proofs.YtjbffhdccgmfpaaGreatDoor.RC
