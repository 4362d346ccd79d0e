/- The oldest goes: on lists. -/
import Derived.Test.YtifpbkjjceidlaaDoorN20
namespace Go.Proofs.YtifpbkjjceidlaaDoor
open Go.RowKit Go.Maps
set_option linter.unusedVariables false
set_option linter.unusedSimpArgs false

theorem oldS_min (pins : List (List UInt8)) (es : List V.En) : ∀ k, (oldS pins es k).2 = true → ∃ e, es[(oldS pins es k).1]? = some e ∧ ∀ (j : Nat) (e' : V.En), j < k → es[j]? = some e' → e'.dig ∉ pins → e.used ≤ e'.used
  | 0, h => by simp [oldS] at h
  | k + 1, h => by
    cases he : es[k]? with
    | none =>
      have e1 : oldS pins es (k + 1) = oldS pins es k := by rw [oldS, he]
      rw [e1] at h ⊢
      obtain ⟨e, h1, h2⟩ := oldS_min pins es k h
      refine ⟨e, h1, fun j e' hj hje hp => ?_⟩
      rcases (by omega : j < k ∨ j = k) with h' | rfl
      · exact h2 j e' h' hje hp
      · rw [he] at hje; cases hje
    | some ek =>
      rw [oldS_succ pins es k ek he] at h ⊢
      by_cases hp : ek.dig ∈ pins
      · rw [if_pos hp] at h ⊢
        obtain ⟨e, h1, h2⟩ := oldS_min pins es k h
        refine ⟨e, h1, fun j e' hj hje hp' => ?_⟩
        rcases (by omega : j < k ∨ j = k) with h' | rfl
        · exact h2 j e' h' hje hp'
        · rw [he] at hje; cases hje; exact absurd hp hp'
      · rw [if_neg hp] at h ⊢
        by_cases hq : (oldS pins es k).2 = false ∨ ek.used < ((es[(oldS pins es k).1]?).map (·.used)).getD 0
        · rw [if_pos hq] at h ⊢
          refine ⟨ek, he, fun j e' hj hje hp' => ?_⟩
          rcases (by omega : j < k ∨ j = k) with h' | rfl
          · rcases hq with hq | hq
            · exact absurd ((oldS_pin pins es k).2 hq j e' h' hje) hp'
            · cases hb : (oldS pins es k).2 with
              | false => exact absurd ((oldS_pin pins es k).2 hb j e' h' hje) hp'
              | true =>
                obtain ⟨e, h1, h2⟩ := oldS_min pins es k hb
                rw [h1] at hq
                simp only [Option.map_some, Option.getD_some] at hq
                have := h2 j e' h' hje hp'
                omega
          · rw [he] at hje; cases hje; exact Nat.le_refl _
        · rw [if_neg hq] at h ⊢
          obtain ⟨e, h1, h2⟩ := oldS_min pins es k h
          refine ⟨e, h1, fun j e' hj hje hp' => ?_⟩
          rcases (by omega : j < k ∨ j = k) with h' | rfl
          · exact h2 j e' h' hje hp'
          · rw [he] at hje; cases hje
            rw [h1] at hq
            simp only [Option.map_some, Option.getD_some, not_or] at hq
            omega
/-- s was used ahead of t -/
def Ag.Ahead (A : Ag) (s t : List UInt8) : Prop := ∀ (i j u v : Nat), A.g[i]? = some (some (s, u)) → A.g[j]? = some (some (t, v)) → u < v
/-- THE LINE: what is there, the oldest first -/
structure LI (N : Nat) (line : List (List UInt8)) (A : Ag) : Prop where
  l : A.g.length = N
  p : A.pins = []
  d : line.Nodup
  m : ∀ t, t ∈ line ↔ ∃ (i u : Nat), A.g[i]? = some (some (t, u))
  o : line.Pairwise A.Ahead
  u : ∀ (i : Nat) (t : List UInt8) (u : Nat), A.g[i]? = some (some (t, u)) → u ≤ A.uses
theorem put_get {A : Ag} {i j : Nat} {s : List UInt8} {x : Option (List UInt8 × Nat)} (hi : i < A.g.length) (h : (A.put i s).g[j]? = some x) : (j = i ∧ x = some (s, A.uses + 1)) ∨ (j ≠ i ∧ A.g[j]? = some x) := by
  simp only [Ag.put] at h
  by_cases e : i = j
  · subst e
    rw [List.getElem?_set_self hi] at h
    exact .inl ⟨rfl, (Option.some.inj h).symm⟩
  · rw [List.getElem?_set_ne e] at h
    exact .inr ⟨fun e' => e e'.symm, h⟩
/-- s comes to the line's end, in the slot i; ln: what is there beside that slot -/
theorem LI.core {N : Nat} {line : List (List UInt8)} {A : Ag} (h : LI N line A) {i : Nat} {s : List UInt8} (hi : i < N) {ln : List (List UInt8)} (hd : ln.Nodup) (hs : s ∉ ln) (hm : ∀ t, t ∈ ln ↔ ∃ (j u : Nat), j ≠ i ∧ A.g[j]? = some (some (t, u))) (ho : ln.Pairwise A.Ahead) : LI N (ln ++ [s]) (A.put i s) := by
  have hig : i < A.g.length := by rw [h.l]; exact hi
  refine ⟨by simp [Ag.put, h.l], h.p, ?_, fun t => ?_, ?_, fun j t u hj => ?_⟩
  · rw [List.nodup_append]
    refine ⟨hd, by simp, fun a ha b hb => ?_⟩
    simp at hb; subst hb
    exact fun e => hs (e ▸ ha)
  · rw [List.mem_append, List.mem_singleton, hm t]
    constructor
    · rintro (⟨j, u, hj, hg⟩ | rfl)
      · exact ⟨j, u, by simp only [Ag.put]; rw [List.getElem?_set_ne (fun e => hj e.symm)]; exact hg⟩
      · exact ⟨i, A.uses + 1, by simp only [Ag.put]; rw [List.getElem?_set_self hig]⟩
    · rintro ⟨j, u, hj⟩
      rcases put_get hig hj with ⟨_, e⟩ | ⟨h1, h2⟩
      · simp only [Option.some.injEq, Prod.mk.injEq] at e; exact .inr e.1
      · exact .inl ⟨j, u, h1, h2⟩
  · rw [List.pairwise_append]
    refine ⟨ho.imp_of_mem (fun {a b} ha hb hab => ?_), by simp, fun a ha b hb => ?_⟩
    · intro i' j' u v h1 h2
      rcases put_get hig h1 with ⟨_, e⟩ | ⟨_, g1⟩
      · simp only [Option.some.injEq, Prod.mk.injEq] at e; exact absurd (e.1 ▸ ha) hs
      · rcases put_get hig h2 with ⟨_, e⟩ | ⟨_, g2⟩
        · simp only [Option.some.injEq, Prod.mk.injEq] at e; exact absurd (e.1 ▸ hb) hs
        · exact hab i' j' u v g1 g2
    · simp at hb; subst hb
      intro i' j' u v h1 h2
      have hu : u ≤ A.uses := by
        rcases put_get hig h1 with ⟨_, e⟩ | ⟨_, g1⟩
        · simp only [Option.some.injEq, Prod.mk.injEq] at e; exact absurd (e.1 ▸ ha) hs
        · exact h.u _ _ _ g1
      rcases put_get hig h2 with ⟨_, e⟩ | ⟨hne, g2⟩
      · simp only [Option.some.injEq, Prod.mk.injEq] at e; omega
      · exact absurd ((hm b).2 ⟨j', v, hne, g2⟩) hs
  · show u ≤ A.uses + 1
    rcases put_get hig hj with ⟨_, e⟩ | ⟨_, g2⟩
    · simp only [Option.some.injEq, Prod.mk.injEq] at e; omega
    · have := h.u _ _ _ g2; omega
theorem LI.use {N : Nat} {line : List (List UInt8)} {A : Ag} (h : LI N line A) (hU : V.Uq A.es) {i : Nat} {s : List UInt8} {u : Nat} (hg : A.g[i]? = some (some (s, u))) : LI N (line.filter (fun t => decide (t ≠ s)) ++ [s]) (A.put i s) := by
  have hi : i < N := by rw [← h.l]; exact (List.getElem?_eq_some_iff.1 hg).1
  refine h.core hi (h.d.filter _) (by simp) (fun t => ?_) (h.o.filter _)
  rw [List.mem_filter, h.m t]
  constructor
  · rintro ⟨⟨j, v, hj⟩, hne⟩
    refine ⟨j, v, fun e => ?_, hj⟩
    subst e
    rw [hg] at hj
    simp only [Option.some.injEq, Prod.mk.injEq] at hj
    simp [hj.1] at hne
  · rintro ⟨j, v, hne, hj⟩
    refine ⟨⟨j, v, hj⟩, ?_⟩
    simp only [decide_eq_true_eq]
    intro e
    subst e
    exact hne (Ag.uq hU hj hg rfl)
theorem LI.len {N : Nat} {line : List (List UInt8)} {A : Ag} (h : LI N line A) (hU : V.Uq A.es) : line.length = A.txs.length :=
  Nat.le_antisymm (nodup_le _ _ h.d (fun t ht => Ag.mem_txs.2 ((h.m t).1 ht))) (nodup_le _ _ (Ag.txs_nodup hU) (fun t ht => (h.m t).2 (Ag.mem_txs.1 ht)))
theorem LI.le {N : Nat} {line : List (List UInt8)} {A : Ag} (h : LI N line A) (hU : V.Uq A.es) : line.length ≤ N := by rw [h.len hU, ← h.l]; exact A.txs_le
theorem txs_lt : ∀ (g : List (Option (List UInt8 × Nat))) (i : Nat), g[i]? = some none → (g.filterMap (fun x => x.map (·.1))).length < g.length
  | [], i, h => by simp at h
  | x :: r, 0, h => by
    simp at h; subst h
    simp only [List.filterMap_cons, Option.map_none, List.length_cons]
    exact Nat.lt_succ_of_le (List.length_filterMap_le _ _)
  | x :: r, i + 1, h => by
    have := txs_lt r i (by simpa using h)
    cases x <;> simp only [List.filterMap_cons, Option.map_none, Option.map_some, List.length_cons] <;> omega
theorem txs_all : ∀ (g : List (Option (List UInt8 × Nat))), (∀ x ∈ g, x ≠ none) → (g.filterMap (fun x => x.map (·.1))).length = g.length
  | [], _ => rfl
  | x :: r, h => by
    have ih := txs_all r (fun y hy => h y (by simp [hy]))
    cases x with
    | none => exact absurd rfl (h none (by simp))
    | some p => simp only [List.filterMap_cons, Option.map_some, List.length_cons, ih]
theorem cnt_txs : ∀ (g : List (Option (List UInt8 × Nat))), V.cntN (g.map enG) = (g.filterMap (fun x => x.map (·.1))).length
  | [] => rfl
  | x :: r => by
    have ih := cnt_txs r
    unfold V.cntN at ih ⊢
    cases x with
    | none => simpa [enG, V.en0] using ih
    | some p =>
      have hk : V.kb ≠ [] := by decide
      simp only [List.map_cons, enG, List.filterMap_cons, Option.map_some, List.length_cons]
      rw [List.filter_cons_of_pos (by simpa using hk), List.length_cons, ih]
theorem LI.cnt {N : Nat} {line : List (List UInt8)} {A : Ag} (h : LI N line A) (hU : V.Uq A.es) : V.cntN A.es = line.length := by
  rw [h.len hU]; exact cnt_txs A.g
/-- where a text that isn't there goes, and what goes for it -/
theorem LI.room {N : Nat} {line : List (List UInt8)} {A : Ag} (h : LI N line A) (hU : V.Uq A.es) (hN : 1 ≤ N) {s : List UInt8} (hs : s ∉ line) : ∃ i, A.room = some i ∧ ((line.length < N ∧ LI N (line ++ [s]) (A.put i s)) ∨ (line.length = N ∧ LI N (line.tail ++ [s]) (A.put i s))) := by
  unfold Ag.room
  rcases freeI_two A.es with hf | ⟨i, hf⟩
  · rw [hf, if_neg (by omega)]
    have hno := Ag.nofree hf
    have hfull : line.length = N := by
      rw [h.len hU, ← h.l]
      exact txs_all A.g (fun x hx => by obtain ⟨j, hj⟩ := List.mem_iff_getElem?.1 hx; exact hno j x hj)
    have hb : (oldS A.pins A.es A.es.length).2 = true := by
      cases hb : (oldS A.pins A.es A.es.length).2 with
      | true => rfl
      | false =>
        have hlen : 0 < A.es.length := by rw [A.len, h.l]; omega
        have := (oldS_pin A.pins A.es A.es.length).2 hb 0 A.es[0] hlen (List.getElem?_eq_getElem hlen)
        rw [h.p] at this
        cases this
    rw [hb, if_pos rfl]
    obtain ⟨e, he, hmin⟩ := oldS_min A.pins A.es A.es.length hb
    have hlt := (oldS_lt A.pins A.es A.es.length hb).2
    generalize (oldS A.pins A.es A.es.length).1 = i at *
    refine ⟨i, rfl, .inr ⟨hfull, ?_⟩⟩
    have hiN : i < N := by rw [← h.l, ← A.len]; exact hlt
    obtain ⟨x, hx⟩ : ∃ x, A.g[i]? = some x := ⟨A.g[i]'(by rw [h.l]; exact hiN), List.getElem?_eq_getElem _⟩
    obtain ⟨p, rfl⟩ : ∃ p, x = some p := by
      cases x with
      | none => exact absurd rfl (hno i _ hx)
      | some p => exact ⟨p, rfl⟩
    obtain ⟨tv, uv⟩ := p
    have hev : e.used = uv := by
      have := A.at hx
      rw [he] at this
      rw [Option.some.inj this]; rfl
    obtain ⟨t0, tl, rfl⟩ : ∃ t0 tl, line = t0 :: tl := by
      cases line with
      | nil => simp at hfull; omega
      | cons t0 tl => exact ⟨t0, tl, rfl⟩
    have hd := List.nodup_cons.1 h.d
    have ho := List.pairwise_cons.1 h.o
    have htv : tv = t0 := by
      have hmem : tv ∈ t0 :: tl := (h.m tv).2 ⟨i, uv, hx⟩
      rcases List.mem_cons.1 hmem with e' | hmem
      · exact e'
      · obtain ⟨i0, u0, h0⟩ := (h.m t0).1 (by simp)
        have h1 := ho.1 tv hmem i0 i u0 uv h0 hx
        have h2 := hmin i0 _ (by rw [A.len]; exact (List.getElem?_eq_some_iff.1 h0).1) (A.at h0) (by rw [h.p]; simp)
        have h3 : (enG (some (t0, u0))).used = u0 := rfl
        omega
    subst htv
    refine LI.core (ln := tl) h hiN hd.2 (fun hm => hs (by simp [hm])) (fun t => ?_) ho.2
    constructor
    · intro ht
      obtain ⟨j, u, hj⟩ := (h.m t).1 (by simp [ht])
      refine ⟨j, u, fun e' => ?_, hj⟩
      subst e'
      rw [hx] at hj
      simp only [Option.some.injEq, Prod.mk.injEq] at hj
      exact hd.1 (by rw [hj.1]; exact ht)
    · rintro ⟨j, u, hne, hj⟩
      rcases List.mem_cons.1 ((h.m t).2 ⟨j, u, hj⟩) with e' | ht
      · subst e'; exact absurd (Ag.uq hU hj hx rfl) hne
      · exact ht
  · rw [hf, if_pos (by omega)]
    have hgi := Ag.free_at hf
    have hiN : i < N := by rw [← h.l]; exact (List.getElem?_eq_some_iff.1 hgi).1
    refine ⟨i, by simp, .inl ⟨by rw [h.len hU, ← h.l]; exact txs_lt A.g i hgi, ?_⟩⟩
    refine h.core hiN h.d hs (fun t => ?_) h.o
    rw [h.m t]
    constructor
    · rintro ⟨j, u, hj⟩
      exact ⟨j, u, fun e => (by subst e; rw [hgi] at hj; cases hj), hj⟩
    · rintro ⟨j, u, _, hj⟩
      exact ⟨j, u, hj⟩
theorem LI.new (N : Nat) : LI N [] (agN N) :=
  ⟨by simp [agN], rfl, List.nodup_nil, fun t => ⟨fun h => (by cases h), fun ⟨i, u, h⟩ => absurd h (agN_none N i t u)⟩, List.Pairwise.nil, fun i t u h => absurd h (agN_none N i t u)⟩
end Go.Proofs.YtifpbkjjceidlaaDoor
