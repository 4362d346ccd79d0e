/- What is pinned stays: on lists. -/
import Derived.Test.YtifpbkjjceidlaaDoorN17
namespace Go.Proofs.YtifpbkjjceidlaaDoor
open Go.RowKit Go.Maps
set_option linter.unusedVariables false
set_option linter.unusedSimpArgs false

theorem nodup_le {α : Type} [DecidableEq α] : ∀ (l m : List α), l.Nodup → (∀ x ∈ l, x ∈ m) → l.length ≤ m.length
  | [], m, _, _ => Nat.zero_le _
  | x :: l, m, hn, hs => by
    have hx : x ∈ m := hs x (by simp)
    have hn' := List.nodup_cons.1 hn
    have := nodup_le l (m.erase x) hn'.2 (fun y hy => (List.mem_erase_of_ne (show y ≠ x from fun e => hn'.1 (by rw [← e]; exact hy))).2 (hs y (by simp [hy])))
    rw [List.length_erase_of_mem hx] at this
    have hp : 0 < m.length := List.length_pos_of_mem hx
    simp only [List.length_cons]
    omega
/-- the texts in a store -/
def Ag.txs (A : Ag) : List (List UInt8) := A.g.filterMap (fun x => x.map (·.1))
theorem Ag.mem_txs {A : Ag} {t : List UInt8} : t ∈ A.txs ↔ ∃ (i : Nat) (u : Nat), A.g[i]? = some (some (t, u)) := by
  unfold Ag.txs
  rw [List.mem_filterMap]
  constructor
  · rintro ⟨x, hx, h⟩
    obtain ⟨i, hi⟩ := List.mem_iff_getElem?.1 hx
    cases x with
    | none => simp at h
    | some p => simp at h; exact ⟨i, p.2, by rw [hi, ← h]⟩
  · rintro ⟨i, u, h⟩
    exact ⟨_, List.mem_of_getElem? h, rfl⟩
theorem Ag.txs_le (A : Ag) : A.txs.length ≤ A.g.length := List.length_filterMap_le _ _
theorem Ag.uq {A : Ag} (hU : V.Uq A.es) {i j : Nat} {s t : List UInt8} {u v : Nat} (h1 : A.g[i]? = some (some (s, u))) (h2 : A.g[j]? = some (some (t, v))) (e : S.sha s = S.sha t) : i = j :=
  hU i j _ _ (A.at h1) (A.at h2) (by show V.kb ≠ []; decide) rfl e
theorem Ag.fnd_of {A : Ag} (hU : V.Uq A.es) {i : Nat} {t : List UInt8} {u : Nat} (h : A.g[i]? = some (some (t, u))) : A.fnd (S.sha t) = some i :=
  V.findN_of hU (A.at h) (by show V.kb ≠ []; decide)
theorem Ag.fnd_none {A : Ag} {d : List UInt8} (h : ∀ (i : Nat) (t : List UInt8) (u : Nat), A.g[i]? = some (some (t, u)) → S.sha t ≠ d) : A.fnd d = none := by
  cases hf : A.fnd d with
  | none => rfl
  | some i =>
    obtain ⟨t, u, hg, e⟩ := Ag.fnd_some hf
    exact absurd e (h i t u hg)
/-- distinct slots have distinct texts -/
theorem nodup_map {g : List (Option (List UInt8 × Nat))} (h : ∀ (i j : Nat) (t : List UInt8) (u v : Nat), g[i]? = some (some (t, u)) → g[j]? = some (some (t, v)) → i = j) : (g.filterMap (fun x => x.map (·.1))).Nodup := by
  induction g with
  | nil => simp
  | cons x r ih =>
    have ih' := ih (fun i j t u v h1 h2 => by have := h (i + 1) (j + 1) t u v (by simpa using h1) (by simpa using h2); omega)
    cases x with
    | none => simpa using ih'
    | some p =>
      simp only [List.filterMap_cons, Option.map_some, List.nodup_cons]
      refine ⟨fun hm => ?_, ih'⟩
      rw [List.mem_filterMap] at hm
      obtain ⟨y, hy, e⟩ := hm
      obtain ⟨j, hj⟩ := List.mem_iff_getElem?.1 hy
      cases y with
      | none => simp at e
      | some q =>
        simp at e
        have := h 0 (j + 1) p.1 p.2 q.2 (by simp) (by simp [hj, ← e])
        omega
theorem Ag.txs_nodup {A : Ag} (hU : V.Uq A.es) : A.txs.Nodup := nodup_map (fun i j t u v h1 h2 => Ag.uq hU h1 h2 rfl)

theorem oldS_pin (pins : List (List UInt8)) (es : List V.En) : ∀ k, ((oldS pins es k).2 = true → ∃ e, es[(oldS pins es k).1]? = some e ∧ e.dig ∉ pins) ∧ ((oldS pins es k).2 = false → ∀ (j : Nat) (e : V.En), j < k → es[j]? = some e → e.dig ∈ pins)
  | 0 => ⟨fun h => by simp [oldS] at h, fun _ j e hj => by omega⟩
  | k + 1 => by
    have ih := oldS_pin pins es k
    cases he : es[k]? with
    | none =>
      rw [oldS, he]
      simp only
      refine ⟨ih.1, fun h j e hj hje => ?_⟩
      rcases (by omega : j < k ∨ j = k) with h' | rfl
      · exact ih.2 h j e h' hje
      · rw [he] at hje; cases hje
    | some e =>
      rw [oldS_succ pins es k e he]
      by_cases hp : e.dig ∈ pins
      · rw [if_pos hp]
        refine ⟨ih.1, fun h j e' hj hje => ?_⟩
        rcases (by omega : j < k ∨ j = k) with h' | rfl
        · exact ih.2 h j e' h' hje
        · rw [he] at hje; cases hje; exact hp
      · rw [if_neg hp]
        by_cases hq : (oldS pins es k).2 = false ∨ e.used < ((es[(oldS pins es k).1]?).map (·.used)).getD 0
        · rw [if_pos hq]
          exact ⟨fun _ => ⟨e, he, hp⟩, fun h => by simp at h⟩
        · rw [if_neg hq]
          refine ⟨ih.1, fun h => absurd (.inl h) hq⟩
/-- a free slot is none -/
theorem Ag.free_at {A : Ag} {i : Nat} (h : freeI A.es = (i : Int)) : A.g[i]? = some none := by
  unfold freeI at h
  split at h
  · rename_i j hj
    obtain ⟨hjl, h1, _⟩ := List.findIdx?_eq_some_iff_getElem.1 hj
    obtain rfl : j = i := by omega
    have hg : j < A.g.length := by rw [← A.len]; exact hjl
    rw [List.getElem?_eq_getElem hg]
    simp only [Ag.es, List.getElem_map, decide_eq_true_eq] at h1
    cases hx : A.g[j] with
    | none => rfl
    | some p => rw [hx] at h1; exact absurd h1 (by show V.kb ≠ []; decide)
  · omega
theorem Ag.nofree {A : Ag} (h : freeI A.es = -1) : ∀ (i : Nat) x, A.g[i]? = some x → x ≠ none := fun i x hx e => by
  subst e
  unfold freeI at h
  split at h
  · omega
  · rename_i hj
    rw [List.findIdx?_eq_none_iff] at hj
    have := hj V.en0 (List.mem_of_getElem? (A.at hx))
    simp [V.en0] at this
theorem freeI_two (es : List V.En) : freeI es = -1 ∨ ∃ i : Nat, freeI es = (i : Int) := by
  unfold freeI
  split
  · exact .inr ⟨_, rfl⟩
  · exact .inl rfl
/-- THE PINNED: each is there, and pinned; nothing else is pinned -/
structure PI (n : Nat) (kept : List (List UInt8)) (A : Ag) : Prop where
  l : A.g.length = n
  d : kept.Nodup
  k : ∀ t ∈ kept, ∃ (i : Nat) (u : Nat), A.g[i]? = some (some (t, u))
  p : ∀ t ∈ kept, S.sha t ∈ A.pins
  q : ∀ x ∈ A.pins, ∃ t ∈ kept, S.sha t = x
theorem PI.le {n : Nat} {kept : List (List UInt8)} {A : Ag} (h : PI n kept A) : kept.length ≤ n := by
  rw [← h.l]
  exact Nat.le_trans (nodup_le _ _ h.d (fun t ht => Ag.mem_txs.2 (h.k t ht))) A.txs_le
/-- as long as anything isn't pinned there is room, where nothing is pinned -/
theorem PI.room {n : Nat} {kept : List (List UInt8)} {A : Ag} (h : PI n kept A) (hU : V.Uq A.es) (hl : kept.length < n) : ∃ i, A.room = some i ∧ i < n ∧ ∀ (t : List UInt8) (u : Nat), A.g[i]? = some (some (t, u)) → t ∉ kept := by
  unfold Ag.room
  rcases freeI_two A.es with hf | ⟨i, hf⟩
  · rw [hf, if_neg (by omega)]
    have hno := Ag.nofree hf
    have hfull : A.txs.length = n := by
      rw [← h.l]
      unfold Ag.txs
      have : ∀ (g : List (Option (List UInt8 × Nat))), (∀ x ∈ g, x ≠ none) → (g.filterMap (fun x => x.map (·.1))).length = g.length := fun g => by
        induction g with
        | nil => intro _; rfl
        | cons x r ih =>
          intro hg
          cases x with
          | none => exact absurd rfl (hg none (by simp))
          | some p => simp [ih (fun y hy => hg y (by simp [hy]))]
      exact this A.g (fun x hx => by obtain ⟨i, hi⟩ := List.mem_iff_getElem?.1 hx; exact hno i x hi)
    have hold := oldS_pin A.pins A.es A.es.length
    cases h2 : (oldS A.pins A.es A.es.length).2 with
    | false =>
      exfalso
      have hall := hold.2 h2
      have : A.txs.length ≤ kept.length := nodup_le _ _ (Ag.txs_nodup hU) (fun t ht => by
        obtain ⟨i, u, hg⟩ := Ag.mem_txs.1 ht
        have hi : i < A.es.length := by rw [A.len]; exact (List.getElem?_eq_some_iff.1 hg).1
        obtain ⟨t', ht', e⟩ := h.q _ (hall i _ hi (A.at hg))
        obtain ⟨j, v, hj⟩ := h.k t' ht'
        have := Ag.uq hU hj hg e
        subst this
        rw [hj] at hg
        simp only [Option.some.injEq, Prod.mk.injEq] at hg
        rw [← hg.1]; exact ht')
      omega
    | true =>
      rw [if_pos rfl]
      obtain ⟨e, he, hp⟩ := hold.1 h2
      have hi := (oldS_lt A.pins A.es A.es.length h2).2
      refine ⟨_, rfl, by rw [← h.l]; exact Nat.lt_of_lt_of_eq hi A.len, fun t u hg ht => hp ?_⟩
      have := A.at hg
      rw [he] at this
      rw [Option.some.inj this]
      exact h.p t ht
  · rw [hf, if_pos (by omega)]
    have hg := Ag.free_at hf
    refine ⟨i, by simp, by rw [← h.l]; exact (List.getElem?_eq_some_iff.1 hg).1, fun t u h' => ?_⟩
    rw [hg] at h'; cases h'
/-- all is pinned: there is no room, and nothing else -/
theorem PI.full {n : Nat} {kept : List (List UInt8)} {A : Ag} (h : PI n kept A) (hl : n ≤ kept.length) : A.room = none ∧ ∀ (i : Nat) (t : List UInt8) (u : Nat), A.g[i]? = some (some (t, u)) → t ∈ kept := by
  have hall : ∀ (i : Nat) x, A.g[i]? = some x → ∃ t u, x = some (t, u) ∧ t ∈ kept := fun i x hx => by
    rcases Classical.em (∃ t u, x = some (t, u) ∧ t ∈ kept) with h' | h'
    · exact h'
    · exfalso
      have hi : i < A.g.length := (List.getElem?_eq_some_iff.1 hx).1
      have : kept.length ≤ ((A.g.eraseIdx i).filterMap (fun x => x.map (·.1))).length := nodup_le _ _ h.d (fun t ht => by
        obtain ⟨j, u, hj⟩ := h.k t ht
        have hne : j ≠ i := fun e => by subst e; rw [hx] at hj; exact h' ⟨t, u, Option.some.inj hj, ht⟩
        rw [List.mem_filterMap]
        refine ⟨some (t, u), ?_, rfl⟩
        rw [List.mem_iff_getElem?]
        rcases (by omega : j < i ∨ i < j) with hji | hji
        · exact ⟨j, by rw [List.getElem?_eraseIdx_of_lt hji]; exact hj⟩
        · exact ⟨j - 1, by rw [List.getElem?_eraseIdx_of_ge (by omega), show j - 1 + 1 = j by omega]; exact hj⟩)
      have h2 := List.length_filterMap_le (fun x : Option (List UInt8 × Nat) => x.map (·.1)) (A.g.eraseIdx i)
      rw [List.length_eraseIdx_of_lt hi, h.l] at h2
      have hn : 0 < n := by rw [← h.l]; omega
      omega
  refine ⟨?_, fun i t u hg => ?_⟩
  · unfold Ag.room
    rcases freeI_two A.es with hf | ⟨i, hf⟩
    · rw [hf, if_neg (by omega)]
      cases h2 : (oldS A.pins A.es A.es.length).2 with
      | false => simp
      | true =>
        exfalso
        obtain ⟨e, he, hp⟩ := (oldS_pin A.pins A.es A.es.length).1 h2
        have hi := (oldS_lt A.pins A.es A.es.length h2).2
        replace hi := Nat.lt_of_lt_of_eq hi A.len
        obtain ⟨t, u, hx, ht⟩ := hall _ _ (List.getElem?_eq_getElem hi)
        have hg : A.g[(oldS A.pins A.es A.es.length).1]? = some (some (t, u)) := by rw [List.getElem?_eq_getElem hi, hx]
        have := A.at hg
        rw [he] at this
        rw [Option.some.inj this] at hp
        exact hp (h.p t ht)
    · have := Ag.free_at hf
      obtain ⟨t, u, hx, _⟩ := hall i _ this
      cases hx
  · obtain ⟨t', u', e, ht⟩ := hall i _ hg
    simp only [Option.some.injEq, Prod.mk.injEq] at e
    rw [e.1]; exact ht
/-- a text is put, or used, where no other text is pinned -/
theorem PI.put {n : Nat} {kept : List (List UInt8)} {A : Ag} (h : PI n kept A) {i : Nat} {s : List UInt8} (hi : ∀ (t : List UInt8) (u : Nat), A.g[i]? = some (some (t, u)) → t ∈ kept → t = s) : PI n kept (A.put i s) := by
  refine ⟨by simpa [Ag.put] using h.l, h.d, fun t ht => ?_, h.p, h.q⟩
  obtain ⟨j, u, hj⟩ := h.k t ht
  by_cases e : i = j
  · subst e
    have hl : i < A.g.length := (List.getElem?_eq_some_iff.1 hj).1
    have := hi t u hj ht
    subst this
    exact ⟨i, A.uses + 1, by simp only [Ag.put]; rw [List.getElem?_set_self hl]⟩
  · exact ⟨j, u, by simp only [Ag.put]; rw [List.getElem?_set_ne e]; exact hj⟩
theorem PI.pin {n : Nat} {kept : List (List UInt8)} {A : Ag} (h : PI n kept A) {s : List UInt8} (hs : s ∈ kept) : PI n kept (A.pin (S.sha s)) :=
  ⟨h.l, h.d, h.k, fun t ht => List.mem_cons_of_mem _ (h.p t ht), fun x hx => by
    rcases List.mem_cons.1 hx with rfl | hx
    · exact ⟨s, hs, rfl⟩
    · exact h.q x hx⟩
/-- a new one is put and pinned -/
theorem PI.more {n : Nat} {kept : List (List UInt8)} {A : Ag} (h : PI n kept A) {i : Nat} {s : List UInt8} (hi : i < n) (hf : ∀ (t : List UInt8) (u : Nat), A.g[i]? = some (some (t, u)) → t ∉ kept) (hs : s ∉ kept) : PI n (kept ++ [s]) ((A.put i s).pin (S.sha s)) := by
  have y := h.put (i := i) (s := s) (fun t u hg ht => absurd ht (hf t u hg))
  refine ⟨y.l, ?_, fun t ht => ?_, fun t ht => ?_, fun x hx => ?_⟩
  · rw [List.nodup_append]
    refine ⟨h.d, by simp, fun a ha b hb e => ?_⟩
    simp at hb
    subst hb; subst e
    exact hs ha
  · rcases List.mem_append.1 ht with ht | ht
    · exact y.k t ht
    · simp at ht
      subst ht
      have hl : i < A.g.length := by rw [h.l]; exact hi
      exact ⟨i, A.uses + 1, by simp only [Ag.pin, Ag.put]; rw [List.getElem?_set_self hl]⟩
  · rcases List.mem_append.1 ht with ht | ht
    · exact List.mem_cons_of_mem _ (h.p t ht)
    · simp at ht
      subst ht
      exact List.mem_cons_self
  · rcases List.mem_cons.1 hx with rfl | hx
    · exact ⟨s, by simp, rfl⟩
    · obtain ⟨t, ht, e⟩ := h.q x hx
      exact ⟨t, List.mem_append_left _ ht, e⟩
theorem PI.new (n : Nat) : PI n [] (agN n) := ⟨by simp [agN], by simp, (fun t ht => by cases ht), (fun t ht => by cases ht), (fun x hx => by cases hx)⟩
end Go.Proofs.YtifpbkjjceidlaaDoor
