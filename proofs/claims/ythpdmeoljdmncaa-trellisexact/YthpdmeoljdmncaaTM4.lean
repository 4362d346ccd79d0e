/- What an action needs, what is dirty: on lists, of a build that can be. -/
import Derived.Test.YthpdmeoljdmncaaTM3
import Derived.Test.YthpdmeoljdmncaaZ11
namespace Go.Proofs.Ythpdmeoljdmncaa
open RC TR
set_option linter.unusedVariables false

theorem mem_nin {l : List (List UInt8)} {s : Nat} {x : List UInt8} : x ∈ nin l s l.length ↔ ∃ j, l[j]? = some x ∧ s.testBit j = true := by
  unfold nin
  rw [List.mem_filterMap]
  constructor
  · rintro ⟨j, hj, h⟩
    by_cases hb : s.testBit j = true
    · rw [if_pos hb] at h; exact ⟨j, h, hb⟩
    · rw [if_neg hb] at h; simp at h
  · rintro ⟨j, h, hb⟩
    refine ⟨j, List.mem_range.2 (List.getElem?_eq_some_iff.1 h).1, ?_⟩
    rw [if_pos hb]; exact h
theorem nin_nodup {l : List (List UInt8)} (hl : l.Nodup) (s k : Nat) : (nin l s k).Nodup := by
  induction k with
  | zero => simp [nin]
  | succ k ih =>
    cases h : l[k]? with
    | none =>
      have e : nin l s (k + 1) = nin l s k := by
        unfold nin
        rw [List.range_succ, List.filterMap_append]
        simp [h]
      rw [e]; exact ih
    | some t =>
      rw [nin_succ l s k t h]
      by_cases hb : s.testBit k = true
      · rw [if_pos hb, List.nodup_append]
        refine ⟨ih, by simp, fun x hx y hy e => ?_⟩
        simp at hy
        subst hy; subst e
        unfold nin at hx
        obtain ⟨j, hj, hx⟩ := List.mem_filterMap.1 hx
        rw [List.mem_range] at hj
        by_cases hb2 : s.testBit j = true
        · rw [if_pos hb2] at hx
          have := getElem?_inj hl hx h
          omega
        · rw [if_neg hb2] at hx; simp at hx
      · rw [if_neg hb]; simpa using ih
theorem le_tr (a b c : List UInt8) : decide (a ≤ b) = true → decide (b ≤ c) = true → decide (a ≤ c) = true := by
  simp only [decide_eq_true_eq]; exact List.le_trans
theorem le_tot (a b : List UInt8) : (decide (a ≤ b) || decide (b ≤ a)) = true := by
  simp only [Bool.or_eq_true, decide_eq_true_eq]; exact List.le_total a b
theorem mem_srt {l : List (List UInt8)} {s : List UInt8} : s ∈ srt l ↔ s ∈ l := by unfold srt; exact List.mem_mergeSort
theorem srt_lt {l : List (List UInt8)} (hl : l.Nodup) : (srt l).Pairwise (· < ·) := by
  have h1 : (srt l).Pairwise (fun a b => decide (a ≤ b) = true) := List.pairwise_mergeSort le_tr le_tot l
  have h2 : (srt l).Nodup := (List.mergeSort_perm l _).nodup_iff.2 hl
  unfold List.Nodup at h2
  refine (List.Pairwise.and h1 h2).imp ?_
  rintro a b ⟨h3, h4⟩
  have h3' : a ≤ b := by simpa using h3
  exact Classical.byContradiction fun hn => h4 (List.le_antisymm h3' (List.not_lt.1 hn))
theorem pw_at {l : List (List UInt8)} (h : l.Pairwise (· < ·)) {k : Nat} {a b : List UInt8} (ha : l[k]? = some a) (hb : l[k + 1]? = some b) : a < b := by
  obtain ⟨h1, e1⟩ := List.getElem?_eq_some_iff.1 ha
  obtain ⟨h2, e2⟩ := List.getElem?_eq_some_iff.1 hb
  rw [← e1, ← e2]
  exact List.pairwise_iff_getElem.1 h k (k + 1) h1 h2 (by omega)

theorem plc_of {g : Gr} (hn : (nm g).Nodup) {p : Nat} {t : Ac} (ht : g.2[p]? = some t) : plc g t.1 = some p := by
  unfold plc
  obtain ⟨hp, e⟩ := List.getElem?_eq_some_iff.1 ht
  rw [List.findIdx?_eq_some_iff_getElem]
  refine ⟨hp, by simp [e], fun j hj => ?_⟩
  simp only [decide_eq_true_eq]
  intro h
  have hj' : j < g.2.length := by omega
  have := act_inj hn (List.getElem?_eq_getElem hj') ht h
  omega
theorem plc_some {g : Gr} {p : Nat} {s : List UInt8} (h : plc g s = some p) : ∃ t, g.2[p]? = some t ∧ t.1 = s := by
  obtain ⟨hp, h1, _⟩ := List.findIdx?_eq_some_iff_getElem.1 h
  exact ⟨g.2[p], List.getElem?_eq_getElem hp, by simpa using h1⟩
theorem ndL_of {g : Gr} (h : TR.Good g) {p : Nat} {t : Ac} (ht : g.2[p]? = some t) : ndL g t.1 = srt (nin (nm g) (ndAt (fin g).needs p) (nm g).length) := by
  unfold ndL
  rw [if_pos (chk_zero.2 h)]
  unfold ndK
  rw [plc_of h.nd ht]
theorem mem_ndL {g : Gr} (h : TR.Good g) {p : Nat} {t : Ac} (ht : g.2[p]? = some t) {s : List UInt8} : s ∈ ndL g t.1 ↔ ∃ j, (nm g)[j]? = some s ∧ (ndAt (fin g).needs p).testBit j = true := by
  rw [ndL_of h ht, mem_srt, mem_nin]
theorem ndL_lt {g : Gr} (h : TR.Good g) {p : Nat} {t : Ac} (ht : g.2[p]? = some t) : (ndL g t.1).Pairwise (· < ·) := by
  rw [ndL_of h ht]; exact srt_lt (nin_nodup h.nd _ _)
theorem ndL_len {g : Gr} (h : TR.Good g) (s : List UInt8) : (ndL g s).length ≤ 20 := by
  unfold ndL
  rw [if_pos (chk_zero.2 h)]
  unfold ndK
  cases plc g s with
  | none => simp
  | some p =>
    have h1 := nin_le (nm g) (ndAt (fin g).needs p) (nm g).length
    have h2 := nm_len g
    have h3 := h.le
    simp only [srt, List.length_mergeSort]
    omega
/-- what it needs are its inputs, and what these need -/
theorem nd_from {g : Gr} (h : TR.Good g) {p : Nat} {t : Ac} (ht : g.2[p]? = some t) {s : List UInt8} (hs : s ∈ ndL g t.1) : s ∈ t.2.1 ∨ ∃ u ∈ t.2.1, s ∈ ndL g u := by
  obtain ⟨j, hj, hb⟩ := (mem_ndL h ht).1 hs
  have hp : p < g.2.length := (List.getElem?_eq_some_iff.1 ht).1
  rw [h.inv.need p (h.all hp) j, insO_of ht] at hb
  rcases hb with hb | ⟨o, ho, hb, hc⟩
  · obtain ⟨x, hx, hpx⟩ := setOf_t.1 hb
    have := (pos_some hpx).1
    rw [hj] at this
    cases this
    exact Or.inl hx
  · obtain ⟨x, hx, hpx⟩ := setOf_t.1 hb
    have hol := h.inv.lt o ho
    have hot := List.getElem?_eq_getElem hol
    have h1 := (pos_some hpx).1
    rw [nm_act hot] at h1
    have e : g.2[o].1 = x := Option.some.inj h1
    refine Or.inr ⟨x, hx, ?_⟩
    rw [← e]
    exact (mem_ndL h hot).2 ⟨j, hj, hc⟩
theorem nd_ins {g : Gr} (h : TR.Good g) {p : Nat} {t : Ac} (ht : g.2[p]? = some t) {s : List UInt8} (hs : s ∈ t.2.1) : s ∈ ndL g t.1 := by
  obtain ⟨j, hj⟩ := pos_mem (miss_not h.ms t (List.mem_of_getElem? ht) s hs)
  have hp : p < g.2.length := (List.getElem?_eq_some_iff.1 ht).1
  refine (mem_ndL h ht).2 ⟨j, (pos_some hj).1, ?_⟩
  rw [h.inv.need p (h.all hp) j, insO_of ht]
  exact Or.inl (setOf_t.2 ⟨s, hs, hj⟩)
/-- what is needed stands ahead -/
theorem nd_ahead {g : Gr} (h : TR.Good g) : ∀ (n j o : Nat), j < n → (fin g).order[j]? = some o → ∀ i, (ndAt (fin g).needs o).testBit i = true → i < g.1.length ∨ ∃ j' o', j' < j ∧ (fin g).order[j']? = some o' ∧ i = g.1.length + o'
  | 0, j, o, hj, _, _, _ => by omega
  | n + 1, j, o, hj, ho, i, hb => by
    have hin : ∀ k, (setOf (nm g) (insO g o)).testBit k = true → k < g.1.length ∨ ∃ j' o', j' < j ∧ (fin g).order[j']? = some o' ∧ k = g.1.length + o' := fun k hk => by
      obtain ⟨x, hx, hpx⟩ := setOf_t.1 hk
      rcases h.inv.topo j o ho x hx with h1 | ⟨j', o', b, h1, h2, h3, h4⟩
      · refine Or.inl ?_
        obtain ⟨q, hq, e⟩ := List.getElem_of_mem h1
        have h2 : (nm g)[q]? = some x := by rw [nm_src hq, List.getElem?_eq_getElem hq, e]
        rw [pos_of h.nd h2] at hpx
        simp at hpx; omega
      · refine Or.inr ⟨j', o', h1, h2, ?_⟩
        rw [← h4, pos_act h.nd h3] at hpx
        simp at hpx; omega
    rw [h.inv.need o (List.mem_of_getElem? ho) i] at hb
    rcases hb with hb | ⟨o2, ho2, hb, hc⟩
    · exact hin i hb
    · rcases hin _ hb with h1 | ⟨j', o', h1, h2, h3⟩
      · omega
      · obtain rfl : o2 = o' := by omega
        rcases nd_ahead h n j' o2 (by omega) h2 i hc with h4 | ⟨j2, o3, h4, h5, h6⟩
        · exact Or.inl h4
        · exact Or.inr ⟨j2, o3, by omega, h5, h6⟩
theorem nd_self {g : Gr} (h : TR.Good g) {p : Nat} {t : Ac} (ht : g.2[p]? = some t) : t.1 ∉ ndL g t.1 := fun hs => by
  obtain ⟨j, hj, hb⟩ := (mem_ndL h ht).1 hs
  have := getElem?_inj h.nd hj (nm_act ht)
  subst this
  have hp : p < g.2.length := (List.getElem?_eq_some_iff.1 ht).1
  obtain ⟨k, hk, e⟩ := List.getElem_of_mem (h.all hp)
  have hko : (fin g).order[k]? = some p := by rw [List.getElem?_eq_getElem hk, e]
  rcases nd_ahead h (k + 1) k p (by omega) hko _ hb with h1 | ⟨j', o', h1, h2, h3⟩
  · omega
  · obtain rfl : p = o' := by omega
    have h4 := (List.getElem?_eq_some_iff.1 h2).1
    have : j' = k := (List.getElem?_inj h4 h.inv.nd).1 (h2.trans hko.symm)
    omega
/-- dirty is what has one of the names, or needs one -/
theorem drt_iff {g : Gr} (h : TR.Good g) {p : Nat} {t : Ac} (ht : g.2[p]? = some t) (xs : List (List UInt8)) : drt g (fin g) (setOf (nm g) xs) p = (decide (t.1 ∈ xs) || (ndL g t.1).any fun s => decide (s ∈ xs)) := by
  have e1 : (setOf (nm g) xs).testBit (g.1.length + p) = decide (t.1 ∈ xs) := by
    rw [Bool.eq_iff_iff, setOf_t, decide_eq_true_eq]
    constructor
    · rintro ⟨x, hx, hpx⟩
      have h1 := (pos_some hpx).1
      rw [nm_act ht] at h1
      rw [Option.some.inj h1]; exact hx
    · intro hx; exact ⟨t.1, hx, pos_act h.nd ht⟩
  have e2 : (!decide (ndAt (fin g).needs p &&& setOf (nm g) xs = 0)) = (ndL g t.1).any fun s => decide (s ∈ xs) := by
    rw [Bool.eq_iff_iff, Bool.not_eq_true', decide_eq_false_iff_not, and_zero, List.any_eq_true]
    constructor
    · intro hn
      obtain ⟨i, hi⟩ := Classical.not_forall.1 hn
      obtain ⟨h1, h2⟩ := Classical.not_not.1 hi
      obtain ⟨x, hx, hpx⟩ := setOf_t.1 h2
      exact ⟨x, (mem_ndL h ht).2 ⟨i, (pos_some hpx).1, h1⟩, by simpa using hx⟩
    · rintro ⟨x, hx, hx2⟩ hn
      obtain ⟨j, hj, hb⟩ := (mem_ndL h ht).1 hx
      exact hn j ⟨hb, setOf_t.2 ⟨x, by simpa using hx2, pos_of h.nd hj⟩⟩
  unfold drt
  rw [e1, e2, Bool.or_comm]

theorem plcs_get (q : Nat → Bool) : ∀ (n i : Nat), i < n → (if q i = true then (plcs q n)[(plcs q i).length]? = some i else (plcs q n)[(plcs q i).length]? ≠ some i)
  | 0, i, h => by omega
  | n + 1, i, h => by
    rcases (by omega : i < n ∨ i = n) with h' | rfl
    · have ih := plcs_get q n i h'
      rw [plcs_succ]
      by_cases hq : q i = true
      · rw [if_pos hq] at ih ⊢
        rw [List.getElem?_append_left (List.getElem?_eq_some_iff.1 ih).1]; exact ih
      · rw [if_neg hq] at ih ⊢
        intro hc
        rcases Nat.lt_or_ge (plcs q i).length (plcs q n).length with hl | hl
        · rw [List.getElem?_append_left hl] at hc; exact ih hc
        · rw [List.getElem?_append_right hl] at hc
          have := List.mem_of_getElem? hc
          split at this
          · simp at this; omega
          · simp at this
    · rw [plcs_succ]
      by_cases hq : q i = true
      · rw [if_pos hq, if_pos hq, List.getElem?_append_right (Nat.le_refl _)]; simp
      · rw [if_neg hq, if_neg hq]; simp
end Go.Proofs.Ythpdmeoljdmncaa
