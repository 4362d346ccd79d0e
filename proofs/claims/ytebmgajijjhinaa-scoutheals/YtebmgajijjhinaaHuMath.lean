/- Rumours, on lists: of each node a word, and how often it is to be told yet (0: none). -/
import Derived.Test.YtebmgajijjhinaaKMath
namespace Go.Proofs.Ytebmgajijjhinaa.HU
set_option linter.unusedVariables false
set_option linter.unusedSimpArgs false

abbrev Ru := K.Me × Int
abbrev St := Int → Ru
def e0 : St := fun _ => ((0, 0, 0), 0)
/-- a is told ahead of b -/
abbrev Fst (a b : Ru) : Prop := b.2 < a.2 ∨ (a.2 = b.2 ∧ a.1.1 < b.1.1)
def ltT (a b : Ru) : Bool := decide (Fst a b)
def ltN (a b : Ru) : Bool := decide (a.1.1 < b.1.1)
/-- just the rumours of F, one a node -/
structure Rep (l : List Ru) (F : St) : Prop where
  nd : (l.map (fun r => r.1.1)).Nodup
  mem : ∀ r : Ru, r ∈ l ↔ (F r.1.1 = r ∧ 0 < r.2 ∧ 1 ≤ r.1.1 ∧ r.1.1 ≤ 6)
/-- each rumour is of its node, can be, and is to be told at most T times -/
structure Ok (F : St) (T : Int) : Prop where
  lo : ∀ i, 0 ≤ (F i).2
  hi : ∀ i, (F i).2 ≤ T
  at' : ∀ i, 0 < (F i).2 → K.Good (F i).1 ∧ (F i).1.1 = i
def nodes : List Int := [1, 2, 3, 4, 5, 6]
theorem mem_nodes (i : Int) : i ∈ nodes ↔ 1 ≤ i ∧ i ≤ 6 := by
  unfold nodes
  simp only [List.mem_cons, List.not_mem_nil, or_false]
  omega
/-- all rumours, by rising nodes -/
def lf (F : St) : List Ru := (nodes.map F).filter (fun r => decide (0 < r.2))
theorem mem_lf {F : St} {T : Int} (h : Ok F T) (r : Ru) : r ∈ lf F ↔ (F r.1.1 = r ∧ 0 < r.2 ∧ 1 ≤ r.1.1 ∧ r.1.1 ≤ 6) := by
  unfold lf
  rw [List.mem_filter, List.mem_map]
  constructor
  · rintro ⟨⟨i, hi, rfl⟩, h2⟩
    have h3 : 0 < (F i).2 := by simpa using h2
    obtain ⟨g, e⟩ := h.at' i h3
    have := (mem_nodes i).1 hi
    rw [e]
    exact ⟨rfl, h3, this.1, this.2⟩
  · rintro ⟨h1, h2, h3, h4⟩
    exact ⟨⟨r.1.1, (mem_nodes _).2 ⟨h3, h4⟩, h1⟩, by simpa using h2⟩
theorem nd_of_sorted {l : List Ru} (h : l.Pairwise (fun a b => ltN a b = true)) : (l.map (fun r => r.1.1)).Nodup := by
  rw [List.nodup_iff_pairwise_ne, List.pairwise_map]
  refine h.imp ?_
  intro a b hab e
  have := of_decide_eq_true hab
  omega
theorem lf_sorted {F : St} {T : Int} (h : Ok F T) : (lf F).Pairwise (fun a b => ltN a b = true) := by
  unfold lf
  have hn : nodes.Pairwise (· < ·) := by decide
  have h2 : ((nodes.filter (fun i => decide (0 < (F i).2))).map F).Pairwise (fun a b => ltN a b = true) := by
    rw [List.pairwise_map]
    have h3 : (nodes.filter (fun i => decide (0 < (F i).2))).Pairwise (fun a b => 0 < (F a).2 ∧ 0 < (F b).2 ∧ a < b) := by
      refine (List.Pairwise.and_mem.1 (hn.filter _)).imp ?_
      rintro a b ⟨ha, hb, hab⟩
      exact ⟨by simpa using (List.mem_filter.1 ha).2, by simpa using (List.mem_filter.1 hb).2, hab⟩
    refine h3.imp ?_
    rintro a b ⟨ha, hb, hab⟩
    refine decide_eq_true ?_
    rw [(h.at' a ha).2, (h.at' b hb).2]; exact hab
  rw [List.filter_map]
  exact h2
theorem rep_lf {F : St} {T : Int} (h : Ok F T) : Rep (lf F) F := ⟨nd_of_sorted (lf_sorted h), mem_lf h⟩
theorem Rep.ndl {l : List Ru} {F : St} (h : Rep l F) : l.Nodup := by
  have := h.nd
  rw [List.nodup_iff_pairwise_ne, List.pairwise_map] at this
  rw [List.nodup_iff_pairwise_ne]
  exact this.imp fun hab e => hab (by rw [e])
theorem Rep.perm {l l' : List Ru} {F : St} (h : Rep l F) (h' : Rep l' F) : l.Perm l' :=
  (List.perm_ext_iff_of_nodup h.ndl h'.ndl).2 fun r => by rw [h.mem, h'.mem]
theorem Rep.of_perm {l l' : List Ru} {F : St} (h : Rep l F) (hp : l'.Perm l) : Rep l' F :=
  ⟨(hp.map _).nodup_iff.2 h.nd, fun r => by rw [hp.mem_iff, h.mem]⟩
theorem lf_len (F : St) : (lf F).length ≤ 6 := by
  unfold lf
  exact Nat.le_trans (List.length_filter_le _ _) (by simp [nodes])
theorem Rep.len {l : List Ru} {F : St} {T : Int} (h : Rep l F) (ok : Ok F T) : l.length ≤ 6 := by
  rw [(h.perm (rep_lf ok)).length_eq]; exact lf_len F
/-- two words of one node are one -/
theorem Rep.same {l : List Ru} {F : St} (h : Rep l F) {a b : Ru} (ha : a ∈ l) (hb : b ∈ l) (e : a.1.1 = b.1.1) : a = b := by
  rw [← ((h.mem a).1 ha).1, ← ((h.mem b).1 hb).1, e]
/-- the order of telling -/
def leT (a b : Ru) : Bool := !ltT b a
theorem leT_iff (a b : Ru) : leT a b = true ↔ (b.2 < a.2 ∨ (a.2 = b.2 ∧ a.1.1 ≤ b.1.1)) := by
  unfold leT ltT Fst
  rw [Bool.not_eq_true', decide_eq_false_iff_not]
  omega
theorem leT_trans (a b c : Ru) (h1 : leT a b = true) (h2 : leT b c = true) : leT a c = true := by
  rw [leT_iff] at *; omega
theorem leT_total (a b : Ru) : (leT a b || leT b a) = true := by
  rw [Bool.or_eq_true, leT_iff, leT_iff]; omega
/-- all rumours, as they are to be told -/
def tl (F : St) : List Ru := (lf F).mergeSort leT
theorem rep_tl {F : St} {T : Int} (h : Ok F T) : Rep (tl F) F := (rep_lf h).of_perm (List.mergeSort_perm _ _)
theorem tl_sorted (F : St) : (tl F).Pairwise (fun a b => leT a b = true) := List.pairwise_mergeSort leT_trans leT_total _
theorem tl_uniq {F : St} {T : Int} (h : Ok F T) {l : List Ru} (hr : Rep l F) (hs : l.Pairwise (fun a b => leT a b = true)) : l = tl F := by
  refine List.Perm.eq_of_pairwise ?_ hs (tl_sorted F) (hr.perm (rep_tl h))
  intro a b ha hb h1 h2
  have hb' := (hr.perm (rep_tl h)).mem_iff.2 hb
  rw [leT_iff] at h1 h2
  exact hr.same ha hb' (by omega)
theorem lf_uniq {F : St} {T : Int} (h : Ok F T) {l : List Ru} (hr : Rep l F) (hs : l.Pairwise (fun a b => (!ltN b a) = true)) : l = lf F := by
  have h2 : (lf F).Pairwise (fun a b => (!ltN b a) = true) := (lf_sorted h).imp fun {a b} hab => by
    have := of_decide_eq_true hab
    unfold ltN
    rw [decide_eq_false (by omega)]; rfl
  refine List.Perm.eq_of_pairwise ?_ hs h2 (hr.perm (rep_lf h))
  intro a b ha hb h1 h3
  have hb' := (hr.perm (rep_lf h)).mem_iff.2 hb
  refine hr.same ha hb' ?_
  unfold ltN at h1 h3
  rw [Bool.not_eq_true', decide_eq_false_iff_not] at h1 h3
  omega
theorem tl_len (F : St) : (tl F).length ≤ 6 := by
  unfold tl
  rw [(List.mergeSort_perm _ _).length_eq]; exact lf_len F
theorem tl_lf (F : St) : (tl F).length = (lf F).length := (List.mergeSort_perm _ _).length_eq
theorem mem_tl (F : St) (r : Ru) : r ∈ tl F ↔ r ∈ lf F := (List.mergeSort_perm _ _).mem_iff
theorem ok_e0 {T : Int} (hT : 0 ≤ T) : Ok e0 T := ⟨fun _ => Int.le_refl _, fun _ => hT, fun i h => by simp [e0] at h⟩
theorem lf_e0 : lf e0 = [] := by decide
theorem tl_e0 : tl e0 = [] := List.length_eq_zero_iff.1 (by rw [tl_lf, lf_e0]; rfl)

/-! a word comes -/
def set1 (F : St) (T : Int) (m : K.Me) : St := fun k => if k = m.1 then (m, T) else F k
def put (T : Int) (F : St) (m : K.Me) : St := if K.good m = true then set1 F T m else F
def push (T : Int) (F : St) (l : List K.Me) : St := l.foldl (put T) F
theorem push_take {T : Int} {F : St} {l : List K.Me} {k : Nat} {m : K.Me} (h : l[k]? = some m) : push T F (l.take (k + 1)) = put T (push T F (l.take k)) m := by
  rw [List.take_add_one, h, Option.toList_some]
  unfold push
  rw [List.foldl_append]; rfl
theorem ok_set1 {F : St} {T : Int} (h : Ok F T) {m : K.Me} (hm : K.Good m) (hT : 0 ≤ T) : Ok (set1 F T m) T := by
  refine ⟨fun i => ?_, fun i => ?_, fun i hi => ?_⟩
  · unfold set1; split
    · exact hT
    · exact h.lo i
  · unfold set1; split
    · exact Int.le_refl _
    · exact h.hi i
  · unfold set1 at hi ⊢
    split
    · rename_i e; exact ⟨hm, e.symm⟩
    · rename_i e; rw [if_neg e] at hi; exact h.at' i hi
theorem ok_put {F : St} {T : Int} (h : Ok F T) (m : K.Me) (hT : 0 ≤ T) : Ok (put T F m) T := by
  unfold put
  split
  · rename_i hg; exact ok_set1 h ((K.good_iff m).1 hg) hT
  · exact h
theorem ok_push {T : Int} (hT : 0 ≤ T) : ∀ (l : List K.Me) {F : St}, Ok F T → Ok (push T F l) T
  | [], F, h => h
  | m :: r, F, h => ok_push hT r (ok_put h m hT)
theorem rep_app {l : List Ru} {F : St} {T : Int} (h : Rep l F) {m : K.Me} (hm : K.Good m) (hT : 0 < T) (hn : ∀ r ∈ l, r.1.1 ≠ m.1) : Rep (l ++ [(m, T)]) (set1 F T m) := by
  refine ⟨?_, fun r => ?_⟩
  · rw [List.map_append, List.nodup_append]
    refine ⟨h.nd, by simp, fun a ha b hb => ?_⟩
    obtain ⟨r, hr, rfl⟩ := List.mem_map.1 ha
    simp at hb; subst hb
    exact hn r hr
  · rw [List.mem_append, h.mem, List.mem_singleton]
    unfold set1
    by_cases e : r.1.1 = m.1
    · rw [if_pos e]
      constructor
      · rintro (h1 | rfl)
        · exact absurd e (hn r ((h.mem r).2 h1))
        · exact ⟨rfl, hT, hm.1, hm.2.1⟩
      · rintro ⟨h1, _⟩; exact Or.inr h1.symm
    · rw [if_neg e]
      constructor
      · rintro (h1 | rfl)
        · exact h1
        · exact absurd rfl e
      · exact Or.inl
theorem rep_set {l : List Ru} {F : St} {T : Int} (h : Rep l F) {m : K.Me} (hm : K.Good m) (hT : 0 < T) {k : Nat} {o : Ru} (hk : l[k]? = some o) (ho : o.1.1 = m.1) : Rep (l.set k (m, T)) (set1 F T m) := by
  have hkl : k < l.length := (List.getElem?_eq_some_iff.1 hk).1
  have he : (l.set k (m, T)).map (fun r => r.1.1) = l.map (fun r => r.1.1) := by
    apply List.ext_getElem?
    intro i
    rw [List.getElem?_map, List.getElem?_map, List.getElem?_set]
    by_cases e : k = i
    · subst e
      rw [if_pos rfl, if_pos hkl, hk]; simp [ho]
    · rw [if_neg e]
  refine ⟨by rw [he]; exact h.nd, fun r => ?_⟩
  have hom : o ∈ l := List.mem_of_getElem? hk
  unfold set1
  by_cases e : r.1.1 = m.1
  · rw [if_pos e]
    constructor
    · intro hr
      obtain ⟨i, hi⟩ := List.mem_iff_getElem?.1 hr
      rw [List.getElem?_set] at hi
      by_cases e2 : k = i
      · rw [if_pos e2, if_pos (by omega)] at hi
        cases hi
        exact ⟨rfl, hT, hm.1, hm.2.1⟩
      · rw [if_neg e2] at hi
        exfalso
        have hro : r = o := h.same (List.mem_of_getElem? hi) hom (by rw [e, ho])
        subst hro
        have hil : i < l.length := (List.getElem?_eq_some_iff.1 hi).1
        have := (List.getElem?_inj (j := i) hkl h.ndl).1 (hk.trans hi.symm)
        exact e2 this
    · rintro ⟨h1, _⟩
      rw [← h1]
      exact List.mem_iff_getElem?.2 ⟨k, by rw [List.getElem?_set, if_pos rfl, if_pos hkl]⟩
  · rw [if_neg e, ← h.mem]
    constructor
    · intro hr
      obtain ⟨i, hi⟩ := List.mem_iff_getElem?.1 hr
      rw [List.getElem?_set] at hi
      by_cases e2 : k = i
      · rw [if_pos e2, if_pos (by omega)] at hi
        cases hi
        exact absurd rfl e
      · rw [if_neg e2] at hi
        exact List.mem_of_getElem? hi
    · intro hr
      obtain ⟨i, hi⟩ := List.mem_iff_getElem?.1 hr
      refine List.mem_iff_getElem?.2 ⟨i, ?_⟩
      rw [List.getElem?_set, if_neg ?_]
      · exact hi
      · rintro rfl
        rw [hk] at hi; cases hi
        exact e ho

/-! rumours are told -/
def dec (r : Ru) : Ru := (r.1, r.2 - 1)
def inT (F : St) (k : Nat) (i : Int) : Bool := ((tl F).take k).any (fun r => r.1.1 == i)
def took (F : St) (k : Nat) : St := fun i => if inT F k i = true then dec (F i) else F i
def told (F : St) (k : Nat) : List K.Me := ((tl F).take k).map (fun r => r.1)
theorem inT_iff (F : St) (k : Nat) (i : Int) : inT F k i = true ↔ ∃ r ∈ (tl F).take k, r.1.1 = i := by
  unfold inT
  simp [List.any_eq_true]
theorem inT_pos {F : St} {T : Int} (h : Ok F T) {k : Nat} {i : Int} (hi : inT F k i = true) : 0 < (F i).2 ∧ F i ∈ (tl F).take k := by
  obtain ⟨r, hr, rfl⟩ := (inT_iff F k i).1 hi
  have hm := (rep_tl h).mem r |>.1 (List.mem_of_mem_take hr)
  rw [hm.1]
  exact ⟨hm.2.1, hr⟩
theorem ok_took {F : St} {T : Int} (h : Ok F T) (k : Nat) : Ok (took F k) T := by
  refine ⟨fun i => ?_, fun i => ?_, fun i hi => ?_⟩
  · unfold took; split
    · rename_i hi
      have := (inT_pos h hi).1
      show 0 ≤ (F i).2 - 1
      omega
    · exact h.lo i
  · unfold took; split
    · have := h.hi i
      show (F i).2 - 1 ≤ T
      omega
    · exact h.hi i
  · unfold took at hi ⊢
    split
    · rename_i ht; exact h.at' i (inT_pos h ht).1
    · rename_i ht; rw [if_neg ht] at hi; exact h.at' i hi
/-- the first so many told once more -/
def decL (l : List Ru) (k : Nat) : List Ru := (l.take k).map dec ++ l.drop k
theorem decL_zero (l : List Ru) : decL l 0 = l := by simp [decL]
theorem decL_len (l : List Ru) (k : Nat) : (decL l k).length = l.length := by
  unfold decL; simp only [List.length_append, List.length_map, List.length_take, List.length_drop]; omega
theorem decL_at {l : List Ru} {k : Nat} {r : Ru} (h : l[k]? = some r) : (decL l k)[k]? = some r ∧ decL l (k + 1) = (decL l k).set k (dec r) := by
  have hk : k < l.length := (List.getElem?_eq_some_iff.1 h).1
  have e1 : ((l.take k).map dec).length = k := by simp; omega
  have e2 : l.drop k = r :: l.drop (k + 1) := by
    rw [List.drop_eq_getElem_cons hk]
    congr 1
    exact (List.getElem?_eq_some_iff.1 h).2
  unfold decL
  constructor
  · rw [List.getElem?_append_right (by omega), e1, e2]; simp
  · rw [List.set_append_right _ _ (by omega), e1, e2, Nat.sub_self, List.set_cons_zero, List.take_add_one, h, Option.toList_some, List.map_append, List.append_assoc]
    rfl
theorem decL_nodes (l : List Ru) (k : Nat) : (decL l k).map (fun r => r.1.1) = l.map (fun r => r.1.1) := by
  unfold decL
  rw [List.map_append, List.map_map]
  have : ((fun r : Ru => r.1.1) ∘ dec) = (fun r : Ru => r.1.1) := rfl
  rw [this, ← List.map_append, List.take_append_drop]
theorem rep_took {F : St} {T : Int} (h : Ok F T) (k : Nat) : Rep ((decL (tl F) k).filter (fun r => !decide (r.2 < 1))) (took F k) := by
  have hr := rep_tl h
  have hnd : ((decL (tl F) k).map (fun r => r.1.1)).Nodup := by rw [decL_nodes]; exact hr.nd
  refine ⟨?_, fun r => ?_⟩
  · rw [List.nodup_iff_pairwise_ne, List.pairwise_map] at hnd ⊢
    exact hnd.filter _
  · rw [List.mem_filter]
    unfold decL
    rw [List.mem_append, List.mem_map]
    have hsplit := List.take_append_drop k (tl F)
    have hdis : ∀ a ∈ (tl F).take k, ∀ b ∈ (tl F).drop k, a.1.1 ≠ b.1.1 := by
      have h1 := hr.nd
      rw [← hsplit, List.map_append, List.nodup_append] at h1
      intro a ha b hb
      exact h1.2.2 _ (List.mem_map_of_mem ha) _ (List.mem_map_of_mem hb)
    constructor
    · rintro ⟨h1 | h1, h2⟩
      · obtain ⟨a, ha, rfl⟩ := h1
        have hm := (hr.mem a).1 (List.mem_of_mem_take ha)
        have hi : inT F k a.1.1 = true := (inT_iff F k _).2 ⟨a, ha, rfl⟩
        have h3 : took F k (dec a).1.1 = dec a := by
          show took F k a.1.1 = _
          unfold took; rw [if_pos hi, hm.1]
        refine ⟨h3, ?_, hm.2.2.1, hm.2.2.2⟩
        simp at h2; omega
      · have hm := (hr.mem r).1 (List.mem_of_mem_drop h1)
        have hi : ¬ inT F k r.1.1 = true := fun e => by
          obtain ⟨a, ha, e⟩ := (inT_iff F k _).1 e
          exact hdis a ha r h1 e
        exact ⟨by unfold took; rw [if_neg hi, hm.1], hm.2.1, hm.2.2⟩
    · rintro ⟨h1, h2, h3, h4⟩
      refine ⟨?_, by simp; omega⟩
      unfold took at h1
      split at h1
      · rename_i hi
        obtain ⟨_, hmem⟩ := inT_pos h hi
        exact Or.inl ⟨_, hmem, h1⟩
      · rename_i hi
        right
        have hm := (hr.mem r).2 ⟨h1, h2, h3, h4⟩
        rw [← hsplit, List.mem_append] at hm
        rcases hm with hm | hm
        · exact absurd ((inT_iff F k _).2 ⟨r, hm, rfl⟩) hi
        · exact hm
/-- so many are told -/
def cnt (F : St) (most : Int) : Nat := (min most ((tl F).length : Int)).toNat
theorem cnt_le (F : St) (most : Int) : cnt F most ≤ (tl F).length := by unfold cnt; omega
end Go.Proofs.Ytebmgajijjhinaa.HU
