/- The texts TM6 TM7 as one. -/
import Derived.Test.YthpdmeoljdmncaaTM4
/- What the reference makes, on lists. -/
namespace Go.Proofs.Ythpdmeoljdmncaa
open RC TR
set_option linter.unusedVariables false
set_option linter.unusedSimpArgs false

/-- a text among rising ones, once -/
def insR (s : List UInt8) : Bool → List (List UInt8) → List (List UInt8)
  | d, [] => if d then [] else [s]
  | d, x :: l => (if (!d && decide (s ≤ x)) = true then [s] else []) ++ ((if x = s then [] else [x]) ++ insR s (d || decide (s ≤ x)) l)
def insL (s : List UInt8) (l : List (List UInt8)) : List (List UInt8) := insR s false l


theorem mem_insR (s x : List UInt8) : ∀ (l : List (List UInt8)) (d : Bool), x ∈ insR s d l ↔ (x ∈ l ∧ x ≠ s) ∨ (d = false ∧ x = s)
  | [], d => by cases d <;> simp [insR]
  | y :: l, d => by
    unfold insR
    rw [List.mem_append, List.mem_append, mem_insR s x l]
    by_cases h1 : s ≤ y <;> by_cases h2 : y = s <;> by_cases h3 : x = s <;> cases d <;> simp_all <;> exact fun e => h2 e.symm
theorem mem_insL {s x : List UInt8} {l : List (List UInt8)} : x ∈ insL s l ↔ x ∈ l ∨ x = s := by
  unfold insL
  rw [mem_insR]
  by_cases h : x = s <;> simp [h]
theorem insR_true (s : List UInt8) : ∀ (l : List (List UInt8)), l.Pairwise (· < ·) → (insR s true l).Pairwise (· < ·)
  | [], _ => by simp [insR]
  | y :: l, h => by
    unfold insR
    have ih := insR_true s l (List.pairwise_cons.1 h).2
    have hy := (List.pairwise_cons.1 h).1
    simp only [Bool.not_true, Bool.false_and, Bool.false_eq_true, if_false, List.nil_append, Bool.true_or]
    by_cases h2 : y = s
    · rw [if_pos h2]; simpa using ih
    · rw [if_neg h2]
      refine List.pairwise_cons.2 ⟨fun z hz => ?_, ih⟩
      rcases (mem_insR s z l true).1 hz with h4 | h4
      · exact hy z h4.1
      · cases h4.1
theorem insL_lt (s : List UInt8) : ∀ (l : List (List UInt8)), l.Pairwise (· < ·) → (insL s l).Pairwise (· < ·)
  | [], _ => by simp [insL, insR]
  | y :: l, h => by
    have ih := insL_lt s l (List.pairwise_cons.1 h).2
    have hy := (List.pairwise_cons.1 h).1
    unfold insL at ih ⊢
    unfold insR
    by_cases h1 : s ≤ y
    · have hr : insR s (false || decide (s ≤ y)) l = insR s true l := by rw [decide_eq_true h1]; rfl
      rw [hr, if_pos (by simp [h1]), List.singleton_append]
      refine List.pairwise_cons.2 ⟨fun z hz => ?_, ?_⟩
      · rcases List.mem_append.1 hz with h4 | h4
        · by_cases h2 : y = s
          · rw [if_pos h2] at h4; simp at h4
          · rw [if_neg h2] at h4
            rw [List.mem_singleton.1 h4]
            rcases List.le_iff_lt_or_eq.1 h1 with h5 | h5
            · exact h5
            · exact absurd h5.symm h2
        · rcases (mem_insR s z l true).1 h4 with h5 | h5
          · have h6 := hy z h5.1
            rcases List.le_iff_lt_or_eq.1 h1 with h7 | h7
            · exact List.lt_trans h7 h6
            · rw [h7]; exact h6
          · cases h5.1
      · by_cases h2 : y = s
        · rw [if_pos h2]; exact insR_true s l (List.pairwise_cons.1 h).2
        · rw [if_neg h2]
          refine List.pairwise_cons.2 ⟨fun z hz => ?_, insR_true s l (List.pairwise_cons.1 h).2⟩
          rcases (mem_insR s z l true).1 hz with h4 | h4
          · exact hy z h4.1
          · cases h4.1
    · have hr : insR s (false || decide (s ≤ y)) l = insR s false l := by rw [decide_eq_false h1]; rfl
      have hlt : y < s := List.not_le.1 h1
      have h2 : ¬ y = s := fun e => h1 (by rw [e]; exact List.le_refl s)
      rw [hr, if_neg (by simp [h1]), if_neg h2]
      refine List.pairwise_cons.2 ⟨fun z hz => ?_, ih⟩
      rcases (mem_insR s z l false).1 hz with h4 | h4
      · exact hy z h4.1
      · rw [h4.2]; exact hlt
/-- two rising lists of the same texts are the same -/
theorem lt_ext : ∀ (l m : List (List UInt8)), l.Pairwise (· < ·) → m.Pairwise (· < ·) → (∀ x, x ∈ l ↔ x ∈ m) → l = m
  | [], m, _, _, h => by
    cases m with
    | nil => rfl
    | cons b m => have := (h b).2 (by simp); simp at this
  | a :: l, [], _, _, h => by have := (h a).1 (by simp); simp at this
  | a :: l, b :: m, hl, hm, h => by
    obtain ⟨ha, hl'⟩ := List.pairwise_cons.1 hl
    obtain ⟨hb, hm'⟩ := List.pairwise_cons.1 hm
    have e : a = b := by
      rcases List.mem_cons.1 ((h a).1 (by simp)) with e | h1
      · exact e
      · rcases List.mem_cons.1 ((h b).2 (by simp)) with e | h2
        · exact e.symm
        · exact absurd (List.lt_trans (hb a h1) (ha b h2)) (List.lt_irrefl b)
    subst e
    congr 1
    refine lt_ext l m hl' hm' fun x => ⟨fun hx => ?_, fun hx => ?_⟩
    · rcases List.mem_cons.1 ((h x).1 (List.mem_cons_of_mem _ hx)) with e | h1
      · subst e; exact absurd (ha x hx) (List.lt_irrefl x)
      · exact h1
    · rcases List.mem_cons.1 ((h x).2 (List.mem_cons_of_mem _ hx)) with e | h1
      · subst e; exact absurd (hb x hx) (List.lt_irrefl x)
      · exact h1
theorem sub_len : ∀ (l m : List (List UInt8)), l.Nodup → (∀ x ∈ l, x ∈ m) → l.length ≤ m.length
  | [], m, _, _ => by simp
  | a :: l, m, hn, h => by
    obtain ⟨h1, h2⟩ := List.nodup_cons.1 hn
    have ha := h a (by simp)
    have := sub_len l (m.erase a) h2 (fun x hx => (List.mem_erase_of_ne (fun e => h1 (by rw [← e]; exact hx))).2 (h x (List.mem_cons_of_mem _ hx)))
    rw [List.length_erase_of_mem ha] at this
    have := List.length_pos_of_mem ha
    simp only [List.length_cons]; omega
/-- rising names of a build -/
structure Nice (g : Gr) (o : List (List UInt8)) : Prop where
  lt : o.Pairwise (· < ·)
  nm : ∀ x ∈ o, x ∈ nm g
theorem Nice.len {g : Gr} {o : List (List UInt8)} (h : Nice g o) : o.length ≤ g.1.length + g.2.length := by
  rw [← nm_len]
  exact sub_len _ _ (h.lt.imp (fun h e => by subst e; exact List.lt_irrefl _ h)) h.nm
theorem Nice.nil (g : Gr) : Nice g [] := ⟨by simp, by simp⟩
theorem Nice.ins {g : Gr} {o : List (List UInt8)} (h : Nice g o) {s : List UInt8} (hs : s ∈ TR.nm g) : Nice g (insL s o) := ⟨insL_lt s o h.lt, fun x hx => by
  rcases mem_insL.1 hx with h1 | h1
  · exact h.nm x h1
  · rw [h1]; exact hs⟩
/-- several, one after another -/
def insA (o : List (List UInt8)) (l : List (List UInt8)) : List (List UInt8) := l.foldl (fun o s => insL s o) o
theorem insA_snoc (o l : List (List UInt8)) (s : List UInt8) : insA o (l ++ [s]) = insL s (insA o l) := by unfold insA; rw [List.foldl_append]; rfl
theorem mem_insA {x : List UInt8} : ∀ {l o : List (List UInt8)}, x ∈ insA o l ↔ x ∈ o ∨ x ∈ l
  | [], o => by simp [insA]
  | s :: l, o => by
    unfold insA
    rw [List.foldl_cons]
    have := mem_insA (x := x) (l := l) (o := insL s o)
    unfold insA at this
    rw [this, mem_insL, List.mem_cons, or_assoc]
theorem Nice.insA {g : Gr} : ∀ {l o : List (List UInt8)}, Nice g o → (∀ s ∈ l, s ∈ TR.nm g) → Nice g (insA o l)
  | [], o, h, _ => h
  | s :: l, o, h, hs => by
    unfold Go.Proofs.Ythpdmeoljdmncaa.insA
    rw [List.foldl_cons]
    exact Nice.insA (h.ins (hs s (by simp))) (fun x hx => hs x (List.mem_cons_of_mem _ hx))
/-- what one name brings -/
def cl1 (g : Gr) (o : List (List UInt8)) (x : List UInt8) : List (List UInt8) := match plc g x with | some j => insA o (insO g j) | none => o
def clo (g : Gr) (o l : List (List UInt8)) : List (List UInt8) := l.foldl (cl1 g) o
theorem clo_snoc (g : Gr) (o l : List (List UInt8)) (x : List UInt8) : clo g o (l ++ [x]) = cl1 g (clo g o l) x := by unfold clo; rw [List.foldl_append]; rfl
theorem mem_cl1 {g : Gr} {o : List (List UInt8)} {x y : List UInt8} : y ∈ cl1 g o x ↔ y ∈ o ∨ ∃ j, plc g x = some j ∧ y ∈ insO g j := by
  unfold cl1
  cases h : plc g x with
  | none => simp
  | some j => simp [mem_insA]
theorem mem_clo {g : Gr} {y : List UInt8} : ∀ {l o : List (List UInt8)}, y ∈ clo g o l ↔ y ∈ o ∨ ∃ x ∈ l, ∃ j, plc g x = some j ∧ y ∈ insO g j
  | [], o => by simp [clo]
  | x :: l, o => by
    have := mem_clo (g := g) (y := y) (l := l) (o := cl1 g o x)
    unfold clo at this ⊢
    rw [List.foldl_cons, this, mem_cl1]
    simp only [List.mem_cons, exists_eq_or_imp, or_assoc]
theorem insO_nm {g : Gr} (h : miss g = false) (j : Nat) : ∀ s ∈ insO g j, s ∈ nm g := by
  intro s hs
  unfold insO at hs
  cases hj : g.2[j]? with
  | none => rw [hj] at hs; simp at hs
  | some a => rw [hj] at hs; exact miss_not h a (List.mem_of_getElem? hj) s hs
theorem Nice.cl1 {g : Gr} (hm : miss g = false) {o : List (List UInt8)} (h : Nice g o) (x : List UInt8) : Nice g (cl1 g o x) := by
  unfold Go.Proofs.Ythpdmeoljdmncaa.cl1
  cases hp : plc g x with
  | none => exact h
  | some j => exact h.insA (insO_nm hm j)
theorem Nice.clo {g : Gr} (hm : miss g = false) : ∀ {l o : List (List UInt8)}, Nice g o → Nice g (clo g o l)
  | [], o, h => h
  | x :: l, o, h => by
    unfold Go.Proofs.Ythpdmeoljdmncaa.clo
    rw [List.foldl_cons]
    exact Nice.clo hm (h.cl1 hm x)
/-- what is needed, r rounds on -/
def rn (g : Gr) (p : Nat) : Nat → List (List UInt8)
  | 0 => insA [] (insO g p)
  | r + 1 => clo g (rn g p r) (rn g p r)
theorem rn_nice {g : Gr} (hm : miss g = false) (p : Nat) : ∀ r, Nice g (rn g p r)
  | 0 => (Nice.nil g).insA (insO_nm hm p)
  | r + 1 => Nice.clo hm (rn_nice hm p r)
theorem rn_up {g : Gr} {p : Nat} {x : List UInt8} {r : Nat} (h : x ∈ rn g p r) : ∀ k, x ∈ rn g p (r + k)
  | 0 => h
  | k + 1 => mem_clo.2 (Or.inl (rn_up h k))
theorem rn_le {g : Gr} {p : Nat} {x : List UInt8} {r k : Nat} (h : x ∈ rn g p r) (hk : r ≤ k) : x ∈ rn g p k := by
  obtain ⟨j, rfl⟩ := Nat.le.dest hk
  exact rn_up h j
theorem rn_next {g : Gr} {p j : Nat} {x y : List UInt8} {r : Nat} (h : x ∈ rn g p r) (hj : plc g x = some j) (hy : y ∈ insO g j) : y ∈ rn g p (r + 1) := mem_clo.2 (Or.inr ⟨x, h, j, hj, hy⟩)
end Go.Proofs.Ythpdmeoljdmncaa

/- The reference's order and needs are the document's. -/
namespace Go.Proofs.Ythpdmeoljdmncaa
open RC TR
set_option linter.unusedVariables false
set_option linter.unusedSimpArgs false

/-- whether an action's inputs are done, and it isn't -/
def rdy (D : List (List UInt8)) (a : Ac) : Bool := !decide (a.1 ∈ D) && a.2.1.all fun s => decide (s ∈ D)
/-- one round -/
def ordS (g : Gr) (st : List Nat × List (List UInt8)) : List Nat × List (List UInt8) := match g.2.findIdx? (rdy st.2) with | some p => (st.1 ++ [p], st.2 ++ [nmAt g p]) | none => st
def ordN (g : Gr) : Nat → List Nat × List (List UInt8)
  | 0 => ([], g.1)
  | n + 1 => ordS g (ordN g n)
def itS (g : Gr) : Nat → List Nat × List (List UInt8) → List Nat × List (List UInt8)
  | 0, x => x
  | n + 1, x => itS g n (ordS g x)
theorem itS_succ (g : Gr) : ∀ (n : Nat) (x : List Nat × List (List UInt8)), itS g (n + 1) x = ordS g (itS g n x)
  | 0, x => rfl
  | n + 1, x => by
    show itS g (n + 1) (ordS g x) = ordS g (itS g n (ordS g x))
    exact itS_succ g n (ordS g x)
theorem ordN_it (g : Gr) : ∀ n, ordN g n = itS g n ([], g.1)
  | 0 => rfl
  | n + 1 => by rw [itS_succ, ← ordN_it g n]; rfl
theorem ordS_len (g : Gr) (x : List Nat × List (List UInt8)) : (ordS g x).1.length ≤ x.1.length + 1 ∧ (ordS g x).2.length ≤ x.2.length + 1 := by
  unfold ordS
  cases g.2.findIdx? (rdy x.2) <;> simp
theorem ordN_len (g : Gr) : ∀ n, (ordN g n).1.length ≤ n ∧ (ordN g n).2.length ≤ g.1.length + n
  | 0 => by simp [ordN]
  | n + 1 => by
    have h1 := ordN_len g n
    have h2 := ordS_len g (ordN g n)
    unfold ordN
    omega
theorem findIdx_ext {α : Type} {p q : α → Bool} : ∀ (l : List α), (∀ (i : Nat) (a : α), l[i]? = some a → p a = q a) → l.findIdx? p = l.findIdx? q
  | [], _ => rfl
  | x :: l, h => by
    rw [List.findIdx?_cons, List.findIdx?_cons, h 0 x rfl, findIdx_ext l (fun i a ha => h (i + 1) a (by simpa using ha))]
/-- what is done, as the order is laid -/
def dnS (g : Gr) (st : St) : List (List UInt8) := g.1 ++ st.order.map (nmAt g)
theorem mem_dnS {g : Gr} {st : St} (h : Inv g st) {s : List UInt8} : s ∈ dnS g st ↔ s ∈ g.1 ∨ ∃ (j' o' : Nat) (b : Ac), st.order[j']? = some o' ∧ g.2[o']? = some b ∧ b.1 = s := by
  unfold dnS
  rw [List.mem_append, List.mem_map]
  constructor
  · rintro (h1 | ⟨o, ho, e⟩)
    · exact Or.inl h1
    · obtain ⟨j, hj, rfl⟩ := List.getElem_of_mem ho
      have hl := h.lt _ ho
      refine Or.inr ⟨j, _, g.2[st.order[j]], List.getElem?_eq_getElem hj, List.getElem?_eq_getElem hl, ?_⟩
      rw [← e, nmAt_of (List.getElem?_eq_getElem hl)]
  · rintro (h1 | ⟨j, o, b, hj, hb, e⟩)
    · exact Or.inl h1
    · exact Or.inr ⟨o, List.mem_of_getElem? hj, by rw [nmAt_of hb, e]⟩
theorem ready_rdy {g : Gr} (hn : (nm g).Nodup) (hm : miss g = false) {st : St} (h : Inv g st) {p : Nat} {a : Ac} (ha : g.2[p]? = some a) : ready g st.there a = rdy (dnS g st) a := by
  rw [Bool.eq_iff_iff, ready_t hn h ha (miss_not hm a (List.mem_of_getElem? ha))]
  unfold rdy
  rw [Bool.and_eq_true, List.all_eq_true, Bool.not_eq_true', decide_eq_false_iff_not]
  constructor
  · rintro ⟨h1, h2⟩
    refine ⟨fun hd => ?_, fun s hs => decide_eq_true ((mem_dnS h).2 (h2 s hs))⟩
    rcases (mem_dnS h).1 hd with h3 | ⟨j, o, b, hj, hb, e⟩
    · exact src_act hn ha h3
    · exact h1 (by rw [act_inj hn ha hb e.symm]; exact List.mem_of_getElem? hj)
  · rintro ⟨h1, h2⟩
    refine ⟨fun hd => h1 ?_, fun s hs => (mem_dnS h).1 (of_decide_eq_true (h2 s hs))⟩
    obtain ⟨j, hj, e⟩ := List.getElem_of_mem hd
    exact (mem_dnS h).2 (Or.inr ⟨j, p, a, by rw [List.getElem?_eq_getElem hj, e], ha, rfl⟩)
theorem ordS_fix {g : Gr} {x : List Nat × List (List UInt8)} (h : ordS g x = x) : ∀ n, itS g n x = x
  | 0 => rfl
  | n + 1 => by show itS g n (ordS g x) = x; rw [h]; exact ordS_fix h n
theorem arr_it {g : Gr} (hn : (nm g).Nodup) (hm : miss g = false) (h12 : g.2.length ≤ 12) : ∀ (n : Nat) (st : St), Inv g st →
    (∀ st', arr g n st = some st' → (itS g n (st.order, dnS g st)).1 = st'.order) ∧ (arr g n st = none → (itS g n (st.order, dnS g st)).1.length < st.order.length + n)
  | 0, st, h => ⟨fun st' he => by simp [arr] at he; subst he; rfl, fun he => by simp [arr] at he⟩
  | n + 1, st, h => by
    have hf : g.2.findIdx? (rdy (dnS g st)) = g.2.findIdx? (ready g st.there) := findIdx_ext _ (fun i a ha => (ready_rdy hn hm h ha).symm)
    unfold arr itS
    cases hr : g.2.findIdx? (ready g st.there) with
    | none =>
      rw [hr] at hf
      have hs : ordS g (st.order, dnS g st) = (st.order, dnS g st) := by unfold ordS; rw [hf]
      refine ⟨fun st' he => by simp at he, fun _ => ?_⟩
      rw [hs, ordS_fix hs]
      simp only []; omega
    | some p =>
      rw [hr] at hf
      obtain ⟨hp, hq, _⟩ := List.findIdx?_eq_some_iff_getElem.1 hr
      have ha : g.2[p]? = some g.2[p] := List.getElem?_eq_getElem hp
      have hi := h.take hn ha (miss_not hm _ (List.mem_of_getElem? ha)) hq h12
      have hs : ordS g (st.order, dnS g st) = ((take g st p).order, dnS g (take g st p)) := by
        unfold ordS dnS
        rw [show g.1 ++ st.order.map (nmAt g) = dnS g st from rfl, hf]
        simp [take, dnS]
      obtain ⟨h1, h2⟩ := arr_it hn hm h12 n (take g st p) hi
      rw [hs]
      refine ⟨h1, fun he => ?_⟩
      have := h2 he
      have e : (take g st p).order.length = st.order.length + 1 := by simp [take]
      omega
theorem ord_good {g : Gr} (h : TR.Good g) : (ordN g g.2.length).1 = (fin g).order := by
  rw [ordN_it]
  have := (arr_it h.nd h.ms h.le.2 g.2.length (st0 g) (inv0 h.nd)).1 _ h.arr
  simpa [st0, dnS] using this
theorem ord_none {g : Gr} (hn : (nm g).Nodup) (hm : miss g = false) (h12 : g.2.length ≤ 12) (h : arr g g.2.length (st0 g) = none) : (ordN g g.2.length).1.length < g.2.length := by
  rw [ordN_it]
  have := (arr_it hn hm h12 g.2.length (st0 g) (inv0 hn)).2 h
  simpa [st0, dnS] using this
/-- where names are of their own and nothing is missing, the order's length tells -/
theorem chk_ord {g : Gr} (hc : can g = true) (hn : (nm g).Nodup) (hm : miss g = false) : chk g = if (ordN g g.2.length).1.length = g.2.length then 0 else 23 := by
  have h12 := (can_le hc).2
  unfold chk
  rw [if_neg (by simp [hc]), if_neg (by simpa using hn), if_neg (by simp [hm])]
  cases ha : arr g g.2.length (st0 g) with
  | none =>
    have := ord_none hn hm h12 ha
    rw [if_neg (by omega)]
  | some st =>
    have h1 := (arr_it hn hm h12 g.2.length (st0 g) (inv0 hn)).1 _ ha
    have h2 := (arr_inv hn hm h12 _ _ _ (inv0 hn) ha).2
    rw [ordN_it, if_pos (by
      have e : ([], g.1) = ((st0 g).order, dnS g (st0 g)) := by simp [st0, dnS]
      rw [e, h1, h2]; simp [st0])]

/-- what stands below what is needed is needed -/
theorem nd_up {g : Gr} (h : TR.Good g) {p : Nat} {t : Ac} (ht : g.2[p]? = some t) {u s : List UInt8} (hu : u ∈ t.2.1) (hs : s ∈ ndL g u) : s ∈ ndL g t.1 := by
  have hpl : plc g u ≠ none := fun e => by
    unfold ndL at hs
    rw [if_pos (chk_zero.2 h)] at hs
    unfold ndK at hs
    rw [e] at hs
    simp at hs
  obtain ⟨o, ho⟩ := Option.ne_none_iff_exists'.1 hpl
  obtain ⟨b, hb, e⟩ := plc_some ho
  rw [← e] at hs
  obtain ⟨j, hj, hbit⟩ := (mem_ndL h hb).1 hs
  have hp : p < g.2.length := (List.getElem?_eq_some_iff.1 ht).1
  have hol : o < g.2.length := (List.getElem?_eq_some_iff.1 hb).1
  refine (mem_ndL h ht).2 ⟨j, hj, ?_⟩
  rw [h.inv.need p (h.all hp) j, insO_of ht]
  refine Or.inr ⟨o, h.all hol, ?_, hbit⟩
  rw [setOf_t]
  exact ⟨u, hu, by rw [← e]; exact pos_act h.nd hb⟩
theorem plc_nd {g : Gr} (h : TR.Good g) {u s : List UInt8} (hs : s ∈ ndL g u) : ∃ o b, plc g u = some o ∧ g.2[o]? = some b ∧ b.1 = u := by
  have hpl : plc g u ≠ none := fun e => by
    unfold ndL at hs
    rw [if_pos (chk_zero.2 h)] at hs
    unfold ndK at hs
    rw [e] at hs
    simp at hs
  obtain ⟨o, ho⟩ := Option.ne_none_iff_exists'.1 hpl
  obtain ⟨b, hb, e⟩ := plc_some ho
  exact ⟨o, b, ho, hb, e⟩
/-- an input that is an action comes ahead -/
theorem ins_ahead {g : Gr} (h : TR.Good g) {j o o' : Nat} {t b : Ac} (hj : (fin g).order[j]? = some o) (ht : g.2[o]? = some t) (hb : g.2[o']? = some b) (hs : b.1 ∈ t.2.1) : ∃ j', j' < j ∧ (fin g).order[j']? = some o' := by
  rw [← insO_of ht] at hs
  rcases h.inv.topo j o hj b.1 hs with h1 | ⟨j', o2, b2, h1, h2, h3, h4⟩
  · exact absurd h1 (src_act h.nd hb)
  · rw [act_inj h.nd h3 hb h4] at h2
    exact ⟨j', h1, h2⟩
theorem nd_tr {g : Gr} (h : TR.Good g) : ∀ (n j p : Nat) (t : Ac), j < n → (fin g).order[j]? = some p → g.2[p]? = some t → ∀ (x y : List UInt8) (q : Nat), x ∈ ndL g t.1 → plc g x = some q → y ∈ insO g q → y ∈ ndL g t.1
  | 0, j, p, t, hj, _, _, _, _, _, _, _, _ => by omega
  | n + 1, j, p, t, hj, ho, ht, x, y, q, hx, hq, hy => by
    obtain ⟨b, hb, e⟩ := plc_some hq
    rw [insO_of hb] at hy
    rcases nd_from h ht hx with h1 | ⟨u, hu, h2⟩
    · exact nd_up h ht h1 (by rw [← e]; exact nd_ins h hb hy)
    · obtain ⟨o, c, h3, h4, h5⟩ := plc_nd h h2
      obtain ⟨j', h6, h7⟩ := ins_ahead h ho ht h4 (by rw [h5]; exact hu)
      have := nd_tr h n j' o c (by omega) h7 h4 x y q (by rw [h5]; exact h2) hq (by rw [insO_of hb]; exact hy)
      rw [h5] at this
      exact nd_up h ht hu this
theorem rn_sub {g : Gr} (h : TR.Good g) {p : Nat} {t : Ac} (ht : g.2[p]? = some t) : ∀ r, ∀ x ∈ rn g p r, x ∈ ndL g t.1
  | 0, x, hx => by
    rcases mem_insA.1 (show x ∈ insA [] (insO g p) from hx) with h1 | h1
    · simp at h1
    · rw [insO_of ht] at h1; exact nd_ins h ht h1
  | r + 1, x, hx => by
    rcases mem_clo.1 (show x ∈ clo g (rn g p r) (rn g p r) from hx) with h1 | ⟨y, hy, q, hq, h2⟩
    · exact rn_sub h ht r x h1
    · have hp : p < g.2.length := (List.getElem?_eq_some_iff.1 ht).1
      obtain ⟨j, hj, e⟩ := List.getElem_of_mem (h.all hp)
      exact nd_tr h (j + 1) j p t (by omega) (by rw [List.getElem?_eq_getElem hj, e]) ht y x q (rn_sub h ht r y hy) hq h2
theorem rn_all {g : Gr} (h : TR.Good g) {p : Nat} : ∀ (n j o : Nat) (u : Ac) (r : Nat), j < n → (fin g).order[j]? = some o → g.2[o]? = some u → u.1 ∈ rn g p r → ∀ x ∈ ndL g u.1, x ∈ rn g p (r + j + 1)
  | 0, j, o, u, r, hj, _, _, _, _, _ => by omega
  | n + 1, j, o, u, r, hj, ho, hu, hr, x, hx => by
    have hpl := plc_of h.nd hu
    rcases nd_from h hu hx with h1 | ⟨v, hv, h2⟩
    · exact rn_le (rn_next hr hpl (by rw [insO_of hu]; exact h1)) (by omega)
    · obtain ⟨o', c, h3, h4, h5⟩ := plc_nd h h2
      obtain ⟨j', h6, h7⟩ := ins_ahead h ho hu h4 (by rw [h5]; exact hv)
      have := rn_all h n j' o' c (r + 1) (by omega) h7 h4 (by rw [h5]; exact rn_next hr hpl (by rw [insO_of hu]; exact hv)) x (by rw [h5]; exact h2)
      exact rn_le this (by omega)
/-- the reference's needs are the document's -/
theorem rn_eq {g : Gr} (h : TR.Good g) {p : Nat} {t : Ac} (ht : g.2[p]? = some t) : rn g p g.2.length = ndL g t.1 := by
  refine lt_ext _ _ (rn_nice h.ms p _).lt (ndL_lt h ht) fun x => ⟨rn_sub h ht _ x, fun hx => ?_⟩
  have hp : p < g.2.length := (List.getElem?_eq_some_iff.1 ht).1
  have h0 : ∀ u ∈ t.2.1, u ∈ rn g p 0 := fun u hu => mem_insA.2 (Or.inr (by rw [insO_of ht]; exact hu))
  rcases nd_from h ht hx with h1 | ⟨v, hv, h2⟩
  · exact rn_le (h0 x h1) (Nat.zero_le _)
  · obtain ⟨j, hj, e⟩ := List.getElem_of_mem (h.all hp)
    obtain ⟨o', c, h3, h4, h5⟩ := plc_nd h h2
    obtain ⟨j', h6, h7⟩ := ins_ahead h (by rw [List.getElem?_eq_getElem hj, e]) ht h4 (by rw [h5]; exact hv)
    have := rn_all h (j' + 1) j' o' c 0 (by omega) h7 h4 (by rw [h5]; exact h0 v hv) x (by rw [h5]; exact h2)
    have hl := h.len
    exact rn_le this (by omega)
end Go.Proofs.Ythpdmeoljdmncaa
